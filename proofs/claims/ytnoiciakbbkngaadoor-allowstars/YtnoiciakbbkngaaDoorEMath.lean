/-
  Plain mathematics of allow: what the headers of an answer let, what has a method, what covers a header's name. No conditions beyond those of each statement.
-/
import Derived.Test.YtnoiciakbbkngaaDoorEIn
import Derived.Test.YtnoiciakbbkngaaDoorLHdr
import Derived.Test.YtnoiciakbbkngaaDoorLMeth
namespace Go.Proofs.YtnoiciakbbkngaaDoor

def metN : List UInt8 := [97, 99, 99, 101, 115, 115, 45, 99, 111, 110, 116, 114, 111, 108, 45, 97, 108, 108, 111, 119, 45, 109, 101, 116, 104, 111, 100, 115]
def hdrN : List UInt8 := [97, 99, 99, 101, 115, 115, 45, 99, 111, 110, 116, 114, 111, 108, 45, 97, 108, 108, 111, 119, 45, 104, 101, 97, 100, 101, 114, 115]
def agN : List UInt8 := [97, 99, 99, 101, 115, 115, 45, 99, 111, 110, 116, 114, 111, 108, 45, 109, 97, 120, 45, 97, 103, 101]
def authN : List UInt8 := [97, 117, 116, 104, 111, 114, 105, 122, 97, 116, 105, 111, 110]
def elsH (H : List Hd) (n : List UInt8) : List (List UInt8) := Lk.splitL (getH H n)
def tokAll (l : List (List UInt8)) : Bool := l.all Lk.tokL
def ageV (s : List UInt8) : Nat := if Lk.digL s then min (Lk.sat (Lk.valL s)) 7200 else 5
def ageH (H : List Hd) : Nat := ageV (Lk.trimL (getH H agN))
/-- what an answer lets -/
structure Al where
  ms : List (List UInt8)
  hs : List (List UInt8)
  age : Nat
def Al.zero : Al := ⟨[], [], 0⟩
def readI (H : List Hd) : Int := if tokAll (elsH H metN) then (if tokAll (elsH H hdrN) then 0 else 6) else 5
def readA (H : List Hd) : Al := if readI H = 0 then ⟨elsH H metN, (elsH H hdrN).map Lk.lower, ageH H⟩ else Al.zero
def wildT (l : List (List UInt8)) (creds : Bool) : Bool := !creds && memT l [42]
def hasA (ms : List (List UInt8)) (s : List UInt8) (creds : Bool) : Bool := Lk.safeL s || (memT ms s || wildT ms creds)
def covA (hs : List (List UInt8)) (s : List UInt8) (creds : Bool) : Bool := memT hs (Lk.lower s) || (!(Lk.lower s == authN) && wildT hs creds)
theorem readI_5 {H : List Hd} (h : tokAll (elsH H metN) = false) : readI H = 5 := by unfold readI; rw [h]; rfl
theorem readI_6 {H : List Hd} (h : tokAll (elsH H metN) = true) (h2 : tokAll (elsH H hdrN) = false) : readI H = 6 := by unfold readI; rw [h, h2]; rfl
theorem readI_0 {H : List Hd} (h : tokAll (elsH H metN) = true) (h2 : tokAll (elsH H hdrN) = true) : readI H = 0 := by unfold readI; rw [h, h2]; rfl
theorem readA_no {H : List Hd} {k : Int} (h : readI H = k) (hk : k ≠ 0) : readA H = Al.zero := by unfold readA; rw [h, if_neg hk]
theorem readA_0 {H : List Hd} (h : readI H = 0) : readA H = ⟨elsH H metN, (elsH H hdrN).map Lk.lower, ageH H⟩ := by unfold readA; rw [if_pos h]
theorem tokAll_here {l : List (List UInt8)} {k : Nat} (h : k < l.length) (hf : Lk.tokL l[k] = false) : tokAll l = false := by
  cases ht : tokAll l
  · rfl
  · unfold tokAll at ht
    rw [List.all_eq_true] at ht
    rw [ht _ (List.getElem_mem h)] at hf
    exact hf
theorem tokAll_next {l : List (List UInt8)} {k : Nat} (h : k < l.length) (h0 : tokAll (l.take k) = true) (hf : Lk.tokL l[k] = true) : tokAll (l.take (k + 1)) = true := by
  unfold tokAll at *
  rw [List.take_succ_eq_append_getElem h, List.all_append, h0, List.all_cons, hf]
  rfl
theorem ageV_le (s : List UInt8) : ageV s ≤ 7200 := by unfold ageV; split <;> omega
theorem cuts_small : ∀ (l : List UInt8), ∀ x ∈ Lk.cuts l, x.length ≤ l.length
  | [], x, h => by simp [Lk.cuts] at h; subst h; simp
  | c :: r, x, h => by
    have ih := cuts_small r
    rw [Lk.cuts_cons] at h
    split at h
    · rcases List.mem_cons.1 h with rfl | h
      · simp
      · have := ih x h; simp; omega
    · cases hc : Lk.cuts r with
      | nil => rw [hc] at h; simp [Lk.glue] at h; subst h; simp
      | cons p ps =>
        rw [hc] at h ih
        rcases List.mem_cons.1 h with rfl | h
        · have := ih p (List.mem_cons_self ..); simp; omega
        · have := ih x (List.mem_cons_of_mem _ h); simp; omega
theorem split_small (l : List UInt8) : ∀ x ∈ Lk.splitL l, x.length ≤ l.length := by
  intro x hx
  obtain ⟨p, hp, rfl⟩ := List.mem_map.1 (List.mem_filter.1 hx).1
  exact Nat.le_trans (Lk.trim_len p) (cuts_small l p hp)
theorem els_small {H : List Hd} (h : Sm H) (n : List UInt8) : ∀ x ∈ elsH H n, x.length ≤ 200000000 :=
  fun x hx => Nat.le_trans (split_small _ x hx) (get_len h n)
theorem els_len {H : List Hd} (h : Sm H) (n : List UInt8) : (elsH H n).length ≤ 200000001 := by
  have h1 := Lk.split_len (getH H n)
  have h2 := get_len h n
  unfold elsH; omega
end Go.Proofs.YtnoiciakbbkngaaDoor
