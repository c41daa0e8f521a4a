/-
  Mathematics of a table of hosts: keys and uses in a list, where a host stands, what a call is told and what is behind it. Plain lists and numbers. No conditions.
-/
import Derived.Test.YtbnmldfiheffoaaKBase
import Derived.Test.YtbnmldfiheffoaaKMix
import Derived.Deep.AppendLies
namespace Go.Proofs.Ytbnmldfiheffoaa

/-- a host: its key, its uses -/
abbrev Ho := ByteArray × Nat
def keyB (k : ByteArray) (h : Ho) : Bool := h.1.toList == k.toList
def idleB (h : Ho) : Bool := decide (h.2 = 0)
theorem keyB_iff {k : ByteArray} {h : Ho} : keyB k h = true ↔ h.1 = k := by
  unfold keyB
  rw [beq_iff_eq]
  constructor
  · intro e; exact WideShapes.bytes_inj (by rw [ByteArray.toList_eq, ByteArray.toList_eq] at e; exact e)
  · intro e; rw [e]
theorem keyB_no {k : ByteArray} {h : Ho} : keyB k h = false ↔ h.1 ≠ k := by
  rw [← Bool.not_eq_true, keyB_iff]
def nthH (l : List Ho) (k : Nat) : Ho := l.getD k (⟨#[]⟩, 0)
theorem nthH_eq {l : List Ho} {k : Nat} (h : k < l.length) : nthH l k = l[k] := by simp [nthH, h]
theorem nthH_mem {l : List Ho} {k : Nat} (h : k < l.length) : nthH l k ∈ l := by rw [nthH_eq h]; exact List.getElem_mem h
/-- the first place of which p holds; below 0: there is none -/
def placeI (p : Ho → Bool) (l : List Ho) : Int := if l.findIdx p < l.length then (l.findIdx p : Int) else -1
theorem place_hit {p : Ho → Bool} {l : List Ho} (h : l.findIdx p < l.length) : p (nthH l (l.findIdx p)) = true := by
  rw [nthH_eq h]; exact List.findIdx_getElem
theorem place_first {p : Ho → Bool} {l : List Ho} {k : Nat} (hk : k < l.length) (h1 : p (nthH l k) = true) (h2 : ∀ j, j < k → p (nthH l j) = false) : l.findIdx p = k := by
  rw [List.findIdx_eq hk]
  refine ⟨by rw [← nthH_eq hk]; exact h1, fun j hj => ?_⟩
  rw [← nthH_eq (by omega)]; exact h2 j hj
theorem place_none {p : Ho → Bool} {l : List Ho} (h : ∀ x ∈ l, p x = false) : l.findIdx p = l.length := List.findIdx_eq_length.2 h
theorem place_miss {p : Ho → Bool} {l : List Ho} (h : ¬ l.findIdx p < l.length) : ∀ x ∈ l, p x = false := by
  have h1 := List.findIdx_le_length (p := p) (xs := l)
  exact List.findIdx_eq_length.1 (by omega)
theorem placeI_yes {p : Ho → Bool} {l : List Ho} (h : l.findIdx p < l.length) : placeI p l = (l.findIdx p : Int) := by unfold placeI; rw [if_pos h]
theorem placeI_no {p : Ho → Bool} {l : List Ho} (h : ¬ l.findIdx p < l.length) : placeI p l = -1 := by unfold placeI; rw [if_neg h]

/-- how many hosts a table is for -/
def clampT (n : Int) : Nat := if n < 1 then 1 else if 32 < n then 32 else n.toNat
theorem clampT_bd (n : Int) : 1 ≤ clampT n ∧ clampT n ≤ 32 := by unfold clampT; split <;> (try split) <;> omega
theorem clampT_id {n : Nat} (h1 : 1 ≤ n) (h2 : n ≤ 32) : clampT (n : Int) = n := by unfold clampT; rw [if_neg (by omega), if_neg (by omega)]; omega

def useC (M : Nat) (l : List Ho) (k : ByteArray) : Nat :=
  if l.findIdx (keyB k) < l.length then (if 6 ≤ (nthH l (l.findIdx (keyB k))).2 then 10 else 0)
  else if l.length < M then 0 else if l.findIdx idleB < l.length then 0 else 10
def useG (M : Nat) (l : List Ho) (k : ByteArray) : ByteArray :=
  if l.findIdx (keyB k) < l.length then ⟨#[]⟩
  else if l.length < M then ⟨#[]⟩ else if l.findIdx idleB < l.length then (nthH l (l.findIdx idleB)).1 else ⟨#[]⟩
def useS (M : Nat) (l : List Ho) (k : ByteArray) : List Ho :=
  if l.findIdx (keyB k) < l.length then (if 6 ≤ (nthH l (l.findIdx (keyB k))).2 then l else l.eraseIdx (l.findIdx (keyB k)) ++ [(k, (nthH l (l.findIdx (keyB k))).2 + 1)])
  else if l.length < M then l ++ [(k, 1)] else if l.findIdx idleB < l.length then l.eraseIdx (l.findIdx idleB) ++ [(k, 1)] else l
def freeC (l : List Ho) (k : ByteArray) : Nat :=
  if l.findIdx (keyB k) < l.length then (if (nthH l (l.findIdx (keyB k))).2 = 0 then 12 else 0) else 11
def freeS (l : List Ho) (k : ByteArray) : List Ho :=
  if l.findIdx (keyB k) < l.length then (if (nthH l (l.findIdx (keyB k))).2 = 0 then l else l.set (l.findIdx (keyB k)) (k, (nthH l (l.findIdx (keyB k))).2 - 1)) else l
def usedC (l : List Ho) (k : ByteArray) : Nat := if l.findIdx (keyB k) < l.length then (nthH l (l.findIdx (keyB k))).2 else 0
def hasC (l : List Ho) (k : ByteArray) : Bool := decide (l.findIdx (keyB k) < l.length)

/-- what holds of a table at any time -/
structure HoOk (M : Nat) (l : List Ho) : Prop where
  m1 : 1 ≤ M
  m2 : M ≤ 32
  len : l.length ≤ M
  six : ∀ h ∈ l, h.2 ≤ 6
theorem HoOk.new {M : Nat} (h1 : 1 ≤ M) (h2 : M ≤ 32) : HoOk M [] := ⟨h1, h2, by simp, by simp⟩
theorem HoOk.use {M : Nat} {l : List Ho} (h : HoOk M l) (k : ByteArray) : HoOk M (useS M l k) := by
  have hm1 := h.m1
  have hle := h.len
  unfold useS
  split
  · rename_i h1
    split
    · exact h
    · rename_i h2
      refine ⟨h.m1, h.m2, by rw [List.length_append, List.length_eraseIdx, if_pos h1]; simp; omega, fun x hx => ?_⟩
      rcases List.mem_append.1 hx with h3 | h3
      · exact h.six _ (List.mem_of_mem_eraseIdx h3)
      · simp at h3; subst h3; show _ + 1 ≤ 6; omega
  · split
    · rename_i h2
      refine ⟨h.m1, h.m2, by rw [List.length_append]; simp; omega, fun x hx => ?_⟩
      rcases List.mem_append.1 hx with h3 | h3
      · exact h.six _ h3
      · simp at h3; subst h3; show 1 ≤ 6; omega
    · split
      · rename_i h1
        refine ⟨h.m1, h.m2, by rw [List.length_append, List.length_eraseIdx, if_pos h1]; simp; omega, fun x hx => ?_⟩
        rcases List.mem_append.1 hx with h3 | h3
        · exact h.six _ (List.mem_of_mem_eraseIdx h3)
        · simp at h3; subst h3; show 1 ≤ 6; omega
      · exact h
theorem HoOk.free {M : Nat} {l : List Ho} (h : HoOk M l) (k : ByteArray) : HoOk M (freeS l k) := by
  unfold freeS
  split
  · split
    · exact h
    · rename_i h1 _
      refine ⟨h.m1, h.m2, by rw [List.length_set]; exact h.len, fun x hx => ?_⟩
      rcases List.mem_or_eq_of_mem_set hx with h3 | h3
      · exact h.six _ h3
      · subst h3
        have := h.six _ (nthH_mem h1)
        show _ - 1 ≤ 6; omega
  · exact h
end Go.Proofs.Ytbnmldfiheffoaa
