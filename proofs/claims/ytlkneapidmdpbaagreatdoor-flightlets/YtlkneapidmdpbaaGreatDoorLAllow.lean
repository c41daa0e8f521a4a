/-
  The plain mathematics and the contracts of allow over this seat's program. Conditions: those of each statement.
-/
import Derived.Test.YtlkneapidmdpbaaGreatDoorLBase
import Derived.Test.YtlkneapidmdpbaaGreatDoorLHdr
import Derived.Test.YtlkneapidmdpbaaGreatDoorLMeth
import Derived.Test.YtlkneapidmdpbaaGreatDoorLRef5
namespace Go.Proofs.YtlkneapidmdpbaaGreatDoor
open Go.RowKit

/-- is a text one of these? -/
def memT (l : List (List UInt8)) (s : List UInt8) : Bool := l.any (fun x => decide (x = s))
def datB (xs : List ByteArray) : List (List UInt8) := xs.map (fun x => x.data.toList)
theorem memT_here {xs : List ByteArray} {k : Nat} (h : k < xs.length) : memT (datB xs) xs[k].data.toList = true := by
  unfold memT datB
  rw [List.any_eq_true]
  exact ⟨_, List.mem_map_of_mem (List.getElem_mem h), by simp⟩
theorem memT_next {xs : List ByteArray} {k : Nat} {t : ByteArray} (h : k < xs.length) (h0 : memT (datB (xs.take k)) t.data.toList = false) (hne : ¬ xs[k] = t) : memT (datB (xs.take (k + 1))) t.data.toList = false := by
  have hne2 : ¬ xs[k].data.toList = t.data.toList := fun e => hne (ByteArray.ext (Array.toList_inj.1 e))
  rw [List.take_succ_eq_append_getElem h]
  unfold memT datB at *
  simp only [List.map_append, List.map_cons, List.map_nil, List.any_append, List.any_cons, List.any_nil, Bool.or_false]
  rw [h0]
  simpa using hne2
theorem beq_ba {x t : ByteArray} (h : ¬ x = t) : (x.toList == t.toList) = false := by
  rw [beq_eq_false_iff_ne]; intro e; exact h (WideShapes.bytes_inj (by rw [ByteArray.toList_eq, ByteArray.toList_eq] at e; exact e))

set_option maxHeartbeats 1000000 in
theorem SIndex_any (A : Option Addr) (n c B : Nat) (xs : List ByteArray) (t : ByteArray) (w : World) (hn : n = xs.length) (hl : xs.length ≤ maxLen) (hx : SRow w B A xs) :
    Calls Tryz.prog 125 #[.slice A n c, .string t] w fun e w' => ∃ i : Int, e = .returned (.int .i64 i) ∧ decide (i ≥ 0) = memT (datB xs) t.data.toList ∧ ∃ m, w' = w.drewN m := by
  subst hn
  unfold maxLen at hl
  have HX := Lib.hid hx
  clear hx
  go_enter Tryz.func125, Tryz.ntmps125
  go_wp2
  go_loopw [8] (fun i wr => ∃ k m : Nat, k ≤ xs.length ∧ i = .int .i64 k ∧ wr = w.drewN m ∧ memT (datB (xs.take k)) t.data.toList = false) (fun i _ => xs.length - (intOf i).toNat)
  case atStart => exact ⟨0, 0, Nat.zero_le _, rfl, rfl, rfl⟩
  case round =>
    obtain ⟨k, m, hk, rfl, hw, hf⟩ := hrel
    have HW := Lib.hid hw
    have HF := Lib.hid hf
    clear hw hf
    by_cases hlt : k < xs.length
    · obtain ⟨a1, e1, _, hc1⟩ := HX.out k xs[k] (List.getElem?_eq_getElem hlt)
      have hc1' : wr.cell? (a1.add k) = some (.string xs[k]) := by rw [HW.out]; exact hc1
      have HH := Lib.hid (memT_here hlt)
      have HN : Hid (¬ xs[k] = t → memT (datB (xs.take (k + 1))) t.data.toList = false) := memT_next hlt HF.out
      clear hc1
      generalize xs[k] = x at *
      subst e1
      by_cases hxy : x = t
      · subst hxy
        clear HN
        go_wp2_with fail
        try go_quiet (fail)
        go_wp2
        go_ret
        exact ⟨k, rfl, by rw [HH.out]; simp, _, by first | exact HW.out | (rw [HW.out, World.drewN_drewN])⟩
      · have hbe : (t.toList == x.toList) = false := beq_ba (fun e => hxy e.symm)
        have HM := Lib.hid (HN.out hxy)
        clear hxy HN HH
        go_wp2_with fail
        try go_quiet (fail)
        go_wp2
        go_roundw
        case rel => exact ⟨k + 1, _, by omega, by go_num, by first | exact HW.out | (rw [HW.out, World.drewN_drewN]), HM.out⟩
        case measure => simp [intOf]; omega
    · have HT : Hid (memT (datB xs) t.data.toList = false) := by
        have h := HF.out
        rwa [List.take_of_length_le (by omega)] at h
      go_wp2
      go_ret
      exact ⟨-1, rfl, by rw [HT.out]; decide, m, HW.out⟩

set_option maxHeartbeats 1000000 in
theorem SContains_any (A : Option Addr) (n c B : Nat) (xs : List ByteArray) (t : ByteArray) (w : World) (hn : n = xs.length) (hl : xs.length ≤ maxLen) (hx : SRow w B A xs) :
    Calls Tryz.prog 79 #[.slice A n c, .string t] w fun e w' => e = .returned (.bool (memT (datB xs) t.data.toList)) ∧ ∃ m, w' = w.drewN m := by
  have HX := Lib.hid hx
  have HL := Lib.hid hl
  have HN := Lib.hid hn
  clear hx hl hn
  go_enter Tryz.func79, Tryz.ntmps79
  go_wp2_with fail
  refine (SIndex_any A n c B xs t _ HN.out HL.out HX.out).mono ?_
  rintro e w1 ⟨i, rfl, hi, m, hw⟩
  have HI := Lib.hid hi
  have HW := Lib.hid hw
  clear hi hw
  go_wp2
  go_ret
  exact ⟨ret_bool HI.out, m, HW.out⟩

set_option maxHeartbeats 1000000 in
theorem among_any (A : Option Addr) (n c B : Nat) (xs : List ByteArray) (t : ByteArray) (w : World) (hn : n = xs.length) (hl : xs.length ≤ maxLen) (hx : SRow w B A xs) :
    Calls Tryz.prog 97 #[.string t, .slice A n c] w fun e w' => e = .returned (.bool (memT (datB xs) t.data.toList)) ∧ ∃ m, w' = w.drewN m := by
  subst hn
  unfold maxLen at hl
  have HX := Lib.hid hx
  clear hx
  go_enter Tryz.func97, Tryz.ntmps97
  go_wp2
  go_loopw [5] (fun i wr => ∃ k m : Nat, k ≤ xs.length ∧ i = .int .i64 k ∧ wr = w.drewN m ∧ memT (datB (xs.take k)) t.data.toList = false) (fun i _ => xs.length - (intOf i).toNat)
  case atStart => exact ⟨0, 0, Nat.zero_le _, rfl, rfl, rfl⟩
  case round =>
    obtain ⟨k, m, hk, rfl, hw, hf⟩ := hrel
    have HW := Lib.hid hw
    have HF := Lib.hid hf
    clear hw hf
    by_cases hlt : k < xs.length
    · obtain ⟨a1, e1, _, hc1⟩ := HX.out k xs[k] (List.getElem?_eq_getElem hlt)
      have hc1' : wr.cell? (a1.add k) = some (.string xs[k]) := by rw [HW.out]; exact hc1
      have HH := Lib.hid (memT_here hlt)
      have HN : Hid (¬ xs[k] = t → memT (datB (xs.take (k + 1))) t.data.toList = false) := memT_next hlt HF.out
      clear hc1
      generalize xs[k] = x at *
      subst e1
      by_cases hxy : x = t
      · subst hxy
        clear HN
        go_wp2_with fail
        try go_quiet (fail)
        go_wp2
        go_ret
        exact ⟨ret_bool HH.out.symm, _, by first | exact HW.out | (rw [HW.out, World.drewN_drewN])⟩
      · have hbe : (x.toList == t.toList) = false := beq_ba hxy
        have HM := Lib.hid (HN.out hxy)
        clear hxy HN HH
        go_wp2_with fail
        try go_quiet (fail)
        go_wp2
        go_roundw
        case rel => exact ⟨k + 1, _, by omega, by go_num, by first | exact HW.out | (rw [HW.out, World.drewN_drewN]), HM.out⟩
        case measure => simp [intOf]; omega
    · have HT : Hid (memT (datB xs) t.data.toList = false) := by
        have h := HF.out
        rwa [List.take_of_length_le (by omega)] at h
      go_wp2
      go_ret
      exact ⟨ret_bool HT.out.symm, m, HW.out⟩
end Go.Proofs.YtlkneapidmdpbaaGreatDoor

namespace Go.Proofs.YtlkneapidmdpbaaGreatDoor

def metN : List UInt8 := [97, 99, 99, 101, 115, 115, 45, 99, 111, 110, 116, 114, 111, 108, 45, 97, 108, 108, 111, 119, 45, 109, 101, 116, 104, 111, 100, 115]
def hdrN : List UInt8 := [97, 99, 99, 101, 115, 115, 45, 99, 111, 110, 116, 114, 111, 108, 45, 97, 108, 108, 111, 119, 45, 104, 101, 97, 100, 101, 114, 115]
def agN : List UInt8 := [97, 99, 99, 101, 115, 115, 45, 99, 111, 110, 116, 114, 111, 108, 45, 109, 97, 120, 45, 97, 103, 101]
def authN : List UInt8 := [97, 117, 116, 104, 111, 114, 105, 122, 97, 116, 105, 111, 110]
def elsH (H : List Hd) (n : List UInt8) : List (List UInt8) := Lk.splitL (getH H n)
def tokAll (l : List (List UInt8)) : Bool := l.all Lk.tokL
def ageV (s : List UInt8) : Nat := if Lk.digL s then min (Lk.sat (Lk.valL s)) 7200 else 5
def ageH (H : List Hd) : Nat := ageV (Lk.trimL (getH H agN))
/-- what an answer lets -/
structure Al where
  ms : List (List UInt8)
  hs : List (List UInt8)
  age : Nat
def Al.zero : Al := ⟨[], [], 0⟩
def readI (H : List Hd) : Int := if tokAll (elsH H metN) then (if tokAll (elsH H hdrN) then 0 else 6) else 5
def readA (H : List Hd) : Al := if readI H = 0 then ⟨elsH H metN, (elsH H hdrN).map Lk.lower, ageH H⟩ else Al.zero
def wildT (l : List (List UInt8)) (creds : Bool) : Bool := !creds && memT l [42]
def hasA (ms : List (List UInt8)) (s : List UInt8) (creds : Bool) : Bool := Lk.safeL s || (memT ms s || wildT ms creds)
def covA (hs : List (List UInt8)) (s : List UInt8) (creds : Bool) : Bool := memT hs (Lk.lower s) || (!(Lk.lower s == authN) && wildT hs creds)
theorem readI_5 {H : List Hd} (h : tokAll (elsH H metN) = false) : readI H = 5 := by unfold readI; rw [h]; rfl
theorem readI_6 {H : List Hd} (h : tokAll (elsH H metN) = true) (h2 : tokAll (elsH H hdrN) = false) : readI H = 6 := by unfold readI; rw [h, h2]; rfl
theorem readI_0 {H : List Hd} (h : tokAll (elsH H metN) = true) (h2 : tokAll (elsH H hdrN) = true) : readI H = 0 := by unfold readI; rw [h, h2]; rfl
theorem readA_no {H : List Hd} {k : Int} (h : readI H = k) (hk : k ≠ 0) : readA H = Al.zero := by unfold readA; rw [h, if_neg hk]
theorem readA_0 {H : List Hd} (h : readI H = 0) : readA H = ⟨elsH H metN, (elsH H hdrN).map Lk.lower, ageH H⟩ := by unfold readA; rw [if_pos h]
theorem tokAll_here {l : List (List UInt8)} {k : Nat} (h : k < l.length) (hf : Lk.tokL l[k] = false) : tokAll l = false := by
  cases ht : tokAll l
  · rfl
  · unfold tokAll at ht
    rw [List.all_eq_true] at ht
    rw [ht _ (List.getElem_mem h)] at hf
    exact hf
theorem tokAll_next {l : List (List UInt8)} {k : Nat} (h : k < l.length) (h0 : tokAll (l.take k) = true) (hf : Lk.tokL l[k] = true) : tokAll (l.take (k + 1)) = true := by
  unfold tokAll at *
  rw [List.take_succ_eq_append_getElem h, List.all_append, h0, List.all_cons, hf]
  rfl
theorem ageV_le (s : List UInt8) : ageV s ≤ 7200 := by unfold ageV; split <;> omega
theorem cuts_small : ∀ (l : List UInt8), ∀ x ∈ Lk.cuts l, x.length ≤ l.length
  | [], x, h => by simp [Lk.cuts] at h; subst h; simp
  | c :: r, x, h => by
    have ih := cuts_small r
    rw [Lk.cuts_cons] at h
    split at h
    · rcases List.mem_cons.1 h with rfl | h
      · simp
      · have := ih x h; simp; omega
    · cases hc : Lk.cuts r with
      | nil => rw [hc] at h; simp [Lk.glue] at h; subst h; simp
      | cons p ps =>
        rw [hc] at h ih
        rcases List.mem_cons.1 h with rfl | h
        · have := ih p (List.mem_cons_self ..); simp; omega
        · have := ih x (List.mem_cons_of_mem _ h); simp; omega
theorem split_small (l : List UInt8) : ∀ x ∈ Lk.splitL l, x.length ≤ l.length := by
  intro x hx
  obtain ⟨p, hp, rfl⟩ := List.mem_map.1 (List.mem_filter.1 hx).1
  exact Nat.le_trans (Lk.trim_len p) (cuts_small l p hp)
theorem els_small {H : List Hd} (h : Sm H) (n : List UInt8) : ∀ x ∈ elsH H n, x.length ≤ 200000000 :=
  fun x hx => Nat.le_trans (split_small _ x hx) (get_len h n)
theorem els_len {H : List Hd} (h : Sm H) (n : List UInt8) : (elsH H n).length ≤ 200000001 := by
  have h1 := Lk.split_len (getH H n)
  have h2 := get_len h n
  unfold elsH; omega
end Go.Proofs.YtlkneapidmdpbaaGreatDoor

namespace Go.Proofs.YtlkneapidmdpbaaGreatDoor
open Go.RowKit

/-- what an answer lets as a value -/
structure Av where
  A1 : Option Addr
  n1 : Nat
  c1 : Nat
  A2 : Option Addr
  n2 : Nat
  c2 : Nat
  g : Int
def Av.v (a : Av) : Value := .agg #[.slice a.A1 a.n1 a.c1, .slice a.A2 a.n2 a.c2, .int .u64 a.g]
def Av.zero : Av := ⟨none, 0, 0, none, 0, 0, 0⟩
/-- its two rows lie where it says -/
structure AvIs (w : World) (a : Av) (z : Al) : Prop where
  r1 : SRow w w.heap.size a.A1 (z.ms.map mk)
  r2 : SRow w w.heap.size a.A2 (z.hs.map mk)
  e1 : a.n1 = z.ms.length
  e2 : a.n2 = z.hs.length
  g : a.g = (z.age : Int)
  l1 : z.ms.length ≤ maxLen
  l2 : z.hs.length ≤ maxLen
theorem srow_up {w w' : World} {B B' : Nat} {A : Option Addr} {xs : List ByteArray} (h : SRow w B A xs) (hb : Below B w w') (hB : B ≤ B') : SRow w' B' A xs := by
  intro j x hj
  obtain ⟨ad, e, h1, hc⟩ := h j x hj
  exact ⟨ad, e, by omega, (hb.cell (p := ad.add j) (by unfold Addr.add; split <;> exact h1)).trans hc⟩
theorem AvIs.below {w w' : World} {a : Av} {z : Al} (h : AvIs w a z) (hb : Below w.heap.size w w') : AvIs w' a z :=
  ⟨srow_up h.r1 hb hb.size, srow_up h.r2 hb hb.size, h.e1, h.e2, h.g, h.l1, h.l2⟩
theorem AvIs.zero (w : World) : AvIs w Av.zero Al.zero :=
  ⟨fun j x h => by simp [Al.zero] at h, fun j x h => by simp [Al.zero] at h, rfl, rfl, rfl, by simp [Al.zero], by simp [Al.zero]⟩
theorem datB_mk (l : List (List UInt8)) : datB (l.map mk) = l := by
  unfold datB
  rw [List.map_map]
  conv => rhs; rw [← List.map_id l]
  apply List.map_congr_left
  intro x _
  exact mk_data x

/-- it lies in a block -/
structure AlAt (W : World) (g : Nat) (a : Av) : Prop where
  c0 : W.cell? ⟨g, 0, none⟩ = some (.slice a.A1 a.n1 a.c1)
  c1 : W.cell? ⟨g, 1, none⟩ = some (.slice a.A2 a.n2 a.c2)
  c2 : W.cell? ⟨g, 2, none⟩ = some (.int .u64 a.g)
  own : ∀ i, W.frozen? ⟨g, i, none⟩ = false
theorem AlAt.lt {W : World} {g : Nat} {a : Av} (o : AlAt W g a) : g < W.heap.size := block_of_cell o.c0
theorem AlAt.below {W W' : World} {g B : Nat} {a : Av} (o : AlAt W g a) (hb : Below B W W') (hg : g < B) : AlAt W' g a :=
  ⟨(hb.cell hg).trans o.c0, (hb.cell hg).trans o.c1, (hb.cell hg).trans o.c2, fun i => (hb.frozen hg).trans (o.own i)⟩
theorem AlAt.up {W W' : World} {g : Nat} {a : Av} (o : AlAt W g a) (hb : Below W.heap.size W W') : AlAt W' g a := o.below hb o.lt
theorem AlAt.new (w : World) (a : Av) (t : TypeId) : AlAt (w.alloc (.cells #[.slice a.A1 a.n1 a.c1, .slice a.A2 a.n2 a.c2, .int .u64 a.g] t)) w.heap.size a := ⟨by simp, by simp, by simp, fun i => by simp⟩
theorem al_keep {W : World} {g i j : Nat} {u v : Value} (h : W.cell? ⟨g, i, none⟩ = some u) (hij : j ≠ i) : (W.setCell ⟨g, j, none⟩ v).cell? ⟨g, i, none⟩ = some u :=
  (World.cell?_setCell_other W ⟨g, j, none⟩ ⟨g, i, none⟩ v (by intro e; cases e; exact hij rfl)).trans h
def AlAt.put (W : World) (g : Nat) (a : Av) : World :=
  ((W.setCell ⟨g, 0, none⟩ (.slice a.A1 a.n1 a.c1)).setCell ⟨g, 1, none⟩ (.slice a.A2 a.n2 a.c2)).setCell ⟨g, 2, none⟩ (.int .u64 a.g)
theorem AlAt.set0 {W : World} {g : Nat} {a : Av} (o : AlAt W g a) (A : Option Addr) (n c : Nat) : AlAt (W.setCell ⟨g, 0, none⟩ (.slice A n c)) g { a with A1 := A, n1 := n, c1 := c } :=
  ⟨World.cell?_setCell_same _ _ _ o.c0, al_keep o.c1 (by decide), al_keep o.c2 (by decide), fun i => by rw [World.frozen?_setCell]; exact o.own i⟩
theorem AlAt.set1 {W : World} {g : Nat} {a : Av} (o : AlAt W g a) (A : Option Addr) (n c : Nat) : AlAt (W.setCell ⟨g, 1, none⟩ (.slice A n c)) g { a with A2 := A, n2 := n, c2 := c } :=
  ⟨al_keep o.c0 (by decide), World.cell?_setCell_same _ _ _ o.c1, al_keep o.c2 (by decide), fun i => by rw [World.frozen?_setCell]; exact o.own i⟩
theorem AlAt.set2 {W : World} {g : Nat} {a : Av} (o : AlAt W g a) (n : Int) : AlAt (W.setCell ⟨g, 2, none⟩ (.int .u64 n)) g { a with g := n } :=
  ⟨al_keep o.c0 (by decide), al_keep o.c1 (by decide), World.cell?_setCell_same _ _ _ o.c2, fun i => by rw [World.frozen?_setCell]; exact o.own i⟩
theorem AlAt.put_at {W : World} {g : Nat} {z : Av} (o : AlAt W g z) (a : Av) : AlAt (AlAt.put W g a) g a := ((o.set0 a.A1 a.n1 a.c1).set1 a.A2 a.n2 a.c2).set2 a.g
theorem AlAt.put_below {B : Nat} {w W : World} {g : Nat} (h : Below B w W) (hg : B ≤ g) (a : Av) : Below B w (AlAt.put W g a) := ((h.setCell hg _).setCell hg _).setCell hg _
end Go.Proofs.YtlkneapidmdpbaaGreatDoor

namespace Go.Proofs.YtlkneapidmdpbaaGreatDoor
open Go.RowKit

theorem ELower_as (s t : ByteArray) (w : World) (hs : s.size ≤ maxLen) (ht : t.data.toList = Lk.lower s.data.toList) :
    Calls Tryz.prog 76 #[.string s] w fun e w' => e = .returned (.string t) ∧ Below w.heap.size w w' := by
  obtain rfl : t = mk (Lk.lower s.data.toList) := by rw [← ht]; exact (mk_eq t).symm
  exact Lower_any s w hs
theorem erefLower_as (s t : ByteArray) (w : World) (hs : s.size ≤ maxLen) (ht : t.data.toList = Lk.lower s.data.toList) :
    Calls Tryz.prog 94 #[.string s] w fun e w' => e = .returned (.string t) ∧ Below w.heap.size w w' := by
  obtain rfl : t = mk (Lk.lower s.data.toList) := by rw [← ht]; exact (mk_eq t).symm
  exact refLower_any s w hs
theorem lower_ba (s : ByteArray) : ∃ t : ByteArray, t.data.toList = Lk.lower s.data.toList := ⟨mk (Lk.lower s.data.toList), mk_data _⟩

set_option maxHeartbeats 1000000 in
theorem needsNone_any (s : ByteArray) (w : World) (hs : s.size ≤ maxLen) (he : MEnv w) :
    Calls Tryz.prog 78 #[.string s] w fun e w' => e = .returned (.bool (Lk.safeL s.data.toList)) ∧ ∃ n, w' = w.drewN n := by
  have HS := Lib.hid hs
  have HE := Lib.hid he
  clear hs he
  go_enter Tryz.func78, Tryz.ntmps78
  go_wp2_with fail
  refine (Safe_any s _ HS.out HE.out).mono ?_
  rintro e w1 ⟨rfl, n, hw⟩
  have HW := Lib.hid hw
  clear hw
  go_wp2
  go_ret
  exact ⟨rfl, n, HW.out⟩

set_option maxHeartbeats 1000000 in
theorem isWild_any (A : Option Addr) (n c B : Nat) (l : List (List UInt8)) (creds : Bool) (w : World) (hn : n = l.length) (hl : l.length ≤ maxLen) (hx : SRow w B A (l.map mk)) :
    Calls Tryz.prog 80 #[.slice A n c, .bool creds] w fun e w' => e = .returned (.bool (wildT l creds)) ∧ ∃ m, w' = w.drewN m := by
  have HX := Lib.hid hx
  have HL : Hid ((l.map mk).length ≤ maxLen) := by show _ ≤ _; rw [List.length_map]; exact hl
  have HN : Hid (n = (l.map mk).length) := by show _ = _; rw [List.length_map]; exact hn
  clear hx hl hn
  cases creds
  · go_enter Tryz.func80, Tryz.ntmps80
    go_wp2_with fail
    refine (SContains_any A n c B (l.map mk) _ _ HN.out HL.out HX.out).mono ?_
    rintro e w1 ⟨rfl, m, hw⟩
    rw [datB_mk]
    have HW := Lib.hid hw
    clear hw
    go_wp2
    go_ret
    exact ⟨rfl, m, HW.out⟩
  · go_enter Tryz.func80, Tryz.ntmps80
    go_wp2
    go_ret
    exact ⟨rfl, 0, rfl⟩

set_option maxHeartbeats 2000000 in
theorem Has_any (a : Av) (z : Al) (s : ByteArray) (creds : Bool) (w : World) (ha : AvIs w a z) (hs : s.size ≤ maxLen) (he : MEnv w) :
    Calls Tryz.prog 39 #[a.v, .string s, .bool creds] w fun e w' => e = .returned (.bool (hasA z.ms s.data.toList creds)) ∧ Below w.heap.size w w' := by
  obtain ⟨A1, n1, c1, A2, n2, c2, g⟩ := a
  obtain ⟨W, hW⟩ : ∃ W, W = w.alloc (.cells #[.slice A1 n1 c1, .slice A2 n2 c2, .int .u64 g] 28) := ⟨_, rfl⟩
  have hb0 : Below w.heap.size w W := by rw [hW]; exact (Below.refl _ _).alloc (Nat.le_refl _) _
  have HB := Lib.hid hb0
  have HA := Lib.hid (ha.below hb0)
  have HE := Lib.hid (he.below hb0)
  have HC : Hid (AlAt W w.heap.size ⟨A1, n1, c1, A2, n2, c2, g⟩) := by rw [hW]; exact AlAt.new w ⟨A1, n1, c1, A2, n2, c2, g⟩ _
  have HS := Lib.hid hs
  have HN : Hid (n1 = (z.ms.map mk).length) := by show _ = _; rw [List.length_map]; exact ha.e1
  have HN0 : Hid (n1 = z.ms.length) := ha.e1
  have HL : Hid ((z.ms.map mk).length ≤ maxLen) := by show _ ≤ _; rw [List.length_map]; exact ha.l1
  have HL0 : Hid (z.ms.length ≤ maxLen) := ha.l1
  clear hb0 ha he hs
  unfold Av.v
  dsimp only
  go_enter Tryz.func39, Tryz.ntmps39
  go_wp2_with fail
  rw [← hW]
  clear hW
  refine (needsNone_any s _ HS.out HE.out).mono ?_
  rintro e w1 ⟨rfl, n, hw⟩
  have hC := HC.out.c0
  rw [show W.cell? ⟨w.heap.size, 0, none⟩ = w1.cell? ⟨w.heap.size, 0, none⟩ by rw [hw]; rfl] at hC
  have HX : Hid (SRow w1 W.heap.size A1 (z.ms.map mk)) := by rw [hw]; exact HA.out.r1
  have HB1 : Hid (Below w.heap.size w w1) := by rw [hw]; exact below_drewN HB.out n
  clear hw HB HA HE HC
  dsimp only at hC
  cases k1 : Lk.safeL s.data.toList
  · have K1 := Lib.hid k1
    clear k1
    go_wp2_with fail
    refine (SContains_any A1 n1 c1 _ (z.ms.map mk) s _ HN.out HL.out HX.out).mono ?_
    rintro e w2 ⟨rfl, m, hw⟩
    rw [datB_mk]
    have hC2 : w2.cell? ⟨w.heap.size, 0, none⟩ = some (.slice A1 n1 c1) := by rw [hw]; exact hC
    have HX2 : Hid (SRow w2 W.heap.size A1 (z.ms.map mk)) := by rw [hw]; exact HX.out
    have HB2 : Hid (Below w.heap.size w w2) := by rw [hw]; exact below_drewN HB1.out m
    clear hw HX HB1 hC
    cases k2 : memT z.ms s.data.toList
    · have K2 := Lib.hid k2
      clear k2
      go_wp2_with fail
      refine (isWild_any A1 n1 c1 _ z.ms creds _ HN0.out HL0.out HX2.out).mono ?_
      rintro e w3 ⟨rfl, m3, hw⟩
      have HB3 : Hid (Below w.heap.size w w3) := by rw [hw]; exact below_drewN HB2.out m3
      clear hw HX2 HB2 hC2
      go_wp2
      go_ret
      exact ⟨ret_bool (by unfold hasA; rw [K1.out, K2.out]; rfl), HB3.out⟩
    · have K2 := Lib.hid k2
      clear k2
      go_wp2
      go_ret
      exact ⟨ret_bool (by unfold hasA; rw [K1.out, K2.out]; rfl), HB2.out⟩
  · have K1 := Lib.hid k1
    clear k1
    go_wp2
    go_ret
    exact ⟨ret_bool (by unfold hasA; rw [K1.out]; rfl), HB1.out⟩

theorem auth_beq (t : ByteArray) : (t.toList == [97, 117, 116, 104, 111, 114, 105, 122, 97, 116, 105, 111, 110]) = (t.data.toList == authN) := by rw [ByteArray.toList_eq]; rfl

set_option maxHeartbeats 2000000 in
theorem Covers_any (a : Av) (z : Al) (s : ByteArray) (creds : Bool) (w : World) (ha : AvIs w a z) (hs : s.size ≤ maxLen) :
    Calls Tryz.prog 81 #[a.v, .string s, .bool creds] w fun e w' => e = .returned (.bool (covA z.hs s.data.toList creds)) ∧ Below w.heap.size w w' := by
  obtain ⟨A1, n1, c1, A2, n2, c2, g⟩ := a
  obtain ⟨t, ht⟩ := lower_ba s
  have HT := Lib.hid ht
  clear ht
  obtain ⟨W, hW⟩ : ∃ W, W = w.alloc (.cells #[.slice A1 n1 c1, .slice A2 n2 c2, .int .u64 g] 28) := ⟨_, rfl⟩
  have hb0 : Below w.heap.size w W := by rw [hW]; exact (Below.refl _ _).alloc (Nat.le_refl _) _
  have HB := Lib.hid hb0
  have HA := Lib.hid (ha.below hb0)
  have HC : Hid (AlAt W w.heap.size ⟨A1, n1, c1, A2, n2, c2, g⟩) := by rw [hW]; exact AlAt.new w ⟨A1, n1, c1, A2, n2, c2, g⟩ _
  have HS := Lib.hid hs
  have HN : Hid (n2 = (z.hs.map mk).length) := by show _ = _; rw [List.length_map]; exact ha.e2
  have HN0 : Hid (n2 = z.hs.length) := ha.e2
  have HL : Hid ((z.hs.map mk).length ≤ maxLen) := by show _ ≤ _; rw [List.length_map]; exact ha.l2
  have HL0 : Hid (z.hs.length ≤ maxLen) := ha.l2
  clear hb0 ha hs
  unfold Av.v
  dsimp only
  go_enter Tryz.func81, Tryz.ntmps81
  go_wp2_with fail
  rw [← hW]
  clear hW
  refine (ELower_as s t _ HS.out HT.out).mono ?_
  rintro e w1 ⟨rfl, hb1⟩
  have hC := (HC.out.up hb1).c1
  have HX : Hid (SRow w1 w1.heap.size A2 (z.hs.map mk)) := (HA.out.below hb1).r2
  have HB1 : Hid (Below w.heap.size w w1) := HB.out.trans (hb1.mono HB.out.size)
  clear hb1 HB HA HC
  dsimp only at hC
  go_wp2_with fail
  refine (SContains_any A2 n2 c2 _ (z.hs.map mk) t _ HN.out HL.out HX.out).mono ?_
  rintro e w2 ⟨rfl, m, hw⟩
  rw [datB_mk]
  have hC2 : w2.cell? ⟨w.heap.size, 1, none⟩ = some (.slice A2 n2 c2) := by rw [hw]; exact hC
  have HX2 : Hid (SRow w2 w1.heap.size A2 (z.hs.map mk)) := by rw [hw]; exact HX.out
  have HB2 : Hid (Below w.heap.size w w2) := by rw [hw]; exact below_drewN HB1.out m
  clear hw HX HB1 hC
  cases k2 : memT z.hs t.data.toList
  · have K2 := Lib.hid k2
    clear k2
    cases k3 : t.toList == [97, 117, 116, 104, 111, 114, 105, 122, 97, 116, 105, 111, 110]
    · have K3 : Hid ((t.data.toList == authN) = false) := by show _ = _; rw [← auth_beq]; exact k3
      go_wp2_with fail
      refine (isWild_any A2 n2 c2 _ z.hs creds _ HN0.out HL0.out HX2.out).mono ?_
      rintro e w3 ⟨rfl, m3, hw⟩
      have HB3 : Hid (Below w.heap.size w w3) := by rw [hw]; exact below_drewN HB2.out m3
      clear hw HX2 HB2 hC2
      go_wp2
      go_ret
      exact ⟨ret_bool (by unfold covA; rw [← HT.out, K2.out, K3.out]; rfl), HB3.out⟩
    · have K3 : Hid ((t.data.toList == authN) = true) := by show _ = _; rw [← auth_beq]; exact k3
      go_wp2
      go_ret
      exact ⟨ret_bool (by unfold covA; rw [← HT.out, K2.out, K3.out]; rfl), HB2.out⟩
  · have K2 := Lib.hid k2
    clear k2
    go_wp2
    go_ret
    exact ⟨ret_bool (by unfold covA; rw [← HT.out, K2.out]; rfl), HB2.out⟩

set_option maxHeartbeats 2000000 in
theorem refHas_any (a : Av) (z : Al) (s : ByteArray) (creds : Bool) (w : World) (ha : AvIs w a z) (hs : s.size ≤ maxLen) :
    Calls Tryz.prog 45 #[a.v, .string s, .bool creds] w fun e w' => e = .returned (.bool (hasA z.ms s.data.toList creds)) ∧ Below w.heap.size w w' := by
  obtain ⟨A1, n1, c1, A2, n2, c2, g⟩ := a
  obtain ⟨W, hW⟩ : ∃ W, W = w.alloc (.cells #[.slice A1 n1 c1, .slice A2 n2 c2, .int .u64 g] 28) := ⟨_, rfl⟩
  have hb0 : Below w.heap.size w W := by rw [hW]; exact (Below.refl _ _).alloc (Nat.le_refl _) _
  have HB := Lib.hid hb0
  have HA := Lib.hid (ha.below hb0)
  have HC : Hid (AlAt W w.heap.size ⟨A1, n1, c1, A2, n2, c2, g⟩) := by rw [hW]; exact AlAt.new w ⟨A1, n1, c1, A2, n2, c2, g⟩ _
  have HS := Lib.hid hs
  have HN : Hid (n1 = (z.ms.map mk).length) := by show _ = _; rw [List.length_map]; exact ha.e1
  have HL : Hid ((z.ms.map mk).length ≤ maxLen) := by show _ ≤ _; rw [List.length_map]; exact ha.l1
  clear hb0 ha hs
  unfold Av.v
  dsimp only
  go_enter Tryz.func45, Tryz.ntmps45
  go_wp2_with fail
  rw [← hW]
  clear hW
  refine (refSafe_any s _ HS.out).mono ?_
  rintro e w1 ⟨rfl, hb1⟩
  have hC := (HC.out.up hb1).c0
  have HX : Hid (SRow w1 w1.heap.size A1 (z.ms.map mk)) := (HA.out.below hb1).r1
  have HB1 : Hid (Below w.heap.size w w1) := HB.out.trans (hb1.mono HB.out.size)
  clear hb1 HB HA HC
  dsimp only at hC
  cases k1 : Lk.safeL s.data.toList
  · have K1 := Lib.hid k1
    clear k1
    go_wp2_with fail
    refine (among_any A1 n1 c1 _ (z.ms.map mk) s _ HN.out HL.out HX.out).mono ?_
    rintro e w2 ⟨rfl, m, hw⟩
    rw [datB_mk]
    have hC2 : w2.cell? ⟨w.heap.size, 0, none⟩ = some (.slice A1 n1 c1) := by rw [hw]; exact hC
    have HX2 : Hid (SRow w2 w1.heap.size A1 (z.ms.map mk)) := by rw [hw]; exact HX.out
    have HB2 : Hid (Below w.heap.size w w2) := by rw [hw]; exact below_drewN HB1.out m
    clear hw HX HB1 hC
    cases k2 : memT z.ms s.data.toList
    · have K2 := Lib.hid k2
      clear k2
      cases creds
      · go_wp2_with fail
        refine (among_any A1 n1 c1 _ (z.ms.map mk) _ _ HN.out HL.out HX2.out).mono ?_
        rintro e w3 ⟨rfl, m3, hw⟩
        rw [datB_mk]
        have HB3 : Hid (Below w.heap.size w w3) := by rw [hw]; exact below_drewN HB2.out m3
        clear hw HX2 HB2 hC2
        go_wp2
        go_ret
        exact ⟨ret_bool (by unfold hasA; rw [K1.out, K2.out]; rfl), HB3.out⟩
      · go_wp2
        go_ret
        exact ⟨ret_bool (by unfold hasA; rw [K1.out, K2.out]; rfl), HB2.out⟩
    · have K2 := Lib.hid k2
      clear k2
      go_wp2
      go_ret
      exact ⟨ret_bool (by unfold hasA; rw [K1.out, K2.out]; rfl), HB2.out⟩
  · have K1 := Lib.hid k1
    clear k1
    go_wp2
    go_ret
    exact ⟨ret_bool (by unfold hasA; rw [K1.out]; rfl), HB1.out⟩

set_option maxHeartbeats 2000000 in
theorem refCovers_any (a : Av) (z : Al) (s : ByteArray) (creds : Bool) (w : World) (ha : AvIs w a z) (hs : s.size ≤ maxLen) :
    Calls Tryz.prog 47 #[a.v, .string s, .bool creds] w fun e w' => e = .returned (.bool (covA z.hs s.data.toList creds)) ∧ Below w.heap.size w w' := by
  obtain ⟨A1, n1, c1, A2, n2, c2, g⟩ := a
  obtain ⟨t, ht⟩ := lower_ba s
  have HT := Lib.hid ht
  clear ht
  obtain ⟨W, hW⟩ : ∃ W, W = w.alloc (.cells #[.slice A1 n1 c1, .slice A2 n2 c2, .int .u64 g] 28) := ⟨_, rfl⟩
  have hb0 : Below w.heap.size w W := by rw [hW]; exact (Below.refl _ _).alloc (Nat.le_refl _) _
  have HB := Lib.hid hb0
  have HA := Lib.hid (ha.below hb0)
  have HC : Hid (AlAt W w.heap.size ⟨A1, n1, c1, A2, n2, c2, g⟩) := by rw [hW]; exact AlAt.new w ⟨A1, n1, c1, A2, n2, c2, g⟩ _
  have HS := Lib.hid hs
  have HN : Hid (n2 = (z.hs.map mk).length) := by show _ = _; rw [List.length_map]; exact ha.e2
  have HL : Hid ((z.hs.map mk).length ≤ maxLen) := by show _ ≤ _; rw [List.length_map]; exact ha.l2
  clear hb0 ha hs
  unfold Av.v
  dsimp only
  go_enter Tryz.func47, Tryz.ntmps47
  go_wp2_with fail
  rw [← hW]
  clear hW
  refine (erefLower_as s t _ HS.out HT.out).mono ?_
  rintro e w1 ⟨rfl, hb1⟩
  have hC := (HC.out.up hb1).c1
  have HX : Hid (SRow w1 w1.heap.size A2 (z.hs.map mk)) := (HA.out.below hb1).r2
  have HB1 : Hid (Below w.heap.size w w1) := HB.out.trans (hb1.mono HB.out.size)
  clear hb1 HB HA HC
  dsimp only at hC
  go_wp2_with fail
  refine (among_any A2 n2 c2 _ (z.hs.map mk) t _ HN.out HL.out HX.out).mono ?_
  rintro e w2 ⟨rfl, m, hw⟩
  rw [datB_mk]
  have hC2 : w2.cell? ⟨w.heap.size, 1, none⟩ = some (.slice A2 n2 c2) := by rw [hw]; exact hC
  have HX2 : Hid (SRow w2 w1.heap.size A2 (z.hs.map mk)) := by rw [hw]; exact HX.out
  have HB2 : Hid (Below w.heap.size w w2) := by rw [hw]; exact below_drewN HB1.out m
  clear hw HX HB1 hC
  cases k2 : memT z.hs t.data.toList
  · have K2 := Lib.hid k2
    clear k2
    cases creds
    · go_wp2_with fail
      refine (among_any A2 n2 c2 _ (z.hs.map mk) _ _ HN.out HL.out HX2.out).mono ?_
      rintro e w3 ⟨rfl, m3, hw⟩
      rw [datB_mk]
      have HB3 : Hid (Below w.heap.size w w3) := by rw [hw]; exact below_drewN HB2.out m3
      clear hw HX2 HB2 hC2
      have KW : Hid (wildT z.hs false = memT z.hs (ByteArray.mk #[42]).data.toList) := rfl
      cases k4 : memT z.hs (ByteArray.mk #[42]).data.toList
      · rw [k4] at KW
        clear k4
        go_wp2
        go_ret
        exact ⟨ret_bool (by unfold covA; rw [← HT.out, K2.out, KW.out, Bool.and_false]; rfl), HB3.out⟩
      · rw [k4] at KW
        clear k4
        cases k3 : t.toList == [97, 117, 116, 104, 111, 114, 105, 122, 97, 116, 105, 111, 110]
        · have K3 : Hid ((t.data.toList == authN) = false) := by show _ = _; rw [← auth_beq]; exact k3
          go_wp2
          go_ret
          exact ⟨ret_bool (by unfold covA; rw [← HT.out, K2.out, K3.out, KW.out]; rfl), HB3.out⟩
        · have K3 : Hid ((t.data.toList == authN) = true) := by show _ = _; rw [← auth_beq]; exact k3
          go_wp2
          go_ret
          exact ⟨ret_bool (by unfold covA; rw [← HT.out, K2.out, K3.out]; rfl), HB3.out⟩
    · go_wp2
      go_ret
      exact ⟨ret_bool (by unfold covA; rw [← HT.out, K2.out, show wildT z.hs true = false from rfl, Bool.and_false]; rfl), HB2.out⟩
  · have K2 := Lib.hid k2
    clear k2
    go_wp2
    go_ret
    exact ⟨ret_bool (by unfold covA; rw [← HT.out, K2.out]; rfl), HB2.out⟩
end Go.Proofs.YtlkneapidmdpbaaGreatDoor

namespace Go.Proofs.YtlkneapidmdpbaaGreatDoor
open Go.RowKit

theorem sown_len {w : World} {b : Nat} {v : Value} {l : List (List UInt8)} (h : sown w b v l) : l.length ≤ maxLen := by
  rcases h.2 with ⟨_, e2⟩ | ⟨g, cap, cur, _, _, _, e4, e5, _⟩
  · rw [e2]; exact Nat.zero_le _
  · omega

set_option maxHeartbeats 1000000 in
theorem elements_any (A : Option Addr) (len c B : Nat) (xs : List (ByteArray × ByteArray)) (name : ByteArray) (w : World) (hlen : len = xs.length) (hB : B ≤ w.heap.size) (hx : PRow w B A xs) (hsm : Sm (xs.map hd)) (hname : name.size ≤ maxLen) :
    Calls Tryz.prog 74 #[.slice A len c, .string name] w fun e w' => ∃ v, e = .returned v ∧ sown w' w.heap.size v (elsH (xs.map hd) name.data.toList) ∧ Below w.heap.size w w' := by
  have HX := Lib.hid hx
  have HS := Lib.hid hsm
  have HN := Lib.hid hname
  have HLen := Lib.hid hlen
  have HBB := Lib.hid hB
  have HG := Lib.hid (get_len hsm name.data.toList)
  obtain ⟨t, ht⟩ : ∃ t, t = mk (getH (xs.map hd) name.data.toList) := ⟨_, rfl⟩
  have HT : Hid (t.data.toList = getH (xs.map hd) name.data.toList) := by show _ = _; rw [ht, mk_data]
  have HTM := Lib.hid ht
  have HZ : Hid (t.size ≤ 1099511627776) := by
    show _ ≤ _
    have h1 := congrArg List.length HT.out
    have h2 := HG.out
    simp at h1; omega
  clear hx hsm hname hlen hB ht
  go_enter Tryz.func74, Tryz.ntmps74
  go_wp2_with fail
  refine (Get_any A len c B xs name _ HLen.out HBB.out HX.out HS.out HN.out).mono ?_
  rintro e w1 ⟨rfl, hb1⟩
  rw [← HTM.out]
  have HB1 := Lib.hid hb1
  clear hb1
  go_wp2_with fail
  refine (Split_any t _ HZ.out).mono ?_
  rintro e w2 ⟨v, rfl, ho, hb2⟩
  rw [HT.out] at ho
  have HB2 : Hid (Below w.heap.size w w2) := HB1.out.trans (hb2.mono HB1.out.size)
  have HO : Hid (sown w2 w.heap.size v (elsH (xs.map hd) name.data.toList)) := ownsRow_base ho HB1.out.size
  clear ho hb2
  go_wp2
  go_ret
  exact ⟨v, rfl, HO.out, HB2.out⟩

set_option maxHeartbeats 1000000 in
theorem allTokens_any (A : Option Addr) (n c B : Nat) (l : List (List UInt8)) (w : World) (hn : n = l.length) (hl : l.length ≤ maxLen) (hx : SRow w B A (l.map mk)) (hz : ∀ x ∈ l, x.length ≤ maxLen) :
    Calls Tryz.prog 75 #[.slice A n c] w fun e w' => e = .returned (.bool (tokAll l)) ∧ w = w' := by
  subst hn
  unfold maxLen at hl
  have HX := Lib.hid hx
  have HZ := Lib.hid hz
  clear hx hz
  go_enter Tryz.func75, Tryz.ntmps75
  go_wp2
  go_loop [7] (fun i => ∃ k : Nat, k ≤ l.length ∧ i = .int .i64 k ∧ tokAll (l.take k) = true) (fun i => l.length - (intOf i).toNat)
  case atStart => exact ⟨0, Nat.zero_le _, rfl, rfl⟩
  case round =>
    obtain ⟨k, hk, rfl, hf⟩ := hrel
    have HF := Lib.hid hf
    clear hf
    by_cases hlt : k < l.length
    · obtain ⟨a1, e1, _, hc1⟩ := HX.out k (mk l[k]) (by rw [List.getElem?_map, List.getElem?_eq_getElem hlt]; rfl)
      have HM : Hid ((mk l[k]).size ≤ maxLen) := by
        show _ ≤ _
        have := HZ.out _ (List.getElem_mem hlt)
        have h2 : (mk l[k]).data.toList.length = l[k].length := by rw [mk_data]
        simp at h2; omega
      have HH : Hid (Lk.tokL (mk l[k]).data.toList = false → tokAll l = false) := by rw [mk_data]; exact tokAll_here hlt
      have HN : Hid (Lk.tokL (mk l[k]).data.toList = true → tokAll (l.take (k + 1)) = true) := by rw [mk_data]; exact tokAll_next hlt HF.out
      generalize mk l[k] = x at *
      subst e1
      cases hc : Lk.tokL x.data.toList
      · have HC := Lib.hid hc
        have HQ := Lib.hid (HH.out hc)
        clear hc
        go_wp2_with fail
        refine (Token_any x _ HM.out).mono ?_
        rintro e w' ⟨rfl, rfl⟩
        rw [HC.out]
        go_wp2
        go_ret
        exact ⟨ret_bool HQ.out.symm, rfl⟩
      · have HC := Lib.hid hc
        have HQ := Lib.hid (HN.out hc)
        clear hc
        go_wp2_with fail
        refine (Token_any x _ HM.out).mono ?_
        rintro e w' ⟨rfl, rfl⟩
        rw [HC.out]
        go_wp2
        go_round
        case rel => exact ⟨k + 1, by omega, by go_num, HQ.out⟩
        case measure => simp [intOf]; omega
    · have HT : Hid (tokAll l = true) := by
        have h := HF.out
        rwa [List.take_of_length_le (by omega)] at h
      go_wp2
      go_ret
      exact ⟨ret_bool HT.out.symm, rfl⟩

theorem digRes_as (s : List UInt8) : ∃ (n : Nat) (b : Bool), digRes s = .tuple #[.int .u64 (n : Int), .bool b] ∧ Lk.digL s = b ∧ (b = true → (min (n : Int) 7200) = (ageV s : Int)) := by
  cases h : Lk.digL s
  · exact ⟨0, false, digRes_f h, rfl, fun h => by cases h⟩
  · refine ⟨Lk.sat (Lk.valL s), true, digRes_t h, rfl, fun _ => ?_⟩
    unfold ageV
    rw [h, if_pos rfl]
    omega

set_option maxHeartbeats 1000000 in
theorem age_any (A : Option Addr) (len c B : Nat) (xs : List (ByteArray × ByteArray)) (w : World) (hlen : len = xs.length) (hB : B ≤ w.heap.size) (hx : PRow w B A xs) (hsm : Sm (xs.map hd)) :
    Calls Tryz.prog 77 #[.slice A len c] w fun e w' => e = .returned (.int .u64 (ageH (xs.map hd) : Int)) ∧ Below w.heap.size w w' := by
  have HX := Lib.hid hx
  have HS := Lib.hid hsm
  have HLen := Lib.hid hlen
  have HBB := Lib.hid hB
  have HG := Lib.hid (get_len hsm agN)
  obtain ⟨t, ht⟩ : ∃ t, t = mk (getH (xs.map hd) agN) := ⟨_, rfl⟩
  have HT : Hid (t.data.toList = getH (xs.map hd) agN) := by show _ = _; rw [ht, mk_data]
  have HTM := Lib.hid ht
  have HZ : Hid (t.size ≤ maxLen) := by
    show _ ≤ _
    have h1 := congrArg List.length HT.out
    have h2 := HG.out
    unfold maxLen
    simp at h1; omega
  obtain ⟨u, hu⟩ : ∃ u, u = mk (Lk.trimL t.data.toList) := ⟨_, rfl⟩
  have HU : Hid (u.data.toList = Lk.trimL t.data.toList) := by show _ = _; rw [hu, mk_data]
  have HUM := Lib.hid hu
  have HUZ : Hid (u.size ≤ maxLen) := by
    show _ ≤ _
    have h1 := congrArg List.length HU.out
    have h2 := Lk.trim_len t.data.toList
    have h3 := HZ.out
    simp at h1 h2; omega
  have HA : Hid (ageH (xs.map hd) = ageV u.data.toList) := by show _ = _; rw [HU.out, HT.out]; rfl
  obtain ⟨n, b, hd1, hd2, hd3⟩ := digRes_as u.data.toList
  have HD := Lib.hid hd1
  have HDB := Lib.hid hd2
  have HDV := Lib.hid hd3
  clear hx hsm hlen hB ht hu hd1 hd2 hd3
  go_enter Tryz.func77, Tryz.ntmps77
  go_wp2_with fail
  refine (Get_any A len c B xs _ _ HLen.out HBB.out HX.out HS.out (by unfold maxLen; decide)).mono ?_
  rintro e w1 ⟨rfl, hb1⟩
  rw [show (ByteArray.mk #[97, 99, 99, 101, 115, 115, 45, 99, 111, 110, 116, 114, 111, 108, 45, 109, 97, 120, 45, 97, 103, 101]).data.toList = agN from rfl, ← HTM.out]
  have HB1 := Lib.hid hb1
  clear hb1
  go_wp2_with fail
  refine (Trim_as t u _ HZ.out HUM.out).mono ?_
  rintro e w' ⟨rfl, rfl⟩
  go_wp2_with fail
  refine (Digits_any u _ HUZ.out).mono ?_
  rintro e w' ⟨rfl, rfl⟩
  rw [HD.out]
  cases b
  · go_wp2
    go_ret
    exact ⟨ret_int (by rw [HA.out, ageV, HDB.out]; rfl), HB1.out⟩
  · have HM := Lib.hid (HDV.out rfl)
    clear HDV
    go_wp2
    go_ret
    exact ⟨ret_int (by rw [HA.out]; exact HM.out), HB1.out⟩
end Go.Proofs.YtlkneapidmdpbaaGreatDoor

namespace Go.Proofs.YtlkneapidmdpbaaGreatDoor
open Go.RowKit

/-- what Read tells: what is let, its rows in memory, or nothing and an error -/
def LetPost (H : List Hd) (w : World) (e : Ending) (w' : World) : Prop :=
  ∃ a : Av, e = .returned (.tuple #[a.v, .int .i64 (readI H)]) ∧ AvIs w' a (readA H) ∧ Below w.heap.size w w'
theorem avis_of {w : World} {b b2 : Nat} {A1 A2 : Option Addr} {c1 c2 : Nat} {ms hs : List (List UInt8)} {n1 n2 g : Nat} (h1 : sown w b (.slice A1 n1 c1) ms) (h2 : sown w b2 (.slice A2 n2 c2) hs) :
    AvIs w ⟨A1, n1, c1, A2, n2, c2, (g : Int)⟩ ⟨ms, hs, g⟩ := by
  obtain ⟨B1, d1, e1, _, r1⟩ := trow_of h1
  obtain ⟨B2, d2, e2, _, r2⟩ := trow_of h2
  injection e1 with ea eb ec
  injection e2 with fa fb fc
  subst ea eb ec fa fb fc
  exact ⟨r1, r2, rfl, rfl, rfl, sown_len h1, sown_len h2⟩
theorem sown_up {w w' : World} {B : Nat} {v : Value} {l : List (List UInt8)} (h : sown w B v l) (hb : Below w.heap.size w w') : sown w' B v l := ownsRow_below h hb
theorem sown_slice {w : World} {B : Nat} {v : Value} {l : List (List UInt8)} (h : sown w B v l) : ∃ A n c, v = .slice A n c ∧ n = l.length ∧ (0 < l.length → ∃ g, A = some ⟨g, 0, none⟩ ∧ B ≤ g) := by
  rcases sown_form h with ⟨rfl, rfl⟩ | ⟨g, cap, rfl, hg, _, _⟩
  · exact ⟨none, 0, 0, rfl, rfl, fun h => by simp at h⟩
  · exact ⟨_, _, _, rfl, rfl, fun _ => ⟨g, rfl, hg⟩⟩
theorem own_al1 {w : World} {base : Nat} {v : Value} {l : List (List UInt8)} (h : sown w base v l) {g j : Nat} {u : Value} (hg : g < base) : sown (w.setCell ⟨g, j, none⟩ u) base v l := by
  refine ⟨h.1, ?_⟩
  rcases h.2 with hn | ⟨b, cap, cur, hv, hb, hc, rest⟩
  · exact .inl hn
  · exact .inr ⟨b, cap, cur, hv, hb, (Below.heap_setCell _ _ _ _ (by show b ≠ g; omega)).trans hc, rest⟩
theorem own_al {w : World} {base : Nat} {v : Value} {l : List (List UInt8)} (h : sown w base v l) {g : Nat} (hg : g < base) (a : Av) : sown (AlAt.put w g a) base v l := own_al1 (own_al1 (own_al1 h hg) hg) hg
/-- the names as far as they are turned -/
def lowTo (hs : List (List UInt8)) (k : Nat) : List (List UInt8) := (hs.take k).map Lk.lower ++ hs.drop k
theorem lowTo_len (hs : List (List UInt8)) (k : Nat) : (lowTo hs k).length = hs.length := by unfold lowTo; simp; omega
theorem lowTo_at {hs : List (List UInt8)} {k : Nat} (h : k < hs.length) : (lowTo hs k)[k]'(by rw [lowTo_len]; exact h) = hs[k] := by
  unfold lowTo
  have hl : ((hs.take k).map Lk.lower).length = k := by simp; omega
  simp only [List.getElem_append, hl, Nat.lt_irrefl, dite_false, Nat.sub_self, List.getElem_drop, Nat.add_zero]
theorem lowTo_set {hs : List (List UInt8)} {k : Nat} (h : k < hs.length) {x : List UInt8} (hx : x = Lk.lower hs[k]) : (lowTo hs k).set k x = lowTo hs (k + 1) := by
  unfold lowTo
  have hl : ((hs.take k).map Lk.lower).length = k := by simp; omega
  rw [List.set_append_right _ _ (by omega), hl, Nat.sub_self, List.take_succ_eq_append_getElem h, List.map_append, List.drop_eq_getElem_cons h, List.set_cons_zero, List.append_assoc, hx]
  rfl
theorem lowTo_all (hs : List (List UInt8)) : lowTo hs hs.length = hs.map Lk.lower := by unfold lowTo; simp

set_option maxHeartbeats 4000000 in
theorem ARead_any (A : Option Addr) (len c B : Nat) (xs : List (ByteArray × ByteArray)) (w : World) (hlen : len = xs.length) (hB : B ≤ w.heap.size) (hx : PRow w B A xs) (hsm : Sm (xs.map hd)) :
    Calls Tryz.prog 38 #[.slice A len c] w (LetPost (xs.map hd) w) := by
  obtain ⟨ms, hms⟩ : ∃ ms, ms = elsH (xs.map hd) metN := ⟨_, rfl⟩
  obtain ⟨hs, hhs⟩ : ∃ hs, hs = elsH (xs.map hd) hdrN := ⟨_, rfl⟩
  have HZM : Hid (∀ x ∈ ms, x.length ≤ maxLen) := by rw [hms]; intro x h; have := els_small hsm _ x h; unfold maxLen; omega
  have HZH : Hid (∀ x ∈ hs, x.length ≤ maxLen) := by rw [hhs]; intro x h; have := els_small hsm _ x h; unfold maxLen; omega
  have HLM : Hid (ms.length ≤ maxLen) := by rw [hms]; show _ ≤ _; have := els_len hsm metN; unfold maxLen; omega
  have hlh : hs.length ≤ 200000001 := by rw [hhs]; exact els_len hsm hdrN
  have HLH : Hid (hs.length ≤ maxLen) := by show _ ≤ _; unfold maxLen; omega
  have HLH2 := Lib.hid hlh
  have HMS := Lib.hid hms
  have HHS := Lib.hid hhs
  have HX := Lib.hid hx
  have HS := Lib.hid hsm
  have HLen := Lib.hid hlen
  have HBB := Lib.hid hB
  obtain ⟨W, hW⟩ : ∃ W, W = w.alloc (.cells #[.slice none 0 0, .slice none 0 0, .int .u64 0] 28) := ⟨_, rfl⟩
  have hb0 : Below w.heap.size w W := by rw [hW]; exact (Below.refl _ _).alloc (Nat.le_refl _) _
  have HB0 := Lib.hid hb0
  have HC0 : Hid (AlAt W w.heap.size Av.zero) := by rw [hW]; exact AlAt.new w Av.zero _
  have HX0 : Hid (PRow W w.heap.size A xs) := (hx.mono hB).below hb0
  have HC0S : Hid (w.heap.size < W.heap.size) := HC0.out.lt
  clear hms hhs hlh hx hsm hlen hB hb0
  go_enter Tryz.func38, Tryz.ntmps38
  go_wp2_with fail
  rw [← hW]
  clear hW
  refine (elements_any A len c w.heap.size xs _ _ HLen.out HB0.out.size HX0.out HS.out (by unfold maxLen; decide)).mono ?_
  rintro e w1 ⟨v1, rfl, ho1, hb1⟩
  rw [show (ByteArray.mk #[97, 99, 99, 101, 115, 115, 45, 99, 111, 110, 116, 114, 111, 108, 45, 97, 108, 108, 111, 119, 45, 109, 101, 116, 104, 111, 100, 115]).data.toList = metN from rfl, ← HMS.out] at ho1
  have HC1 := Lib.hid (HC0.out.up hb1)
  have HWS : Hid (W.heap.size ≤ w1.heap.size) := hb1.size
  have HB1 : Hid (Below w.heap.size w w1) := HB0.out.trans (hb1.mono HB0.out.size)
  have HX1 : Hid (PRow w1 w.heap.size A xs) := HX0.out.below (hb1.mono HB0.out.size)
  obtain ⟨A1, n1, c1, hv, hn1, _⟩ := sown_slice ho1
  subst hv
  have HN1 := Lib.hid hn1
  have HO1 := Lib.hid ho1
  obtain ⟨A1', c1', e1', _, hr1⟩ := trow_of ho1
  have HR1 : Hid (SRow w1 w1.heap.size A1 (ms.map mk)) := by injection e1' with ea; rw [ea]; exact hr1
  clear hb1 hn1 ho1 hr1 e1' HC0 HB0 HX0
  go_wp2_with fail
  refine (allTokens_any A1 n1 c1 _ ms _ HN1.out HLM.out HR1.out HZM.out).mono ?_
  rintro e w' ⟨rfl, rfl⟩
  cases k1 : tokAll ms
  · have HI : Hid (readI (xs.map hd) = 5) := readI_5 (by rw [← HMS.out]; exact k1)
    clear k1
    obtain ⟨p0, p1, p2, pf⟩ := HC1.out
    dsimp only [Av.zero] at p0 p1 p2
    go_wp2
    obtain ⟨q0, q1, q2, _⟩ := HC1.out.put_at Av.zero
    dsimp only [AlAt.put, Av.zero] at q0 q1 q2
    refine bodyPost_ret (v := .tuple #[.agg #[.slice none 0 0, .slice none 0 0, .int .u64 0], .int .i64 5]) (by simp [results, Tryz.results38, go_sem, q0, q1, q2]) rfl ?_
    exact ⟨Av.zero, by rw [HI.out]; rfl, by rw [readA_no HI.out (by decide)]; exact AvIs.zero _, AlAt.put_below HB1.out (Nat.le_refl _) Av.zero⟩
  have K1 := Lib.hid k1
  clear k1
  go_wp2_with fail
  refine (elements_any A len c w.heap.size xs _ _ HLen.out HB1.out.size HX1.out HS.out (by unfold maxLen; decide)).mono ?_
  rintro e w2 ⟨v2, rfl, ho2, hb2⟩
  rw [show (ByteArray.mk #[97, 99, 99, 101, 115, 115, 45, 99, 111, 110, 116, 114, 111, 108, 45, 97, 108, 108, 111, 119, 45, 104, 101, 97, 100, 101, 114, 115]).data.toList = hdrN from rfl, ← HHS.out] at ho2
  obtain ⟨A2, n2, c2, hv, hn2, hgA⟩ := sown_slice ho2
  subst hv
  have HN2 := Lib.hid hn2
  have HO2 := Lib.hid ho2
  have HGA := Lib.hid hgA
  have HBE := Lib.hid hb2
  obtain ⟨A2', c2', e2', _, hr2⟩ := trow_of ho2
  have HR2 : Hid (SRow w2 w2.heap.size A2 (hs.map mk)) := by injection e2' with ea; rw [ea]; exact hr2
  clear hb2 hn2 ho2 hr2 e2' hgA HX1 HR1
  go_wp2_with fail
  refine (allTokens_any A2 n2 c2 _ hs _ HN2.out HLH.out HR2.out HZH.out).mono ?_
  rintro e w' ⟨rfl, rfl⟩
  cases k2 : tokAll hs
  · have HI : Hid (readI (xs.map hd) = 6) := readI_6 (by rw [← HMS.out]; exact K1.out) (by rw [← HHS.out]; exact k2)
    have HC2 := Lib.hid (HC1.out.up HBE.out)
    have HB2 : Hid (Below w.heap.size w w2) := HB1.out.trans (HBE.out.mono HB1.out.size)
    clear k2
    obtain ⟨p0, p1, p2, pf⟩ := HC2.out
    dsimp only [Av.zero] at p0 p1 p2
    go_wp2
    obtain ⟨q0, q1, q2, _⟩ := HC2.out.put_at Av.zero
    dsimp only [AlAt.put, Av.zero] at q0 q1 q2
    refine bodyPost_ret (v := .tuple #[.agg #[.slice none 0 0, .slice none 0 0, .int .u64 0], .int .i64 6]) (by simp [results, Tryz.results38, go_sem, q0, q1, q2]) rfl ?_
    exact ⟨Av.zero, by rw [HI.out]; rfl, by rw [readA_no HI.out (by decide)]; exact AvIs.zero _, AlAt.put_below HB2.out (Nat.le_refl _) Av.zero⟩
  have HI : Hid (readI (xs.map hd) = 0) := readI_0 (by rw [← HMS.out]; exact K1.out) (by rw [← HHS.out]; exact k2)
  clear k2 HR2
  have hnb : n2 ≤ 200000001 := by rw [HN2.out]; exact HLH2.out
  go_wp2_with fail
  go_loopw [22] (fun i wr => ∃ (k : Nat) (dl : List (List UInt8)), k ≤ n2 ∧ i = .int .i64 k ∧ dl = lowTo hs k ∧ sown wr w1.heap.size (.slice A2 n2 c2) dl ∧ Below w1.heap.size w1 wr) (fun i _ => n2 - (intOf i).toNat)
  case atStart => exact ⟨0, lowTo hs 0, Nat.zero_le _, rfl, rfl, HO2.out, HBE.out⟩
  case round =>
    obtain ⟨k, dl, hk, rfl, hdl, hr, hb⟩ := hrel
    have HDL := Lib.hid hdl
    have HRR := Lib.hid hr
    have HBR := Lib.hid hb
    clear hr hb hdl
    by_cases hlt : k < n2
    · have hlt2 : k < hs.length := by rw [← HN2.out]; exact hlt
      have HDK : Hid (n2 = dl.length) := by show _ = _; rw [HDL.out, lowTo_len]; exact HN2.out
      obtain ⟨g2, hA, hg2⟩ := HGA.out (by omega)
      subst hA
      obtain ⟨s1, s2⟩ := sown_slot HRR.out HDK.out k (by rw [← HDK.out]; exact hlt)
      have HZ : Hid ((mk (dl[k]'(by rw [← HDK.out]; exact hlt))).size ≤ maxLen) := by
        have h1 : dl[k]'(by rw [← HDK.out]; exact hlt) = hs[k] := by simp only [HDL.out]; exact lowTo_at hlt2
        show _ ≤ _
        rw [h1]
        have := HZH.out _ (List.getElem_mem hlt2)
        have h2 : (mk hs[k]).data.toList.length = hs[k].length := by rw [mk_data]
        simp at h2; omega
      have HE : Hid (∀ t : ByteArray, t.data.toList = Lk.lower (mk (dl[k]'(by rw [← HDK.out]; exact hlt))).data.toList → dl.set k t.data.toList = lowTo hs (k + 1)) := by
        intro t ht
        have h1 : dl[k]'(by rw [← HDK.out]; exact hlt) = hs[k] := by simp only [HDL.out]; exact lowTo_at hlt2
        rw [mk_data, h1] at ht
        rw [HDL.out]
        exact lowTo_set hlt2 ht
      generalize mk (dl[k]'(by rw [← HDK.out]; exact hlt)) = x at *
      obtain ⟨t, ht⟩ := lower_ba x
      have HT := Lib.hid ht
      clear ht hlt2
      go_wp2_with fail
      refine (ELower_as x t _ HZ.out HT.out).mono ?_
      rintro e w3 ⟨rfl, hb3⟩
      have HR3 : Hid (sown w3 w1.heap.size (.slice (some ⟨g2, 0, none⟩) n2 c2) dl) := sown_up HRR.out hb3
      have HB3 : Hid (Below w1.heap.size w1 w3) := HBR.out.trans (hb3.mono HBR.out.size)
      clear hb3 s1 s2
      obtain ⟨s1, s2⟩ := sown_slot HR3.out HDK.out k (by rw [← HDK.out]; exact hlt)
      generalize mk (dl[k]'(by rw [← HDK.out]; exact hlt)) = o1 at *
      have HN := Lib.hid (sown_set HR3.out HDK.out k t)
      have HNB : Hid (Below w1.heap.size w1 (w3.setCell ⟨g2, k, none⟩ (.string t))) := HB3.out.setCell (p := ⟨g2, k, none⟩) hg2 _
      go_wp2
      go_roundw
      case rel => exact ⟨k + 1, _, by omega, by go_num, HE.out t HT.out, HN.out, HNB.out⟩
      case measure => simp [intOf]; omega
    · obtain rfl : k = n2 := by omega
      have HRF : Hid (sown wr w1.heap.size (.slice A2 k c2) (hs.map Lk.lower)) := by
        have h := HRR.out
        rw [HDL.out, HN2.out, lowTo_all, ← HN2.out] at h
        exact h
      have HX3 : Hid (PRow wr w.heap.size A xs) := (HX.out.mono HBB.out).below (HB1.out.trans (HBR.out.mono HB1.out.size))
      have HB3 : Hid (Below w.heap.size w wr) := HB1.out.trans (HBR.out.mono HB1.out.size)
      have HC3 := Lib.hid (HC1.out.up HBR.out)
      have HO3 := Lib.hid (sown_up HO1.out HBR.out)
      clear hlt hk HDL HRR HBR HO2 HBE
      go_wp2_with fail
      refine (age_any A len c w.heap.size xs _ HLen.out HB3.out.size HX3.out HS.out).mono ?_
      rintro e w4 ⟨rfl, hb4⟩
      have HC4 := Lib.hid (HC3.out.up hb4)
      have HB4 : Hid (Below w.heap.size w w4) := HB3.out.trans (hb4.mono HB3.out.size)
      have HO4 := Lib.hid (sown_up HO3.out hb4)
      have HP4 := Lib.hid (sown_up HRF.out hb4)
      clear hb4
      obtain ⟨ag, hag⟩ : ∃ ag, ag = ageH (xs.map hd) := ⟨_, rfl⟩
      rw [← hag]
      have HAG := Lib.hid hag
      clear hag
      obtain ⟨p0, p1, p2, pf⟩ := HC4.out
      dsimp only [Av.zero] at p0 p1 p2
      go_wp2
      obtain ⟨q0, q1, q2, _⟩ := HC4.out.put_at ⟨A1, n1, c1, A2, k, c2, (ag : Int)⟩
      dsimp only [AlAt.put] at q0 q1 q2
      refine bodyPost_ret (v := .tuple #[.agg #[.slice A1 n1 c1, .slice A2 k c2, .int .u64 (ag : Int)], .int .i64 0]) (by simp [results, Tryz.results38, go_sem, q0, q1, q2]) rfl ?_
      refine ⟨⟨A1, n1, c1, A2, k, c2, (ag : Int)⟩, by rw [HI.out]; rfl, ?_, AlAt.put_below HB4.out (Nat.le_refl _) ⟨A1, n1, c1, A2, k, c2, (ag : Int)⟩⟩
      have hgl : w.heap.size < W.heap.size := HC0S.out
      rw [readA_0 HI.out, ← HMS.out, ← HHS.out, ← HAG.out]
      refine avis_of (b := W.heap.size) (b2 := w1.heap.size) ?_ ?_
      · exact own_al HO4.out hgl ⟨A1, n1, c1, A2, k, c2, (ag : Int)⟩
      · exact own_al HP4.out (Nat.lt_of_lt_of_le hgl HWS.out) ⟨A1, n1, c1, A2, k, c2, (ag : Int)⟩
end Go.Proofs.YtlkneapidmdpbaaGreatDoor
