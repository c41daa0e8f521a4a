/-
  Is a text one of some? The contracts of the library's Index and Contains at texts, and of the document's own search, over this seat's program. Conditions: the texts lie where the slice says.
-/
import Derived.Test.YtnoiciakbbkngaaDoorLBase
namespace Go.Proofs.YtnoiciakbbkngaaDoor
open Go.RowKit

/-- is a text one of these? -/
def memT (l : List (List UInt8)) (s : List UInt8) : Bool := l.any (fun x => decide (x = s))
def datB (xs : List ByteArray) : List (List UInt8) := xs.map (fun x => x.data.toList)
theorem memT_here {xs : List ByteArray} {k : Nat} (h : k < xs.length) : memT (datB xs) xs[k].data.toList = true := by
  unfold memT datB
  rw [List.any_eq_true]
  exact ⟨_, List.mem_map_of_mem (List.getElem_mem h), by simp⟩
theorem memT_next {xs : List ByteArray} {k : Nat} {t : ByteArray} (h : k < xs.length) (h0 : memT (datB (xs.take k)) t.data.toList = false) (hne : ¬ xs[k] = t) : memT (datB (xs.take (k + 1))) t.data.toList = false := by
  have hne2 : ¬ xs[k].data.toList = t.data.toList := fun e => hne (ByteArray.ext (Array.toList_inj.1 e))
  rw [List.take_succ_eq_append_getElem h]
  unfold memT datB at *
  simp only [List.map_append, List.map_cons, List.map_nil, List.any_append, List.any_cons, List.any_nil, Bool.or_false]
  rw [h0]
  simpa using hne2
theorem beq_ba {x t : ByteArray} (h : ¬ x = t) : (x.toList == t.toList) = false := by
  rw [beq_eq_false_iff_ne]; intro e; exact h (WideShapes.bytes_inj (by rw [ByteArray.toList_eq, ByteArray.toList_eq] at e; exact e))

set_option maxHeartbeats 1000000 in
theorem SIndex_any (A : Option Addr) (n c B : Nat) (xs : List ByteArray) (t : ByteArray) (w : World) (hn : n = xs.length) (hl : xs.length ≤ maxLen) (hx : SRow w B A xs) :
    Calls Tryd.prog 54 #[.slice A n c, .string t] w fun e w' => ∃ i : Int, e = .returned (.int .i64 i) ∧ decide (i ≥ 0) = memT (datB xs) t.data.toList ∧ ∃ m, w' = w.drewN m := by
  subst hn
  unfold maxLen at hl
  have HX := Lib.hid hx
  clear hx
  go_enter Tryd.func54, Tryd.ntmps54
  go_wp2
  go_loopw [8] (fun i wr => ∃ k m : Nat, k ≤ xs.length ∧ i = .int .i64 k ∧ wr = w.drewN m ∧ memT (datB (xs.take k)) t.data.toList = false) (fun i _ => xs.length - (intOf i).toNat)
  case atStart => exact ⟨0, 0, Nat.zero_le _, rfl, rfl, rfl⟩
  case round =>
    obtain ⟨k, m, hk, rfl, hw, hf⟩ := hrel
    have HW := Lib.hid hw
    have HF := Lib.hid hf
    clear hw hf
    by_cases hlt : k < xs.length
    · obtain ⟨a1, e1, _, hc1⟩ := HX.out k xs[k] (List.getElem?_eq_getElem hlt)
      have hc1' : wr.cell? (a1.add k) = some (.string xs[k]) := by rw [HW.out]; exact hc1
      have HH := Lib.hid (memT_here hlt)
      have HN : Hid (¬ xs[k] = t → memT (datB (xs.take (k + 1))) t.data.toList = false) := memT_next hlt HF.out
      clear hc1
      generalize xs[k] = x at *
      subst e1
      by_cases hxy : x = t
      · subst hxy
        clear HN
        go_wp2_with fail
        try go_quiet (fail)
        go_wp2
        go_ret
        exact ⟨k, rfl, by rw [HH.out]; simp, _, by first | exact HW.out | (rw [HW.out, World.drewN_drewN])⟩
      · have hbe : (t.toList == x.toList) = false := beq_ba (fun e => hxy e.symm)
        have HM := Lib.hid (HN.out hxy)
        clear hxy HN HH
        go_wp2_with fail
        try go_quiet (fail)
        go_wp2
        go_roundw
        case rel => exact ⟨k + 1, _, by omega, by go_num, by first | exact HW.out | (rw [HW.out, World.drewN_drewN]), HM.out⟩
        case measure => simp [intOf]; omega
    · have HT : Hid (memT (datB xs) t.data.toList = false) := by
        have h := HF.out
        rwa [List.take_of_length_le (by omega)] at h
      go_wp2
      go_ret
      exact ⟨-1, rfl, by rw [HT.out]; decide, m, HW.out⟩

set_option maxHeartbeats 1000000 in
theorem SContains_any (A : Option Addr) (n c B : Nat) (xs : List ByteArray) (t : ByteArray) (w : World) (hn : n = xs.length) (hl : xs.length ≤ maxLen) (hx : SRow w B A xs) :
    Calls Tryd.prog 38 #[.slice A n c, .string t] w fun e w' => e = .returned (.bool (memT (datB xs) t.data.toList)) ∧ ∃ m, w' = w.drewN m := by
  have HX := Lib.hid hx
  have HL := Lib.hid hl
  have HN := Lib.hid hn
  clear hx hl hn
  go_enter Tryd.func38, Tryd.ntmps38
  go_wp2_with fail
  refine (SIndex_any A n c B xs t _ HN.out HL.out HX.out).mono ?_
  rintro e w1 ⟨i, rfl, hi, m, hw⟩
  have HI := Lib.hid hi
  have HW := Lib.hid hw
  clear hi hw
  go_wp2
  go_ret
  exact ⟨ret_bool HI.out, m, HW.out⟩

set_option maxHeartbeats 1000000 in
theorem among_any (A : Option Addr) (n c B : Nat) (xs : List ByteArray) (t : ByteArray) (w : World) (hn : n = xs.length) (hl : xs.length ≤ maxLen) (hx : SRow w B A xs) :
    Calls Tryd.prog 41 #[.string t, .slice A n c] w fun e w' => e = .returned (.bool (memT (datB xs) t.data.toList)) ∧ ∃ m, w' = w.drewN m := by
  subst hn
  unfold maxLen at hl
  have HX := Lib.hid hx
  clear hx
  go_enter Tryd.func41, Tryd.ntmps41
  go_wp2
  go_loopw [5] (fun i wr => ∃ k m : Nat, k ≤ xs.length ∧ i = .int .i64 k ∧ wr = w.drewN m ∧ memT (datB (xs.take k)) t.data.toList = false) (fun i _ => xs.length - (intOf i).toNat)
  case atStart => exact ⟨0, 0, Nat.zero_le _, rfl, rfl, rfl⟩
  case round =>
    obtain ⟨k, m, hk, rfl, hw, hf⟩ := hrel
    have HW := Lib.hid hw
    have HF := Lib.hid hf
    clear hw hf
    by_cases hlt : k < xs.length
    · obtain ⟨a1, e1, _, hc1⟩ := HX.out k xs[k] (List.getElem?_eq_getElem hlt)
      have hc1' : wr.cell? (a1.add k) = some (.string xs[k]) := by rw [HW.out]; exact hc1
      have HH := Lib.hid (memT_here hlt)
      have HN : Hid (¬ xs[k] = t → memT (datB (xs.take (k + 1))) t.data.toList = false) := memT_next hlt HF.out
      clear hc1
      generalize xs[k] = x at *
      subst e1
      by_cases hxy : x = t
      · subst hxy
        clear HN
        go_wp2_with fail
        try go_quiet (fail)
        go_wp2
        go_ret
        exact ⟨ret_bool HH.out.symm, _, by first | exact HW.out | (rw [HW.out, World.drewN_drewN])⟩
      · have hbe : (x.toList == t.toList) = false := beq_ba hxy
        have HM := Lib.hid (HN.out hxy)
        clear hxy HN HH
        go_wp2_with fail
        try go_quiet (fail)
        go_wp2
        go_roundw
        case rel => exact ⟨k + 1, _, by omega, by go_num, by first | exact HW.out | (rw [HW.out, World.drewN_drewN]), HM.out⟩
        case measure => simp [intOf]; omega
    · have HT : Hid (memT (datB xs) t.data.toList = false) := by
        have h := HF.out
        rwa [List.take_of_length_le (by omega)] at h
      go_wp2
      go_ret
      exact ⟨ret_bool HT.out.symm, m, HW.out⟩
end Go.Proofs.YtnoiciakbbkngaaDoor
