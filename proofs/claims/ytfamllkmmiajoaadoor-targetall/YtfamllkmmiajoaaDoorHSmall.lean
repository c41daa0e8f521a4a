/-
  Contracts of target's small functions (isFree, isQuery, dotsOf, cutQuery, withoutLast), over this seat's program: each returns what the plain mathematics says. Conditions: the texts' sizes are such as any text's.
-/
import Derived.Test.YtfamllkmmiajoaaDoorGParse
import Derived.Test.YtfamllkmmiajoaaDoorHMath2
import Derived.Test.YtfamllkmmiajoaaDoorORef2
import Derived.Lib.IndexAny
namespace Go.Proofs.YtfamllkmmiajoaaDoor
open Go.RowKit

theorem IndexByte_in (bar : ByteArray) (c : UInt8) (w : World) : ∃ i : Int, decide (0 ≤ i) = bar.data.toList.contains c ∧
    Calls Tryd.prog 52 #[.string bar, .int .u8 (c.toNat : Int)] w fun e w' => e = .returned (.int .i64 i) ∧ w = w' := by
  refine ⟨Lib.indexByte bar.data.toList c, (Lib.contains_iff_indexByte _ _).symm, ?_⟩
  refine (Tryd.strings_IndexByte bar (c.toNat : Int) w).mono ?_
  rintro e w' ⟨rfl, rfl⟩
  exact ⟨by simp, rfl⟩

theorem freeB_lo {bar : List UInt8} {b : UInt8} (h : b.toNat < 33) : freeB bar b = false := by
  have : decide (33 ≤ b.toNat) = false := by simp; omega
  unfold freeB; rw [this]; rfl
theorem freeB_hi {bar : List UInt8} {b : UInt8} (h : 126 < b.toNat) : freeB bar b = false := by
  have : decide (b.toNat ≤ 126) = false := by simp; omega
  unfold freeB; rw [this]; simp
theorem freeB_mid {bar : List UInt8} {b : UInt8} (h1 : ¬ b.toNat < 33) (h2 : ¬ 126 < b.toNat) : freeB bar b = !bar.contains b := by
  have e1 : decide (33 ≤ b.toNat) = true := by simp; omega
  have e2 : decide (b.toNat ≤ 126) = true := by simp; omega
  unfold freeB; rw [e1, e2]; rfl

set_option maxHeartbeats 1000000 in
theorem isFree_any (s bar : ByteArray) (w : World) (hs : s.size ≤ maxLen) :
    Calls Tryd.prog 29 #[.string s, .string bar] w fun e w' => e = .returned (.bool (freeL bar.data.toList s.data.toList)) ∧ w = w' := by
  unfold maxLen at hs
  go_enter Tryd.func29, Tryd.ntmps29
  go_wp2
  go_loop [5, 6, 9] (fun _ _ i => ∃ k : Nat, k ≤ s.size ∧ i = .int .i64 k ∧ (s.data.toList.take k).all (freeB bar.data.toList) = true) (fun _ _ i => s.size - (intOf i).toNat)
  case atStart => exact ⟨0, Nat.zero_le _, rfl, rfl⟩
  case round =>
    obtain ⟨k, hk, rfl, ha⟩ := hrel
    have HA := Lib.hid ha
    clear ha
    by_cases hlt : k < s.size
    · have hb := Lk.byte_bd s[k]
      obtain ⟨i, hi, hcall⟩ := IndexByte_in bar s[k] w
      have HI := Lib.hid hcall
      have HC := Lib.hid hi
      clear hcall hi
      by_cases h1 : s[k].toNat < 33
      · have HN : Hid (freeB bar.data.toList s[k] = false) := freeB_lo h1
        go_wp2
        go_ret
        exact ⟨ret_bool (by rw [freeL, Lk.all_no hlt HN.out]), rfl⟩
      by_cases h2 : 126 < s[k].toNat
      · have HN : Hid (freeB bar.data.toList s[k] = false) := freeB_hi h2
        go_wp2
        go_ret
        exact ⟨ret_bool (by rw [freeL, Lk.all_no hlt HN.out]), rfl⟩
      have HG : Hid (freeB bar.data.toList s[k] = !decide (0 ≤ i)) := by show _ = _; rw [HC.out]; exact freeB_mid h1 h2
      by_cases h3 : 0 ≤ i
      · have HN : Hid (freeB bar.data.toList s[k] = false) := by show _ = _; rw [HG.out]; simpa using h3
        go_wp2_with (go_at_call 52; refine HI.out.mono ?_; rintro e w' ⟨rfl, rfl⟩)
        go_ret
        exact ⟨ret_bool (by rw [freeL, Lk.all_no hlt HN.out]), rfl⟩
      · have HY : Hid (freeB bar.data.toList s[k] = true) := by show _ = _; rw [HG.out]; simpa using h3
        go_wp2_with (go_at_call 52; refine HI.out.mono ?_; rintro e w' ⟨rfl, rfl⟩)
        go_round
        case rel => exact ⟨k + 1, by omega, by go_num, Lk.all_step hlt HA.out HY.out⟩
        case measure => simp [intOf]; omega
    · go_wp2
      go_ret
      exact ⟨ret_bool (by have := HA.out; rw [Lk.take_all s k (by omega)] at this; rw [freeL, this]), rfl⟩

theorem query_eq (s : ByteArray) (h0 : 0 < s.size) : queryL s.data.toList = (((s[0].toNat : Int) == 63) && freeL noQueryL s.data.toList) := by
  have e0 : s.data.toList.head? = some s[0] := by
    rw [List.head?_eq_getElem?, List.getElem?_eq_getElem (by simpa using h0)]; rfl
  have e1 : s.data.toList.isEmpty = false := by cases h : s.data.toList; (rw [h] at e0; simp at e0); rfl
  have b : ∀ c : UInt8, ((some c : Option UInt8) == some 63) = ((c.toNat : Int) == 63) := by
    intro c
    rw [Bool.eq_iff_iff, beq_iff_eq, beq_iff_eq]
    constructor
    · intro h; injection h with h; subst h; rfl
    · intro h; exact congrArg some (UInt8.toNat_inj.1 (by simpa using (by omega : c.toNat = 63)))
  unfold queryL
  rw [e0, e1, b]; rfl

set_option maxHeartbeats 1000000 in
theorem isQuery_any (s : ByteArray) (w : World) (hs : s.size ≤ maxLen) :
    Calls Tryd.prog 42 #[.string s] w fun e w' => e = .returned (.bool (queryL s.data.toList)) ∧ w = w' := by
  by_cases h0 : s.size = 0
  · have hn : s.data.toList = [] := List.length_eq_zero_iff.1 (by simpa using h0)
    have he : s.toList.isEmpty = true := ba_isEmpty hn
    have HE : Hid (queryL s.data.toList = true) := by show _ = _; rw [hn]; rfl
    clear hn
    go_enter Tryd.func42, Tryd.ntmps42
    go_wp2
    go_ret
    exact ⟨ret_bool HE.out.symm, rfl⟩
  have h1 : 0 < s.size := by omega
  have he : s.toList.isEmpty = false := ba_notEmpty (by intro h; have := congrArg List.length h; rw [show s.data.toList.length = s.size by simp] at this; exact h0 this)
  have HQ := Lib.hid (query_eq s h1)
  cases hq : ((s[0].toNat : Int) == 63)
  · go_enter Tryd.func42, Tryd.ntmps42
    go_wp2
    go_ret
    exact ⟨ret_bool (by rw [HQ.out, hq]; rfl), rfl⟩
  · go_enter Tryd.func42, Tryd.ntmps42
    go_wp2_with (go_at_call 29; refine (isFree_any _ _ _ hs).mono ?_; rintro e w' ⟨rfl, rfl⟩)
    go_ret
    exact ⟨ret_bool (by rw [HQ.out, hq]; rfl), rfl⟩

set_option maxHeartbeats 1000000 in
theorem dotsOf_any (s : ByteArray) (w : World) (hs : s.size ≤ maxLen) :
    Calls Tryd.prog 37 #[.string s] w fun e w' => e = .returned (.int .i64 (dotsL s.data.toList)) ∧ Below w.heap.size w w' := by
  have hs0 := hs
  unfold maxLen at hs
  by_cases h6 : 6 < s.size
  · have HD : Hid (dotsL s.data.toList = 0) := dots_long (by simpa using h6)
    go_enter Tryd.func37, Tryd.ntmps37
    go_wp2
    go_ret
    exact ⟨ret_int HD.out.symm, Below.refl _ _⟩
  obtain ⟨t, ht⟩ : ∃ t : ByteArray, t = mk (Lk.lower s.data.toList) := ⟨_, rfl⟩
  have HT := Lib.hid ht
  have HD : Hid (dotsL s.data.toList = dotsT t.data.toList) := by show _ = _; rw [ht, mk_data]; rfl
  clear ht
  go_enter Tryd.func37, Tryd.ntmps37
  go_wp2_with fail
  refine (Lower_as s t _ hs0 HT.out).mono ?_
  rintro e w1 ⟨rfl, hb⟩
  go_wp2
  all_goals
    go_ret
    exact ⟨ret_int (by rw [HD.out]; simp_all [dotsT, ByteArray.toList_eq]), hb⟩

set_option maxHeartbeats 1000000 in
theorem refDots_any (s : ByteArray) (w : World) (hs : s.size ≤ maxLen) :
    Calls Tryd.prog 39 #[.string s] w fun e w' => e = .returned (.int .i64 (dotsL s.data.toList)) ∧ Below w.heap.size w w' := by
  have hs0 := hs
  obtain ⟨t, ht⟩ : ∃ t : ByteArray, t = mk (Lk.lower s.data.toList) := ⟨_, rfl⟩
  have HT := Lib.hid ht
  have HD : Hid (dotsL s.data.toList = dotsT t.data.toList) := by show _ = _; rw [ht, mk_data]; rfl
  clear ht
  go_enter Tryd.func39, Tryd.ntmps39
  go_wp2_with fail
  refine (show Calls Tryd.prog 53 #[.string s] _ fun e w' => e = .returned (.string t) ∧ Below _ _ w' by rw [HT.out]; exact refLower_any s _ hs0).mono ?_
  rintro e w1 ⟨rfl, hb⟩
  go_wp2
  all_goals
    go_ret
    exact ⟨ret_int (by rw [HD.out]; simp_all [dotsT, ByteArray.toList_eq]), hb⟩
end Go.Proofs.YtfamllkmmiajoaaDoor
