/-
  The walk of the law OctetCases: whatever the text and the bits, it returns true, and nothing that was there has turned. Conditions: the text's size is such as any text's; the bits fit uint64.
-/
import Derived.Test.YtihpnancplfkhaaOFlip
import Derived.OpenShut
namespace Go.Proofs.Ytihpnancplfkhaa
open Go.RowKit

theorem Lower_as (s t : ByteArray) (w : World) (hs : s.size ≤ maxLen) (ht : t = ⟨(Lk.lower s.data.toList).toArray⟩) :
    Calls Try.prog 14 #[.string s] w fun e w' => e = .returned (.string t) ∧ Below w.heap.size w w' := by
  rw [ht]; exact Lower_any s w hs

set_option maxHeartbeats 1000000 in
theorem walk_OctetCases (a0 : ByteArray) (a1 : Int) (w : World) (h0 : a0.size ≤ maxLen) (h1 : (Lit.int .u64 a1).wf = true) :
    Calls Try.prog 4 #[.string a0, .int .u64 a1] w fun e w' => e = .returned (.bool true) ∧ Below w.heap.size w w' := by
  have hb := bounds_u64 h1
  cases hl : Lk.longL 2000 [a0.size]
  · have hsz : a0.size ≤ 2000 := by have := Lk.long_no _ _ hl; simp at this; omega
    have HL : Hid (Lk.longL (2000 : Int).toNat ([a0].map ByteArray.size) = false) := hl
    clear hl
    obtain ⟨x, hx⟩ : ∃ x : ByteArray, x = ⟨(Lk.lower a0.data.toList).toArray⟩ := ⟨_, rfl⟩
    have hxs : x.size = a0.size := by rw [hx]; show (Lk.lower a0.data.toList).toArray.size = _; simp [Lk.lower_len]
    have HX := Lib.hid hx
    have hxs2 : ((x.size : Int) == (a0.size : Int)) = true := by rw [beq_iff_eq]; omega
    have hxm : x.size ≤ 2000 := by omega
    clear hx hxs
    go_enter Try.func4, Try.ntmps4
    go_wp2_with fail
    refine (Long_any _ _ _ _ [a0] _ _ (by decide) (by decide) rfl (SRow.one _ _ _) (by simp [maxLen]) (by simpa using h0)).mono ?_
    rintro e w' ⟨rfl, rfl⟩
    rw [HL.out]
    go_wp2_with fail
    refine (Flip_any _ _ _ h0 (by omega) (by omega)).mono ?_
    rintro e w1 ⟨lt, rfl, hlow, hb1⟩
    obtain ⟨t, ht⟩ : ∃ t : ByteArray, t = ⟨lt.toArray⟩ := ⟨_, rfl⟩
    have htl : t.data.toList = lt := by rw [ht]
    have HT := Lib.hid htl
    have HO : Hid (Lk.lower t.data.toList = Lk.lower a0.data.toList) := by show _ = _; rw [htl]; exact hlow
    have hts : t.size ≤ maxLen := by
      have := congrArg List.length hlow
      rw [Lk.lower_len, Lk.lower_len] at this
      have e : t.size = lt.length := by rw [ht]; show lt.toArray.size = _; simp
      have e2 : a0.data.toList.length = a0.size := by simp
      rw [e, this, e2]; unfold maxLen; omega
    rw [← ht]
    clear ht htl hlow
    have B1 : Hid (Below w.heap.size w w1) := (((Below.refl _ _).alloc (Nat.le_refl _) _).trans (hb1.mono (by simp)))
    clear hb1
    go_wp2_with fail
    refine (Lower_as _ x _ h0 HX.out).mono ?_
    rintro e w2 ⟨rfl, hb2⟩
    have B2 : Hid (Below w.heap.size w w2) := B1.out.trans (hb2.mono B1.out.size)
    clear hb2
    go_wp2_with fail
    refine (Fold_any _ _ _ h0 hts).mono ?_
    rintro e w' ⟨rfl, n, rfl⟩
    have hf : Lk.foldL a0.data.toList t.data.toList = true := by unfold Lk.foldL; rw [HO.out]; simp
    have HF := Lib.hid hf
    clear hf
    rw [HF.out]
    go_wp2_with fail
    refine (Lower_as _ x _ hts (by rw [HO.out]; exact HX.out)).mono ?_
    rintro e w3 ⟨rfl, hb3⟩
    have B3 : Hid (Below w.heap.size w w3) := (below_drewN B2.out n).trans (hb3.mono B2.out.size)
    clear hb3
    go_wp2_with fail
    refine (Lower_as _ x _ (by unfold maxLen; omega) (by rw [HX.out]; simp [Lk.lower_lower])).mono ?_
    rintro e w4 ⟨rfl, hb4⟩
    have B4 : Hid (Below w.heap.size w w4) := B3.out.trans (hb4.mono B3.out.size)
    clear hb4
    go_wp2_with fail
    refine (Token_any _ _ h0).mono ?_
    rintro e w' ⟨rfl, rfl⟩
    go_wp2_with fail
    refine (Token_any _ _ hts).mono ?_
    rintro e w' ⟨rfl, rfl⟩
    rw [Lk.tokL_same HO.out]
    go_wp2_with fail
    refine (awake_any _).mono ?_
    rintro e w5 ⟨rfl, hb5⟩
    go_wp2
    go_ret
    exact ⟨rfl, B4.out.trans (hb5.mono B4.out.size)⟩
  · have HL : Hid (Lk.longL (2000 : Int).toNat ([a0].map ByteArray.size) = true) := hl
    clear hl
    go_enter Try.func4, Try.ntmps4
    go_wp2_with fail
    refine (Long_any _ _ _ _ [a0] _ _ (by decide) (by decide) rfl (SRow.one _ _ _) (by simp [maxLen]) (by simpa using h0)).mono ?_
    rintro e w' ⟨rfl, rfl⟩
    rw [HL.out]
    go_wp2_with fail
    refine (awake_any _).mono ?_
    rintro e w' ⟨rfl, hb⟩
    go_wp2
    go_ret
    exact ⟨rfl, ((Below.refl _ _).alloc (Nat.le_refl _) _).trans (hb.mono (by simp))⟩
end Go.Proofs.Ytihpnancplfkhaa
