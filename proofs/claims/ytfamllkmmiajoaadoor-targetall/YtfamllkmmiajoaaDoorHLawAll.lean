/-
  The walk of the law TargetAll: whatever the text, it returns true, and nothing that was there has turned. Conditions: the argument is such as any that comes in; the library's variables are as they are laid.
-/
import Derived.Test.YtfamllkmmiajoaaDoorHWords
import Derived.Test.YtfamllkmmiajoaaDoorHRefParse
namespace Go.Proofs.YtfamllkmmiajoaaDoor
open Go.RowKit

set_option maxHeartbeats 4000000 in
theorem walk_TargetAll (s : ByteArray) (w : World) (hs : s.size ≤ maxLen) (he : Env w) :
    Calls Tryd.prog 3 #[.string s] w fun e w' => e = .returned (.bool true) ∧ Below w.heap.size w w' := by
  have HE := Lib.hid he
  clear he
  cases hl : Lk.longL 700 [s.size]
  rotate_left
  · have HL : Hid (Lk.longL (700 : Int).toNat ([s].map ByteArray.size) = true) := hl
    clear hl
    go_enter Tryd.func3, Tryd.ntmps3
    go_wp2_with fail
    refine (Long_any _ _ _ _ [s] _ _ (by decide) (by decide) rfl (SRow.one_at _ _ _ _ rfl) (by simp [maxLen]) (by simpa using hs)).mono ?_
    rintro e w1 ⟨rfl, hw⟩
    rw [HL.out]
    have HB1 : Hid (Below w.heap.size w w1) := by rw [← hw]; exact (Below.refl _ _).alloc (Nat.le_refl _) _
    clear hw
    go_wp2_with fail
    refine (awake_from HE.out HB1.out).mono ?_
    rintro e w2 ⟨rfl, hb⟩
    go_wp2
    go_ret
    exact ⟨rfl, hb⟩
  have hsum := Lk.long_no _ _ hl
  simp at hsum
  have HL : Hid (Lk.longL (700 : Int).toNat ([s].map ByteArray.size) = false) := hl
  clear hl
  obtain ⟨A, B, n, C, D, k, hv, _, _, _, _, _⟩ := tgt_view s.data.toList
  have HV := Lib.hid hv
  clear hv
  obtain ⟨t, ht⟩ : ∃ t, t = mk (cleanL s.data.toList) := ⟨_, rfl⟩
  have HT := Lib.hid ht
  clear ht
  go_enter Tryd.func3, Tryd.ntmps3
  go_wp2_with fail
  refine (Long_any _ _ _ _ [s] _ _ (by decide) (by decide) rfl (SRow.one_at _ _ _ _ rfl) (by simp [maxLen]) (by simpa using hs)).mono ?_
  rintro e w1 ⟨rfl, hw⟩
  rw [HL.out]
  have HB1 : Hid (Below w.heap.size w w1) := by rw [← hw]; exact (Below.refl _ _).alloc (Nat.le_refl _) _
  clear hw
  go_wp2_with fail
  refine (tParse_any s _ hs (HE.out.below HB1.out)).mono ?_
  rintro e w2 ⟨rfl, hb2⟩
  rw [HV.out]
  have HB2 : Hid (Below w.heap.size w w2) := HB1.out.trans (hb2.mono HB1.out.size)
  have HU2 := Lib.hid (UrlAt.new w2 A B n C D 27)
  have HB2' : Hid (Below w.heap.size w (w2.alloc (.cells #[.string A, .string B, .int .i64 n, .string C, .string D] 27))) := HB2.out.alloc HB2.out.size _
  clear hb2
  go_wp2_with fail
  refine (refTParse_any s _ hs (HE.out.below HB2'.out)).mono ?_
  rintro e w3 ⟨rfl, hb3⟩
  rw [HV.out]
  have hu3 := (HU2.out.below hb3 (by simp)).alloc (.cells #[.string A, .string B, .int .i64 n, .string C, .string D] 27)
  have HB3 : Hid (Below w.heap.size w w3) := HB2'.out.trans (hb3.mono HB2'.out.size)
  have HB3' : Hid (Below w.heap.size w (w3.alloc (.cells #[.string A, .string B, .int .i64 n, .string C, .string D] 27))) := HB3.out.alloc HB3.out.size _
  clear hb3
  obtain ⟨a0, a1, a2, a3, a4⟩ := hu3
  go_wp2_with fail
  refine (Clean_as s t _ (by omega) HT.out).mono ?_
  rintro e w4 ⟨rfl, hb4⟩
  have HB4 : Hid (Below w.heap.size w w4) := HB3'.out.trans (hb4.mono HB3'.out.size)
  clear hb4
  go_wp2_with fail
  refine (refClean_as s t _ (by omega) HT.out).mono ?_
  rintro e w5 ⟨rfl, hb5⟩
  have HB5 : Hid (Below w.heap.size w w5) := HB4.out.trans (hb5.mono HB4.out.size)
  clear hb5
  go_wp2_with fail
  refine (awake_from HE.out HB5.out).mono ?_
  rintro e w6 ⟨rfl, hb⟩
  go_wp2
  go_ret
  exact ⟨rfl, hb⟩
end Go.Proofs.YtfamllkmmiajoaaDoor
