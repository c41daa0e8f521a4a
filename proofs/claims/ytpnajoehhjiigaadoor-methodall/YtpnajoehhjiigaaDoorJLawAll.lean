/-
  The walk of the law MethodAll: whatever the text, it returns true, and nothing that was there has turned. Conditions: the argument is such as any that comes in; the tables are as the program's text lays them.
-/
import Derived.Test.YtpnajoehhjiigaaDoorJAwake
import Derived.Test.YtpnajoehhjiigaaDoorJRef
namespace Go.Proofs.YtpnajoehhjiigaaDoor
open Go.RowKit

set_option maxHeartbeats 2000000 in
theorem walk_MethodAll (s : ByteArray) (w : World) (hs : s.size ≤ maxLen) (he : MEnv w) :
    Calls Tryd.prog 3 #[.string s] w fun e w' => e = .returned (.bool true) ∧ Below w.heap.size w w' := by
  have HE := Lib.hid he
  clear he
  cases hl : Lk.longL 200 [s.size]
  rotate_left
  · have HL : Hid (Lk.longL (200 : Int).toNat ([s].map ByteArray.size) = true) := hl
    clear hl
    go_enter Tryd.func3, Tryd.ntmps3
    go_wp2_with fail
    refine (Long_any _ _ _ _ [s] _ _ (by decide) (by decide) rfl (SRow.one_at _ _ _ _ rfl) (by simp [maxLen]) (by simpa using hs)).mono ?_
    rintro e w1 ⟨rfl, hw⟩
    rw [HL.out]
    have HB1 : Hid (Below w.heap.size w w1) := by rw [← hw]; exact (Below.refl _ _).alloc (Nat.le_refl _) _
    clear hw
    go_wp2_with fail
    refine (awake5_from HE.out HB1.out).mono ?_
    rintro e w2 ⟨rfl, hb⟩
    go_wp2
    go_ret
    exact ⟨rfl, hb⟩
  have HL : Hid (Lk.longL (200 : Int).toNat ([s].map ByteArray.size) = false) := hl
  clear hl
  obtain ⟨r, hr⟩ : ∃ r, mk (Lk.normL s.data.toList) = r := ⟨_, rfl⟩
  have HR := Lib.hid hr
  clear hr
  obtain ⟨b, hb⟩ : ∃ b, Lk.barsL s.data.toList = b := ⟨_, rfl⟩
  have HBa := Lib.hid hb
  clear hb
  obtain ⟨c, hc⟩ : ∃ c, Lk.methI s.data.toList = c := ⟨_, rfl⟩
  have HC := Lib.hid hc
  clear hc
  obtain ⟨d, hd⟩ : ∃ d, Lk.safeL s.data.toList = d := ⟨_, rfl⟩
  have HD := Lib.hid hd
  clear hd
  go_enter Tryd.func3, Tryd.ntmps3
  go_wp2_with fail
  refine (Long_any _ _ _ _ [s] _ _ (by decide) (by decide) rfl (SRow.one_at _ _ _ _ rfl) (by simp [maxLen]) (by simpa using hs)).mono ?_
  rintro e w1 ⟨rfl, hw⟩
  rw [HL.out]
  have HB1 : Hid (Below w.heap.size w w1) := by rw [← hw]; exact (Below.refl _ _).alloc (Nat.le_refl _) _
  clear hw
  go_wp2_with fail
  refine (Norm_any s _ hs (HE.out.below HB1.out)).mono ?_
  rintro e w2 ⟨rfl, n2, hw2⟩
  rw [HR.out]
  have HB2 : Hid (Below w.heap.size w w2) := by rw [hw2]; exact below_drewN HB1.out n2
  clear hw2
  go_wp2_with fail
  refine (refNorm_any s _ hs).mono ?_
  rintro e w3 ⟨rfl, hb3⟩
  rw [HR.out]
  have HB3 : Hid (Below w.heap.size w w3) := HB2.out.trans (hb3.mono HB2.out.size)
  clear hb3
  go_wp2_with fail
  refine (Bars_any s _ hs (HE.out.below HB3.out)).mono ?_
  rintro e w4 ⟨rfl, n4, hw4⟩
  rw [HBa.out]
  have HB4 : Hid (Below w.heap.size w w4) := by rw [hw4]; exact below_drewN HB3.out n4
  clear hw4
  go_wp2_with fail
  refine (refBars_any s _ hs).mono ?_
  rintro e w5 ⟨rfl, hb5⟩
  rw [HBa.out]
  have HB5 : Hid (Below w.heap.size w w5) := HB4.out.trans (hb5.mono HB4.out.size)
  clear hb5
  go_wp2_with fail
  refine (Check_any s _ hs (HE.out.below HB5.out)).mono ?_
  rintro e w6 ⟨rfl, n6, hw6⟩
  rw [HC.out]
  have HB6 : Hid (Below w.heap.size w w6) := by rw [hw6]; exact below_drewN HB5.out n6
  clear hw6
  go_wp2_with fail
  refine (refCheck_any s _ hs).mono ?_
  rintro e w7 ⟨rfl, hb7⟩
  rw [HC.out]
  have HB7 : Hid (Below w.heap.size w w7) := HB6.out.trans (hb7.mono HB6.out.size)
  clear hb7
  go_wp2_with fail
  refine (Safe_any s _ hs (HE.out.below HB7.out)).mono ?_
  rintro e w8 ⟨rfl, n8, hw8⟩
  rw [HD.out]
  have HB8 : Hid (Below w.heap.size w w8) := by rw [hw8]; exact below_drewN HB7.out n8
  clear hw8
  go_wp2_with fail
  refine (refSafe_any s _ hs).mono ?_
  rintro e w9 ⟨rfl, hb9⟩
  rw [HD.out]
  have HB9 : Hid (Below w.heap.size w w9) := HB8.out.trans (hb9.mono HB8.out.size)
  clear hb9
  go_wp2_with fail
  refine (awake5_from HE.out HB9.out).mono ?_
  rintro e wa ⟨rfl, hb⟩
  go_wp2
  go_ret
  exact ⟨rfl, hb⟩
end Go.Proofs.YtpnajoehhjiigaaDoor
