/-
  The contract of the statements' own helper awake (layer 5), over this seat's program: it returns true; nothing is written. Conditions: the tables are as the program's text lays them.
-/
import Derived.Test.YtpnajoehhjiigaaDoorJMeth
import Derived.KernelRfl
namespace Go.Proofs.YtpnajoehhjiigaaDoor
open Go.RowKit

theorem j_aw1 : mk (Lk.normL (ByteArray.mk #[103, 101, 116]).data.toList) = ⟨#[71, 69, 84]⟩ := by kernel_rfl
theorem j_aw2 : mk (Lk.normL (ByteArray.mk #[80, 97, 116, 99, 104]).data.toList) = ⟨#[80, 97, 116, 99, 104]⟩ := by kernel_rfl
theorem j_aw3 : Lk.methI (ByteArray.mk #[116, 82, 97, 99, 101]).data.toList = 5 := by kernel_rfl
theorem j_aw4 : Lk.methI (ByteArray.mk #[80, 85, 84]).data.toList = 0 := by kernel_rfl
theorem j_aw5 : Lk.safeL (ByteArray.mk #[104, 101, 97, 100]).data.toList = true := by kernel_rfl

set_option maxHeartbeats 1000000 in
theorem awake5_any (w : World) (he : MEnv w) : Calls Tryd.prog 8 #[] w fun e w' => e = .returned (.bool true) ∧ ∃ n, w' = w.drewN n := by
  have HE := Lib.hid he
  have H1 := Lib.hid j_aw1
  have H2 := Lib.hid j_aw2
  have H3 := Lib.hid j_aw3
  have H4 := Lib.hid j_aw4
  have H5 := Lib.hid j_aw5
  clear he
  go_enter Tryd.func8, Tryd.ntmps8
  go_wp2_with fail
  refine (Norm_any _ _ (by decide) HE.out).mono ?_
  rintro e w1 ⟨rfl, n1, hw1⟩
  rw [H1.out]
  have HW1 := Lib.hid hw1
  have HE1 : Hid (MEnv w1) := by rw [hw1]; exact HE.out.drewN _
  clear hw1
  go_wp2_with fail
  refine (Norm_any _ _ (by decide) HE1.out).mono ?_
  rintro e w2 ⟨rfl, n2, hw2⟩
  rw [H2.out]
  have HW2 := Lib.hid hw2
  have HE2 : Hid (MEnv w2) := by rw [hw2]; exact HE1.out.drewN _
  clear hw2
  go_wp2_with fail
  refine (Check_any _ _ (by decide) HE2.out).mono ?_
  rintro e w3 ⟨rfl, n3, hw3⟩
  rw [H3.out]
  have HW3 := Lib.hid hw3
  have HE3 : Hid (MEnv w3) := by rw [hw3]; exact HE2.out.drewN _
  clear hw3
  go_wp2_with fail
  refine (Check_any _ _ (by decide) HE3.out).mono ?_
  rintro e w4 ⟨rfl, n4, hw4⟩
  rw [H4.out]
  have HW4 := Lib.hid hw4
  have HE4 : Hid (MEnv w4) := by rw [hw4]; exact HE3.out.drewN _
  clear hw4
  go_wp2_with fail
  refine (Safe_any _ _ (by decide) HE4.out).mono ?_
  rintro e w5 ⟨rfl, n5, hw5⟩
  rw [H5.out]
  have HW5 := Lib.hid hw5
  clear hw5
  go_wp2
  go_ret
  exact ⟨rfl, n1 + n2 + n3 + n4 + n5, by rw [HW5.out, HW4.out, HW3.out, HW2.out, HW1.out]; simp only [World.drewN_drewN]⟩
/-- the same behind whatever made new memory alone -/
theorem awake5_from {w wi : World} (he : MEnv w) (hb : Below w.heap.size w wi) : Calls Tryd.prog 8 #[] wi fun e w' => e = .returned (.bool true) ∧ Below w.heap.size w w' :=
  (awake5_any wi (he.below hb)).mono fun _ _ ⟨h, n, hw⟩ => ⟨h, by rw [hw]; exact below_drewN hb n⟩
end Go.Proofs.YtpnajoehhjiigaaDoor
