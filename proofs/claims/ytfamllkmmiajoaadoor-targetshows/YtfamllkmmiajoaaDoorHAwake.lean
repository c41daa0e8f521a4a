/-
  The contract of the statements' own helper awake (layer 4), over this seat's program: it returns true; nothing that was there turns. Conditions: the library's variables are as they are laid.
-/
import Derived.Test.YtfamllkmmiajoaaDoorHParse
import Derived.KernelRfl
namespace Go.Proofs.YtfamllkmmiajoaaDoor
open Go.RowKit

theorem h_aw1 : tgtV (ByteArray.mk #[72, 84, 84, 80, 58, 47, 47, 104, 63, 113, 35, 102]).data.toList = .tuple #[.agg #[.string ⟨#[104, 116, 116, 112]⟩, .string ⟨#[104]⟩, .int .i64 80, .string ⟨#[47]⟩, .string ⟨#[63, 113]⟩], .int .i64 0] := by kernel_rfl
theorem h_aw2 : mk (urlOf ⟨#[104, 116, 116, 112]⟩ ⟨#[104]⟩ 80 ⟨#[47]⟩ ⟨#[63, 113]⟩).show_ = ⟨#[104, 116, 116, 112, 58, 47, 47, 104, 47, 63, 113]⟩ := by kernel_rfl
theorem h_aw3 : mk (cleanL (ByteArray.mk #[47, 97, 47, 46, 47, 98, 47, 46, 46, 47, 99, 47, 46, 46]).data.toList) = ⟨#[47, 97, 47]⟩ := by kernel_rfl
theorem h_aw4 : mk (cleanL (ByteArray.mk #[47, 46, 46, 47, 120]).data.toList) = ⟨#[47, 120]⟩ := by kernel_rfl
theorem h_aw5 : mk (cleanL (ByteArray.mk #[]).data.toList) = ⟨#[47]⟩ := by kernel_rfl

set_option maxHeartbeats 2000000 in
theorem awake4_any (w : World) (he : Env w) : Calls Tryd.prog 12 #[] w fun e w' => e = .returned (.bool true) ∧ Below w.heap.size w w' := by
  have HE := Lib.hid he
  have H1 := Lib.hid h_aw1
  have H2 := Lib.hid h_aw2
  have H3 := Lib.hid h_aw3
  have H4 := Lib.hid h_aw4
  have H5 := Lib.hid h_aw5
  clear he
  go_enter Tryd.func12, Tryd.ntmps12
  go_wp2_with fail
  refine (tParse_any _ _ (by decide) HE.out).mono ?_
  rintro e w1 ⟨rfl, hb1⟩
  rw [H1.out]
  have HB1 : Hid (Below w.heap.size w (w1.alloc (.cells #[.string ⟨#[104, 116, 116, 112]⟩, .string ⟨#[104]⟩, .int .i64 80, .string ⟨#[47]⟩, .string ⟨#[63, 113]⟩] 27))) := hb1.alloc hb1.size _
  clear hb1
  go_wp2_with fail
  refine (tShow_any ⟨#[104, 116, 116, 112]⟩ ⟨#[104]⟩ 80 ⟨#[47]⟩ ⟨#[63, 113]⟩ _ (by decide) (by decide) (by decide) (HE.out.below HB1.out)).mono ?_
  rintro e w2 ⟨rfl, hb2⟩
  rw [H2.out]
  have HB2 : Hid (Below w.heap.size w w2) := HB1.out.trans (hb2.mono HB1.out.size)
  clear hb2
  go_wp2_with fail
  refine (Clean_any _ _ (by decide)).mono ?_
  rintro e w3 ⟨rfl, hb3⟩
  rw [H3.out]
  have HB3 : Hid (Below w.heap.size w w3) := HB2.out.trans (hb3.mono HB2.out.size)
  clear hb3
  go_wp2_with fail
  refine (Clean_any _ _ (by decide)).mono ?_
  rintro e w4 ⟨rfl, hb4⟩
  rw [H4.out]
  have HB4 : Hid (Below w.heap.size w w4) := HB3.out.trans (hb4.mono HB3.out.size)
  clear hb4
  go_wp2_with fail
  refine (Clean_any _ _ (by decide)).mono ?_
  rintro e w5 ⟨rfl, hb5⟩
  rw [H5.out]
  have HB5 : Hid (Below w.heap.size w w5) := HB4.out.trans (hb5.mono HB4.out.size)
  clear hb5
  go_wp2
  go_ret
  exact ⟨rfl, HB5.out⟩

theorem awake_from {w w1 : World} (he : Env w) (hb : Below w.heap.size w w1) : Calls Tryd.prog 12 #[] w1 fun e w' => e = .returned (.bool true) ∧ Below w.heap.size w w' :=
  (awake4_any w1 (he.below hb)).mono fun _ _ ⟨a, b⟩ => ⟨a, hb.trans (b.mono hb.size)⟩
end Go.Proofs.YtfamllkmmiajoaaDoor
