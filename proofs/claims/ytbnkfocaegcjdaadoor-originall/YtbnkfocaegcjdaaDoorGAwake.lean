/-
  The contract of the statements' own helper awake (layer 3), over this seat's program: it returns true; nothing that was there turns. Conditions: the library's variables are as they are laid.
-/
import Derived.Test.YtbnkfocaegcjdaaDoorGParse
import Derived.KernelRfl
namespace Go.Proofs.YtbnkfocaegcjdaaDoor
open Go.RowKit

theorem g_aw1 : parseV (ByteArray.mk #[72, 84, 84, 80, 83, 58, 47, 47, 65, 46, 98, 58, 52, 52, 51]).data.toList = .tuple #[.agg #[.string ⟨#[104, 116, 116, 112, 115]⟩, .string ⟨#[97, 46, 98]⟩, .int .i64 443], .int .i64 0] := by kernel_rfl
theorem g_aw2 : parseV (ByteArray.mk #[104, 116, 116, 112, 58, 47, 47, 97, 58, 48, 56, 48]).data.toList = .tuple #[.agg #[.string ⟨#[]⟩, .string ⟨#[]⟩, .int .i64 0], .int .i64 3] := by kernel_rfl
theorem g_aw3 : mk (showL (ByteArray.mk #[104, 116, 116, 112, 115]).data.toList (ByteArray.mk #[97, 46, 98]).data.toList 443) = ⟨#[104, 116, 116, 112, 115, 58, 47, 47, 97, 46, 98]⟩ := by kernel_rfl
theorem g_aw4 : mk (keyL (ByteArray.mk #[104, 116, 116, 112, 115]).data.toList (ByteArray.mk #[97, 46, 98]).data.toList 443) = ⟨#[104, 116, 116, 112, 115, 58, 47, 47, 97, 46, 98, 58, 52, 52, 51]⟩ := by kernel_rfl
theorem g_aw5 : defL (ByteArray.mk #[104, 116, 116, 112]).data.toList = 80 := by kernel_rfl

set_option maxHeartbeats 2000000 in
theorem awake3_any (w : World) (he : Env w) : Calls Tryd.prog 10 #[] w fun e w' => e = .returned (.bool true) ∧ Below w.heap.size w w' := by
  have HE := Lib.hid he
  have H1 := Lib.hid g_aw1
  have H2 := Lib.hid g_aw2
  have H3 := Lib.hid g_aw3
  have H4 := Lib.hid g_aw4
  have H5 := Lib.hid g_aw5
  clear he
  go_enter Tryd.func10, Tryd.ntmps10
  go_wp2_with fail
  refine (Parse_any _ _ (by decide) HE.out).mono ?_
  rintro e w1 ⟨rfl, hb1⟩
  rw [H1.out]
  have HB1 := Lib.hid hb1
  have HE1 : Hid (Env (w1.alloc (.cells #[.string ⟨#[104, 116, 116, 112, 115]⟩, .string ⟨#[97, 46, 98]⟩, .int .i64 443] 23))) := (HE.out.below hb1).alloc _
  clear hb1
  go_wp2_with fail
  refine (Parse_any _ _ (by decide) HE1.out).mono ?_
  rintro e w2 ⟨rfl, hb2⟩
  rw [H2.out]
  obtain ⟨c0, c1, c2⟩ := (OrgAt.new w1 ⟨#[104, 116, 116, 112, 115]⟩ ⟨#[97, 46, 98]⟩ 443 23).below hb2 (by simp)
  have HB2 : Hid (Below w.heap.size w w2) := (HB1.out.alloc HB1.out.size _).trans (hb2.mono (by have := HB1.out.size; simp; omega))
  have hlt : w1.heap.size < w2.heap.size := block_of_cell c0
  clear hb2
  go_wp2_with fail
  refine (Show_any _ _ _ _ (by decide) ((HE.out.below HB2.out).alloc _)).mono ?_
  rintro e w3 ⟨rfl, hb3⟩
  rw [H3.out]
  have HB3 : Hid (Below w.heap.size w w3) := (HB2.out.alloc HB2.out.size _).trans (hb3.mono (by have := HB2.out.size; simp; omega))
  have k0 : w3.cell? ⟨w1.heap.size, 0, none⟩ = some (.string ⟨#[104, 116, 116, 112, 115]⟩) := (hb3.cell (by simp; omega)).trans ((((Below.refl w2.heap.size w2).alloc (Nat.le_refl _) _).cell hlt).trans c0)
  have k1 : w3.cell? ⟨w1.heap.size, 1, none⟩ = some (.string ⟨#[97, 46, 98]⟩) := (hb3.cell (by simp; omega)).trans ((((Below.refl w2.heap.size w2).alloc (Nat.le_refl _) _).cell hlt).trans c1)
  have k2 : w3.cell? ⟨w1.heap.size, 2, none⟩ = some (.int .i64 443) := (hb3.cell (by simp; omega)).trans ((((Below.refl w2.heap.size w2).alloc (Nat.le_refl _) _).cell hlt).trans c2)
  clear hb3
  go_wp2_with fail
  refine (Key_any _ _ _ _ (by decide) (HE.out.below HB3.out)).mono ?_
  rintro e w4 ⟨rfl, hb4⟩
  rw [H4.out]
  go_wp2_with fail
  refine (Default_any _ _).mono ?_
  rintro e w' ⟨rfl, rfl⟩
  rw [H5.out]
  go_wp2
  go_ret
  exact ⟨rfl, HB3.out.trans (hb4.mono HB3.out.size)⟩
end Go.Proofs.YtbnkfocaegcjdaaDoor
