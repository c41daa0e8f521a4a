/-
  The walk of the law SafeAll: whatever the input, it returns true, and nothing that was there has turned. Conditions: the arguments are such as any that come in.
-/
import Derived.Test.YtinpfkbplflecaaVAwake
import Derived.Test.YtinpfkbplflecaaVRef3
namespace Go.Proofs.Ytinpfkbplflecaa
open Go.RowKit

set_option maxRecDepth 100000 in
set_option maxHeartbeats 4000000 in
theorem walk_SafeAll (n0 v0 : ByteArray) (a1 : Option Addr) (c1 : Nat) (xs : List (ByteArray × ByteArray)) (v : ByteArray) (b3 : Int) (w : World) (h00 : n0.size ≤ maxLen) (h01 : v0.size ≤ maxLen) (h1 : HArg w a1 c1 xs) (h2 : v.size ≤ maxLen) (h3 : (Lit.int .u8 b3).wf = true) :
    Calls Try.prog 4 #[.agg #[.string n0, .string v0], .slice a1 xs.length c1, .string v, .int .u8 b3] w fun e w' => e = .returned (.bool true) ∧ Below w.heap.size w w' := by
  obtain ⟨c, rfl⟩ : ∃ c : UInt8, b3 = (c.toNat : Int) := by
    have : 0 ≤ b3 ∧ b3 ≤ 255 := by simp [Lit.wf, IntKind.min, IntKind.max, IntKind.signed, IntKind.bits] at h3; exact h3
    exact ⟨UInt8.ofNat b3.toNat, by rw [UInt8.toNat_ofNat']; omega⟩
  clear h3
  have HL0 : Hid (xs.length ≤ maxLen) := Nat.le_trans h1.2.2.1 h1.2.2.2.1
  have HX0 := Lib.hid h1.1
  have HS0 := Lib.hid h1.2.1
  clear h1
  have HT0 := Lib.hid h00
  have HT1 := Lib.hid h01
  have HT2 := Lib.hid h2
  clear h00 h01 h2
  obtain ⟨W, hW⟩ : ∃ W, W = w.alloc (Obj.cells #[.string n0, .string v0] 41) := ⟨_, rfl⟩
  have HH : Hid (HdAt W w.heap.size n0 v0) := by rw [hW]; exact HdAt.new w n0 v0 _
  have HB : Hid (Below w.heap.size w W) := by rw [hW]; exact (Below.refl _ _).alloc (Nat.le_refl _) _
  cases hg : greatB xs
  case true =>
    have HG := Lib.hid hg
    clear hg
    go_enter Try.func4, Try.ntmps4
    go_wp2_with fail
    rw [← hW]
    clear hW
    refine (Great_any a1 _ c1 w.heap.size xs _ rfl (HX0.out.below HB.out) HL0.out HS0.out).mono ?_
    rintro e w' ⟨rfl, rfl⟩
    rw [show (decide (40 < xs.length) || greatGo 0 xs) = true from HG.out]
    go_wp2_with fail
    refine (awake7_any _).mono ?_
    rintro e w9 ⟨rfl, hb⟩
    go_wp2
    go_ret
    exact ⟨rfl, HB.out.trans (hb.mono HB.out.size)⟩
  have HG := Lib.hid hg
  have HD0 := Lib.hid (great_bd hg)
  clear hg
  cases hz : Lk.longL 600 ([v].map ByteArray.size)
  case true =>
    have HZ := Lib.hid hz
    clear hz
    go_enter Try.func4, Try.ntmps4
    go_wp2_with fail
    rw [← hW]
    clear hW
    refine (Great_any a1 _ c1 w.heap.size xs _ rfl (HX0.out.below HB.out) HL0.out HS0.out).mono ?_
    rintro e w' ⟨rfl, rfl⟩
    rw [show (decide (40 < xs.length) || greatGo 0 xs) = false from HG.out]
    go_wp2_with fail
    refine (Long_any 600 _ 1 1 [v] _ (W.heap.size + 1) (by omega) (by omega) rfl (SRow.one_at _ _ _ _ rfl) (by unfold maxLen; simp) (by intro x hx; simp at hx; subst hx; exact HT2.out)).mono ?_
    rintro e w1 ⟨rfl, hwn⟩
    have HB1 : Hid (Below w.heap.size w w1) := by show Below _ _ _; rw [← hwn]; exact HB.out.alloc HB.out.size _
    have HH1 : Hid (HdAt w1 w.heap.size n0 v0) := by show HdAt _ _ _ _; rw [← hwn]; exact HH.out.below ((Below.refl _ _).alloc (Nat.le_refl _) _) HH.out.lt
    clear hwn
    rw [show Lk.longL (600 : Int).toNat ([v].map ByteArray.size) = true from HZ.out]
    go_wp2_with fail
    refine (awake7_any _).mono ?_
    rintro e w9 ⟨rfl, hb⟩
    go_wp2
    go_ret
    exact ⟨rfl, HB1.out.trans (hb.mono HB1.out.size)⟩
  have HZ := Lib.hid hz
  have hsz := Lk.long_no _ _ hz
  simp at hsz
  clear hz
  cases hy : Lk.longL 2000 ([n0, v0].map ByteArray.size)
  case true =>
    have HY := Lib.hid hy
    clear hy
    go_enter Try.func4, Try.ntmps4
    go_wp2_with fail
    rw [← hW]
    clear hW
    refine (Great_any a1 _ c1 w.heap.size xs _ rfl (HX0.out.below HB.out) HL0.out HS0.out).mono ?_
    rintro e w' ⟨rfl, rfl⟩
    rw [show (decide (40 < xs.length) || greatGo 0 xs) = false from HG.out]
    go_wp2_with fail
    refine (Long_any 600 _ 1 1 [v] _ (W.heap.size + 1) (by omega) (by omega) rfl (SRow.one_at _ _ _ _ rfl) (by unfold maxLen; simp) (by intro x hx; simp at hx; subst hx; exact HT2.out)).mono ?_
    rintro e w1 ⟨rfl, hwn⟩
    have HB1 : Hid (Below w.heap.size w w1) := by show Below _ _ _; rw [← hwn]; exact HB.out.alloc HB.out.size _
    have HH1 : Hid (HdAt w1 w.heap.size n0 v0) := by show HdAt _ _ _ _; rw [← hwn]; exact HH.out.below ((Below.refl _ _).alloc (Nat.le_refl _) _) HH.out.lt
    clear hwn
    rw [show Lk.longL (600 : Int).toNat ([v].map ByteArray.size) = false from HZ.out]
    obtain ⟨e1, e2⟩ := HH1.out
    go_wp2_with fail
    refine (Long_any 2000 _ 2 2 [n0, v0] _ (w1.heap.size + 1) (by omega) (by omega) rfl (SRow.two_at _ _ _ _ _ rfl) (by unfold maxLen; simp) (by intro x hx; simp at hx; rcases hx with rfl | rfl <;> first | exact HT0.out | exact HT1.out)).mono ?_
    rintro e w2 ⟨rfl, hwn⟩
    have HB2 : Hid (Below w.heap.size w w2) := by show Below _ _ _; rw [← hwn]; exact HB1.out.alloc HB1.out.size _
    have HH2 : Hid (HdAt w2 w.heap.size n0 v0) := by show HdAt _ _ _ _; rw [← hwn]; exact HH1.out.below ((Below.refl _ _).alloc (Nat.le_refl _) _) HH1.out.lt
    clear hwn e1 e2
    rw [show Lk.longL (2000 : Int).toNat ([n0, v0].map ByteArray.size) = true from HY.out]
    go_wp2_with fail
    refine (awake7_any _).mono ?_
    rintro e w9 ⟨rfl, hb⟩
    go_wp2
    go_ret
    exact ⟨rfl, HB2.out.trans (hb.mono HB2.out.size)⟩
  have HY := Lib.hid hy
  have hyz := Lk.long_no _ _ hy
  simp at hyz
  clear hy
  have HM : Hid (Sm (xs.map hd)) := HD0.out.sm (by omega) (by omega) (by omega)
  have hl0 := HM.out.sizes.1
  obtain ⟨et, het⟩ : ∃ t, t = mk (essT v.data.toList) := ⟨_, rfl⟩
  obtain ⟨eb, heb⟩ : ∃ b, b = (essL v.data.toList).isSome := ⟨_, rfl⟩
  have HEV : Hid (essV v.data.toList = .tuple #[.string et, .bool eb]) := by show _ = _; rw [het, heb]; rfl
  clear het heb
  obtain ⟨bo, hbo⟩ : ∃ b, b = byteOk c := ⟨_, rfl⟩
  have Hbo := Lib.hid hbo
  clear hbo
  obtain ⟨rb, hrb⟩ : ∃ b, b = rangeL v.data.toList := ⟨_, rfl⟩
  have Hrb := Lib.hid hrb
  clear hrb
  obtain ⟨sb, hsb⟩ : ∃ b, b = safeH (hd (n0, v0)) := ⟨_, rfl⟩
  have Hsb := Lib.hid hsb
  clear hsb
  go_enter Try.func4, Try.ntmps4
  go_wp2_with fail
  rw [← hW]
  clear hW
  refine (Great_any a1 _ c1 w.heap.size xs _ rfl (HX0.out.below HB.out) HL0.out HS0.out).mono ?_
  rintro e w' ⟨rfl, rfl⟩
  rw [show (decide (40 < xs.length) || greatGo 0 xs) = false from HG.out]
  go_wp2_with fail
  refine (Long_any 600 _ 1 1 [v] _ (W.heap.size + 1) (by omega) (by omega) rfl (SRow.one_at _ _ _ _ rfl) (by unfold maxLen; simp) (by intro x hx; simp at hx; subst hx; exact HT2.out)).mono ?_
  rintro e w1 ⟨rfl, hwn⟩
  have HB1 : Hid (Below w.heap.size w w1) := by show Below _ _ _; rw [← hwn]; exact HB.out.alloc HB.out.size _
  have HH1 : Hid (HdAt w1 w.heap.size n0 v0) := by show HdAt _ _ _ _; rw [← hwn]; exact HH.out.below ((Below.refl _ _).alloc (Nat.le_refl _) _) HH.out.lt
  clear hwn
  rw [show Lk.longL (600 : Int).toNat ([v].map ByteArray.size) = false from HZ.out]
  obtain ⟨e1, e2⟩ := HH1.out
  go_wp2_with fail
  refine (Long_any 2000 _ 2 2 [n0, v0] _ (w1.heap.size + 1) (by omega) (by omega) rfl (SRow.two_at _ _ _ _ _ rfl) (by unfold maxLen; simp) (by intro x hx; simp at hx; rcases hx with rfl | rfl <;> first | exact HT0.out | exact HT1.out)).mono ?_
  rintro e w2 ⟨rfl, hwn⟩
  have HB2 : Hid (Below w.heap.size w w2) := by show Below _ _ _; rw [← hwn]; exact HB1.out.alloc HB1.out.size _
  have HH2 : Hid (HdAt w2 w.heap.size n0 v0) := by show HdAt _ _ _ _; rw [← hwn]; exact HH1.out.below ((Below.refl _ _).alloc (Nat.le_refl _) _) HH1.out.lt
  clear hwn e1 e2
  rw [show Lk.longL (2000 : Int).toNat ([n0, v0].map ByteArray.size) = false from HY.out]
  go_wp2_with fail
  refine (Essence_any v _ HT2.out).mono ?_
  rintro e w3 ⟨rfl, hb⟩
  rw [HEV.out]
  have HB3 : Hid (Below w.heap.size w w3) := HB2.out.trans (hb.mono HB2.out.size)
  have HH3 : Hid (HdAt w3 w.heap.size n0 v0) := HH2.out.below hb HH2.out.lt
  clear hb
  go_wp2_with fail
  refine (refEssence_any v _ HT2.out).mono ?_
  rintro e w4 ⟨rfl, hb⟩
  rw [HEV.out]
  have HB4 : Hid (Below w.heap.size w w4) := HB3.out.trans (hb.mono HB3.out.size)
  have HH4 : Hid (HdAt w4 w.heap.size n0 v0) := HH3.out.below hb HH3.out.lt
  clear hb
  go_wp2_with fail
  refine mix_start (fun W => HdAt W w.heap.size n0 v0) (by kernel_rfl) ?_
  have hne : Nonempty (Held (fun W => HdAt W w.heap.size n0 v0)) := ⟨⟨_, HH4.out⟩⟩
  have zz0 : ∀ q : Held (fun W => HdAt W w.heap.size n0 v0), q.w.cell? ⟨w.heap.size, 0, none⟩ = some (.string n0) := fun q => q.h.c0
  have zz1 : ∀ q : Held (fun W => HdAt W w.heap.size n0 v0), q.w.cell? ⟨w.heap.size, 1, none⟩ = some (.string v0) := fun q => q.h.c1
  obtain ⟨w5, hwd⟩ : ∃ W, W = w4.drew := ⟨_, rfl⟩
  rw [← hwd]
  have hb : Below w4.heap.size w4 w5 := by rw [hwd]; exact (Below.refl _ _).drew
  have HB5 : Hid (Below w.heap.size w w5) := HB4.out.trans (hb.mono HB4.out.size)
  have HH5 : Hid (HdAt w5 w.heap.size n0 v0) := HH4.out.below hb HH4.out.lt
  clear hb hwd
  refine mix_seg [0, 2] (by kernel_rfl) HH5.out ?_
  simp only [segOf, pickOps, pickOp]
  repeat (go_big_quiet_step (fail))
  refine wpQuiet_nil ?_
  refine mix_run 1 (by kernel_rfl) ?_
  simp only [segOf, pickOps, pickOp]
  go_wp2_with fail
  refine (Byte_any c _).mono ?_
  rintro e w' ⟨rfl, rfl⟩
  rw [← Hbo.out]
  go_wp2_with fail
  refine MixPost.normal HH5.out ?_
  refine mix_run 3 (by kernel_rfl) ?_
  simp only [segOf, pickOps, pickOp]
  go_wp2_with fail
  refine (refByte_any c _).mono ?_
  rintro e w' ⟨rfl, rfl⟩
  rw [← Hbo.out]
  go_wp2_with fail
  refine MixPost.normal HH5.out ?_
  refine mix_seg [4, 5, 6, 7, 8, 9, 10, 11, 12, 13, 14, 15, 16, 18] (by kernel_rfl) HH5.out ?_
  simp only [segOf, pickOps, pickOp]
  repeat (go_big_quiet_step (fail))
  refine wpQuiet_nil ?_
  refine mix_run 17 (by kernel_rfl) ?_
  simp only [segOf, pickOps, pickOp]
  go_wp2_with fail
  refine (Range_any v _ HT2.out).mono ?_
  rintro e w6 ⟨rfl, nn, hwn⟩
  rw [← Hrb.out]
  have hb : Below w5.heap.size w5 w6 := by rw [hwn]; exact below_drewN (Below.refl _ _) _
  have HB6 : Hid (Below w.heap.size w w6) := HB5.out.trans (hb.mono HB5.out.size)
  have HH6 : Hid (HdAt w6 w.heap.size n0 v0) := HH5.out.below hb HH5.out.lt
  clear hb hwn
  go_wp2_with fail
  refine MixPost.normal HH6.out ?_
  refine mix_run 19 (by kernel_rfl) ?_
  simp only [segOf, pickOps, pickOp]
  go_wp2_with fail
  refine (refRange_any v _ HT2.out).mono ?_
  rintro e w' ⟨rfl, rfl⟩
  rw [← Hrb.out]
  go_wp2_with fail
  refine MixPost.normal HH6.out ?_
  refine mix_seg [20, 21, 22, 23, 25] (by kernel_rfl) HH6.out ?_
  simp only [segOf, pickOps, pickOp]
  repeat (go_big_quiet_step (fail))
  refine wpQuiet_nil ?_
  refine mix_run 24 (by kernel_rfl) ?_
  simp only [segOf, pickOps, pickOp]
  go_wp2_with fail
  refine (Header_any n0 v0 _ HT0.out HT1.out).mono ?_
  rintro e w7 ⟨rfl, hb⟩
  rw [← Hsb.out]
  have HB7 : Hid (Below w.heap.size w w7) := HB6.out.trans (hb.mono HB6.out.size)
  have HH7 : Hid (HdAt w7 w.heap.size n0 v0) := HH6.out.below hb HH6.out.lt
  clear hb
  go_wp2_with fail
  refine MixPost.normal HH7.out ?_
  refine mix_run 26 (by kernel_rfl) ?_
  simp only [segOf, pickOps, pickOp]
  go_wp2_with fail
  refine (refHeader_any n0 v0 _ HT0.out HT1.out).mono ?_
  rintro e w8 ⟨rfl, hb⟩
  rw [← Hsb.out]
  have HB8 : Hid (Below w.heap.size w w8) := HB7.out.trans (hb.mono HB7.out.size)
  have HH8 : Hid (HdAt w8 w.heap.size n0 v0) := HH7.out.below hb HH7.out.lt
  clear hb
  go_wp2_with fail
  refine MixPost.normal HH8.out ?_
  refine mix_seg [27, 28, 29, 30, 32] (by kernel_rfl) HH8.out ?_
  simp only [segOf, pickOps, pickOp]
  repeat (go_big_quiet_step (fail))
  refine wpQuiet_nil ?_
  refine mix_run 31 (by kernel_rfl) ?_
  simp only [segOf, pickOps, pickOp]
  go_wp2_with fail
  refine (Names7_any a1 _ c1 w.heap.size xs _ rfl HB8.out.size (HX0.out.below HB8.out) HM.out).mono ?_
  rintro e w9 ⟨vv, rfl, hr, hb⟩
  have HB9 : Hid (Below w.heap.size w w9) := HB8.out.trans (hb.mono HB8.out.size)
  have HH9 : Hid (HdAt w9 w.heap.size n0 v0) := HH8.out.below hb HH8.out.lt
  clear hb
  obtain ⟨N, nN, cN, rfl, hnN, hpN⟩ := trow_row hr
  have HNN := Lib.hid hnN
  have HPN := Lib.hid hpN
  clear hr hnN hpN
  have HE9 : Hid (Below w9.heap.size w9 w9) := Below.refl _ _
  go_wp2_with fail
  refine MixPost.normal HH9.out ?_
  refine mix_run 33 (by kernel_rfl) ?_
  simp only [segOf, pickOps, pickOp]
  go_wp2_with fail
  refine (refNames7_any a1 _ c1 w.heap.size xs _ rfl HB9.out.size (HX0.out.below HB9.out) HM.out).mono ?_
  rintro e w10 ⟨vv, rfl, hr, hb⟩
  have HB10 : Hid (Below w.heap.size w w10) := HB9.out.trans (hb.mono HB9.out.size)
  have HH10 : Hid (HdAt w10 w.heap.size n0 v0) := HH9.out.below hb HH9.out.lt
  have HE10 : Hid (Below w9.heap.size w9 w10) := HE9.out.trans (hb.mono HE9.out.size)
  clear hb
  obtain ⟨M, nM, cM, rfl, hnM, hpM⟩ := trow_row hr
  have HNM := Lib.hid hnM
  have HPM := Lib.hid hpM
  clear hr hnM hpM
  have HF10 : Hid (Below w10.heap.size w10 w10) := Below.refl _ _
  go_wp2_with fail
  refine MixPost.normal HH10.out ?_
  refine mix_run 34 (by kernel_rfl) ?_
  simp only [segOf, pickOps, pickOp]
  go_wp2_with fail
  refine (Texts_same N M _ _ cN cM w9.heap.size w10.heap.size _ _ HNN.out HNM.out (by have h1 := safeNames_len (xs.map hd); simp at h1 ⊢; unfold maxLen; omega) (HPN.out.below HE10.out) (HPM.out.below HF10.out)).mono ?_
  rintro e w11 ⟨rfl, nn, hwn⟩
  have hb : Below w10.heap.size w10 w11 := by rw [hwn]; exact below_drewN (Below.refl _ _) _
  have HB11 : Hid (Below w.heap.size w w11) := HB10.out.trans (hb.mono HB10.out.size)
  have HH11 : Hid (HdAt w11 w.heap.size n0 v0) := HH10.out.below hb HH10.out.lt
  have HE11 : Hid (Below w9.heap.size w9 w11) := HE10.out.trans (hb.mono HE10.out.size)
  have HF11 : Hid (Below w10.heap.size w10 w11) := HF10.out.trans (hb.mono HF10.out.size)
  clear hb hwn
  go_wp2_with fail
  refine MixPost.normal HH11.out ?_
  refine mix_seg [35, 36] (by kernel_rfl) HH11.out ?_
  simp only [segOf, pickOps, pickOp]
  repeat (go_big_quiet_step (fail))
  refine wpQuiet_nil ?_
  refine mix_run 37 (by kernel_rfl) ?_
  simp only [segOf, pickOps, pickOp]
  go_wp2_with fail
  refine (awake7_any _).mono ?_
  rintro e w12 ⟨rfl, hb⟩
  have HB12 : Hid (Below w.heap.size w w12) := HB11.out.trans (hb.mono HB11.out.size)
  have HH12 : Hid (HdAt w12 w.heap.size n0 v0) := HH11.out.below hb HH11.out.lt
  have HE12 : Hid (Below w9.heap.size w9 w12) := HE11.out.trans (hb.mono HE11.out.size)
  have HF12 : Hid (Below w10.heap.size w10 w12) := HF11.out.trans (hb.mono HF11.out.size)
  clear hb
  go_wp2_with fail
  refine MixPost.normal HH12.out ?_
  refine mix_seg [38, 39] (by kernel_rfl) HH12.out ?_
  simp only [segOf, pickOps, pickOp]
  repeat (go_big_quiet_step (fail))
  refine wpQuiet_nil ?_
  refine mix_done (by kernel_rfl) ?_
  go_wp2
  go_ret
  exact ⟨rfl, HB12.out⟩
end Go.Proofs.Ytinpfkbplflecaa
