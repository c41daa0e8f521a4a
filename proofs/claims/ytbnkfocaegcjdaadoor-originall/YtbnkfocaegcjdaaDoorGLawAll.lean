/-
  The walk of the law OriginAll: whatever the text and the origin, it returns true, and nothing that was there has turned. Conditions: the arguments are such as any that come in; the library's variables are as they are laid.
-/
import Derived.Test.YtbnkfocaegcjdaaDoorGLawCases
import Derived.Test.YtbnkfocaegcjdaaDoorGRef4
namespace Go.Proofs.YtbnkfocaegcjdaaDoor
open Go.RowKit

theorem keep3 {W W' : World} {g1 g2 g3 : Nat} {a b c d x y : ByteArray} {p q r : Int} (h : OrgAt W g1 a b p ∧ OrgAt W g2 c d q ∧ OrgAt W g3 x y r) (hb : Below W.heap.size W W') : OrgAt W' g1 a b p ∧ OrgAt W' g2 c d q ∧ OrgAt W' g3 x y r :=
  ⟨h.1.below hb h.1.lt, h.2.1.below hb h.2.1.lt, h.2.2.below hb h.2.2.lt⟩

set_option maxHeartbeats 4000000 in
theorem walk_OriginAll (s0 : ByteArray) (s h : ByteArray) (p : Int) (w : World) (hs0 : s0.size ≤ maxLen) (hs : s.size ≤ maxLen) (hh : h.size ≤ maxLen) (_hp : (Lit.int .i64 p).wf = true) (he : Env w) :
    Calls Tryd.prog 3 #[.string s0, .agg #[.string s, .string h, .int .i64 p]] w fun e w' => e = .returned (.bool true) ∧ Below w.heap.size w w' := by
  have HE := Lib.hid he
  have HB0 : Hid (Below w.heap.size w (w.alloc (.cells #[.string s, .string h, .int .i64 p] 23))) := (Below.refl _ _).alloc (Nat.le_refl _) _
  have HO0 := Lib.hid (OrgAt.new w s h p 23)
  clear he
  have fin : ∀ W, Below w.heap.size w W → Calls Tryd.prog 10 #[] W fun e w' => e = .returned (.bool true) ∧ Below w.heap.size w w' := fun W hb =>
    (awake3_any W (HE.out.below hb)).mono fun e w' ⟨a, b⟩ => ⟨a, hb.trans (b.mono hb.size)⟩
  have FIN := Lib.hid fin
  clear fin
  cases hl : Lk.longL 700 [s0.size]
  case true =>
    have HL : Hid (Lk.longL (700 : Int).toNat ([s0].map ByteArray.size) = true) := hl
    clear hl
    go_enter Tryd.func3, Tryd.ntmps3
    go_wp2_with fail
    refine (Long_any _ _ _ _ [s0] _ _ (by decide) (by decide) rfl (SRow.one_at _ _ _ _ (by simp)) (by simp [maxLen]) (by simpa using hs0)).mono ?_
    rintro e' w1 ⟨rfl, hw⟩
    rw [HL.out]
    have HB1 : Hid (Below w.heap.size w w1) := by rw [← hw]; exact HB0.out.alloc HB0.out.size _
    clear hw
    go_wp2_with fail
    refine (FIN.out _ HB1.out).mono ?_
    rintro e' w2 ⟨rfl, hb⟩
    go_wp2
    go_ret
    exact ⟨rfl, hb⟩
  case false =>
    have hsz : s0.size ≤ 700 := by have := Lk.long_no _ _ hl; simp at this; omega
    have HL : Hid (Lk.longL (700 : Int).toNat ([s0].map ByteArray.size) = false) := hl
    clear hl
    obtain ⟨a, b, q, e, hv, hc, hbz⟩ := parse_form s0.data.toList
    have HV := Lib.hid hv
    clear hv hc
    go_enter Tryd.func3, Tryd.ntmps3
    go_wp2_with fail
    refine (Long_any _ _ _ _ [s0] _ _ (by decide) (by decide) rfl (SRow.one_at _ _ _ _ (by simp)) (by simp [maxLen]) (by simpa using hs0)).mono ?_
    rintro e' w1 ⟨rfl, hw⟩
    rw [HL.out]
    have HB1 : Hid (Below w.heap.size w w1) := by rw [← hw]; exact HB0.out.alloc HB0.out.size _
    have HO1 : Hid (OrgAt w1 w.heap.size s h p) := by rw [← hw]; exact HO0.out.alloc _
    clear hw
    obtain ⟨a0, a1, a2⟩ := HO1.out
    go_wp2_with fail
    refine (Long_any _ _ _ _ [s, h] _ _ (by decide) (by decide) rfl (SRow.two_at _ _ _ _ _ (by simp)) (by simp [maxLen]) (by simpa using ⟨hs, hh⟩)).mono ?_
    rintro e' w2 ⟨rfl, hw⟩
    have HB2 : Hid (Below w.heap.size w w2) := by rw [← hw]; exact HB1.out.alloc HB1.out.size _
    have HO2 : Hid (OrgAt w2 w.heap.size s h p) := by rw [← hw]; exact HO1.out.alloc _
    clear hw a0 a1 a2
    cases hl : Lk.longL 700 [s.size, h.size]
    case true =>
      have HL2 : Hid (Lk.longL (700 : Int).toNat ([s, h].map ByteArray.size) = true) := hl
      clear hl
      rw [HL2.out]
      go_wp2_with fail
      refine (FIN.out _ HB2.out).mono ?_
      rintro e' w3 ⟨rfl, hb⟩
      go_wp2
      go_ret
      exact ⟨rfl, hb⟩
    have HL2 : Hid (Lk.longL (700 : Int).toNat ([s, h].map ByteArray.size) = false) := hl
    clear hl
    rw [HL2.out]
    go_wp2_with fail
    refine (Parse_any _ _ hs0 (HE.out.below HB2.out)).mono ?_
    rintro e' w3 ⟨rfl, hb⟩
    rw [HV.out]
    have HB3 : Hid (Below w.heap.size w w3) := HB2.out.trans (hb.mono HB2.out.size)
    have HO3 := Lib.hid (HO2.out.below hb HO2.out.lt)
    clear hb
    go_wp2_with fail
    refine (refParse_any _ _ hs0).mono ?_
    rintro e' w4 ⟨rfl, hb⟩
    rw [HV.out]
    have HB4 : Hid (Below w.heap.size w w4) := (HB3.out.alloc HB3.out.size _).trans (hb.mono (by have := HB3.out.size; simp; omega))
    have HO4 := Lib.hid ((HO3.out.alloc (.cells #[.string a, .string b, .int .i64 q] 23)).below hb (by have := HO3.out.lt; simp; omega))
    have HA4 := Lib.hid ((OrgAt.new w3 a b q 23).below hb (by simp))
    clear hb
    obtain ⟨w5, hw5⟩ : ∃ w5, w5 = w4.alloc (.cells #[.string a, .string b, .int .i64 q] 23) := ⟨_, rfl⟩
    have HB5 : Hid (Below w.heap.size w w5) := by rw [hw5]; exact HB4.out.alloc HB4.out.size _
    have hF5 : OrgAt w5 w.heap.size s h p ∧ OrgAt w5 w3.heap.size a b q ∧ OrgAt w5 w4.heap.size a b q := by
      rw [hw5]; exact ⟨HO4.out.alloc _, HA4.out.alloc _, OrgAt.new w4 a b q 23⟩
    have HW5 := Lib.hid hw5
    clear hw5
    obtain ⟨d, hd⟩ : ∃ d, d = defL s0.data.toList := ⟨_, rfl⟩
    have HD := Lib.hid hd
    clear hd
    go_wp2_with fail
    rw [← HW5.out]
    refine mix_start (fun W => OrgAt W w.heap.size s h p ∧ OrgAt W w3.heap.size a b q ∧ OrgAt W w4.heap.size a b q) (by kernel_rfl) ?_
    have hne : Nonempty (Held (fun W => OrgAt W w.heap.size s h p ∧ OrgAt W w3.heap.size a b q ∧ OrgAt W w4.heap.size a b q)) := ⟨⟨_, hF5⟩⟩
    have x0 : ∀ k : Held (fun W => OrgAt W w.heap.size s h p ∧ OrgAt W w3.heap.size a b q ∧ OrgAt W w4.heap.size a b q), k.w.cell? ⟨w.heap.size, 0, none⟩ = some (.string s) := fun k => k.h.1.c0
    have x1 : ∀ k : Held (fun W => OrgAt W w.heap.size s h p ∧ OrgAt W w3.heap.size a b q ∧ OrgAt W w4.heap.size a b q), k.w.cell? ⟨w.heap.size, 1, none⟩ = some (.string h) := fun k => k.h.1.c1
    have x2 : ∀ k : Held (fun W => OrgAt W w.heap.size s h p ∧ OrgAt W w3.heap.size a b q ∧ OrgAt W w4.heap.size a b q), k.w.cell? ⟨w.heap.size, 2, none⟩ = some (.int .i64 p) := fun k => k.h.1.c2
    have y0 : ∀ k : Held (fun W => OrgAt W w.heap.size s h p ∧ OrgAt W w3.heap.size a b q ∧ OrgAt W w4.heap.size a b q), k.w.cell? ⟨w3.heap.size, 0, none⟩ = some (.string a) := fun k => k.h.2.1.c0
    have y1 : ∀ k : Held (fun W => OrgAt W w.heap.size s h p ∧ OrgAt W w3.heap.size a b q ∧ OrgAt W w4.heap.size a b q), k.w.cell? ⟨w3.heap.size, 1, none⟩ = some (.string b) := fun k => k.h.2.1.c1
    have y2 : ∀ k : Held (fun W => OrgAt W w.heap.size s h p ∧ OrgAt W w3.heap.size a b q ∧ OrgAt W w4.heap.size a b q), k.w.cell? ⟨w3.heap.size, 2, none⟩ = some (.int .i64 q) := fun k => k.h.2.1.c2
    have z0 : ∀ k : Held (fun W => OrgAt W w.heap.size s h p ∧ OrgAt W w3.heap.size a b q ∧ OrgAt W w4.heap.size a b q), k.w.cell? ⟨w4.heap.size, 0, none⟩ = some (.string a) := fun k => k.h.2.2.c0
    have z1 : ∀ k : Held (fun W => OrgAt W w.heap.size s h p ∧ OrgAt W w3.heap.size a b q ∧ OrgAt W w4.heap.size a b q), k.w.cell? ⟨w4.heap.size, 1, none⟩ = some (.string b) := fun k => k.h.2.2.c1
    have z2 : ∀ k : Held (fun W => OrgAt W w.heap.size s h p ∧ OrgAt W w3.heap.size a b q ∧ OrgAt W w4.heap.size a b q), k.w.cell? ⟨w4.heap.size, 2, none⟩ = some (.int .i64 q) := fun k => k.h.2.2.c2
    have HB5' : Hid (Below w.heap.size w w5.drew) := HB5.out.drew
    have hF5' : OrgAt w5.drew w.heap.size s h p ∧ OrgAt w5.drew w3.heap.size a b q ∧ OrgAt w5.drew w4.heap.size a b q := ⟨hF5.1.drew, hF5.2.1.drew, hF5.2.2.drew⟩
    refine mix_seg [0, 1, 2, 3, 4, 5, 6, 7, 8, 9, 11] (by kernel_rfl) hF5' ?_
    simp only [segOf, pickOps, pickOp]
    repeat (go_big_quiet_step (fail))
    refine wpQuiet_nil ?_
    refine mix_run 10 (by kernel_rfl) ?_
    simp only [segOf, pickOps, pickOp]
    go_wp2_with fail
    refine (Check_any _ _ _ _ hh).mono ?_
    rintro e' w6 ⟨rfl, hb⟩
    have HB6 : Hid (Below w.heap.size w w6) := HB5'.out.trans (hb.mono HB5'.out.size)
    have hF6 := keep3 hF5' hb
    clear hb
    go_wp2_with fail
    refine MixPost.normal hF6 ?_
    refine mix_run 12 (by kernel_rfl) ?_
    simp only [segOf, pickOps, pickOp]
    go_wp2_with fail
    refine (refCheck_any _ _ _ _ hh).mono ?_
    rintro e' w7 ⟨rfl, hb⟩
    have HB7 : Hid (Below w.heap.size w w7) := HB6.out.trans (hb.mono HB6.out.size)
    have hF7 := keep3 hF6 hb
    clear hb
    go_wp2_with fail
    refine MixPost.normal hF7 ?_
    refine mix_seg [13, 14, 15, 16, 18] (by kernel_rfl) hF7 ?_
    simp only [segOf, pickOps, pickOp]
    repeat (go_big_quiet_step (fail))
    refine wpQuiet_nil ?_
    refine mix_run 17 (by kernel_rfl) ?_
    simp only [segOf, pickOps, pickOp]
    go_wp2_with fail
    refine (Show_any _ _ _ _ hh (HE.out.below HB7.out)).mono ?_
    rintro e' w8 ⟨rfl, hb⟩
    have HB8 : Hid (Below w.heap.size w w8) := HB7.out.trans (hb.mono HB7.out.size)
    have hF8 := keep3 hF7 hb
    clear hb
    go_wp2_with fail
    refine MixPost.normal hF8 ?_
    refine mix_run 19 (by kernel_rfl) ?_
    simp only [segOf, pickOps, pickOp]
    go_wp2_with fail
    refine (refShow_any _ _ _ _ hh).mono ?_
    rintro e' w9 ⟨rfl, hb⟩
    have HB9 : Hid (Below w.heap.size w w9) := HB8.out.trans (hb.mono HB8.out.size)
    have hF9 := keep3 hF8 hb
    clear hb
    go_wp2_with fail
    refine MixPost.normal hF9 ?_
    refine mix_seg [20, 21, 22, 23, 25] (by kernel_rfl) hF9 ?_
    simp only [segOf, pickOps, pickOp]
    repeat (go_big_quiet_step (fail))
    refine wpQuiet_nil ?_
    refine mix_run 24 (by kernel_rfl) ?_
    simp only [segOf, pickOps, pickOp]
    go_wp2_with fail
    refine (Key_any _ _ _ _ hh (HE.out.below HB9.out)).mono ?_
    rintro e' w10 ⟨rfl, hb⟩
    have HB10 : Hid (Below w.heap.size w w10) := HB9.out.trans (hb.mono HB9.out.size)
    have hF10 := keep3 hF9 hb
    clear hb
    go_wp2_with fail
    refine MixPost.normal hF10 ?_
    refine mix_run 26 (by kernel_rfl) ?_
    simp only [segOf, pickOps, pickOp]
    go_wp2_with fail
    refine (refKey_any _ _ _ _ hh).mono ?_
    rintro e' w11 ⟨rfl, hb⟩
    have HB11 : Hid (Below w.heap.size w w11) := HB10.out.trans (hb.mono HB10.out.size)
    have hF11 := keep3 hF10 hb
    clear hb
    go_wp2_with fail
    refine MixPost.normal hF11 ?_
    refine mix_seg [27, 28, 29, 30, 32] (by kernel_rfl) hF11 ?_
    simp only [segOf, pickOps, pickOp]
    repeat (go_big_quiet_step (fail))
    refine wpQuiet_nil ?_
    refine mix_run 31 (by kernel_rfl) ?_
    simp only [segOf, pickOps, pickOp]
    go_wp2_with fail
    refine (Default_any _ _).mono ?_
    rintro e' w' ⟨rfl, rfl⟩
    rw [← HD.out]
    go_wp2_with fail
    refine MixPost.normal hF11 ?_
    refine mix_run 33 (by kernel_rfl) ?_
    simp only [segOf, pickOps, pickOp]
    go_wp2_with fail
    refine (refDefault_any _ _).mono ?_
    rintro e' w' ⟨rfl, rfl⟩
    rw [← HD.out]
    go_wp2_with fail
    refine MixPost.normal hF11 ?_
    refine mix_seg [34, 35, 36] (by kernel_rfl) hF11 ?_
    simp only [segOf, pickOps, pickOp]
    repeat (go_big_quiet_step (fail))
    refine wpQuiet_nil ?_
    refine mix_run 37 (by kernel_rfl) ?_
    simp only [segOf, pickOps, pickOp]
    go_wp2_with fail
    refine (awake3_any _ (HE.out.below HB11.out)).mono ?_
    rintro e' w12 ⟨rfl, hb⟩
    have HB12 : Hid (Below w.heap.size w w12) := HB11.out.trans (hb.mono HB11.out.size)
    have hF12 := keep3 hF11 hb
    clear hb
    go_wp2_with fail
    refine MixPost.normal hF12 ?_
    refine mix_seg [38, 39] (by kernel_rfl) hF12 ?_
    simp only [segOf, pickOps, pickOp]
    repeat (go_big_quiet_step (fail))
    refine wpQuiet_nil ?_
    refine mix_done (by kernel_rfl) ?_
    go_wp2
    go_ret
    exact ⟨rfl, HB12.out⟩
end Go.Proofs.YtbnkfocaegcjdaaDoor
