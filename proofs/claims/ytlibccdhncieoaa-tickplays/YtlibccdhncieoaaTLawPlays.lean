/-
  The walk of the law TickPlays: whatever the steps and the times that are asked for, it returns true, and nothing that was there has turned. Conditions: the numbers lie where the slices say.
-/
import Derived.Test.YtlibccdhncieoaaTLaw
import Derived.Test.YtlibccdhncieoaaKMix
namespace Go.Proofs.Ytlibccdhncieoaa
open Go.RowKit

set_option maxHeartbeats 1000000 in
theorem walk_TickPlays (a0 : Int) (a1 : Option Addr) (c1 : Nat) (x1 : List Int) (a2 : Option Addr) (c2 : Nat) (x2 : List Int) (w : World)
    (h0 : (Lit.int .u64 a0).wf = true) (h1 : IArg .u64 w a1 c1 x1) (h2 : IArg .u64 w a2 c2 x2) :
    Calls Try.prog 4 #[.int .u64 a0, .slice a1 x1.length c1, .slice a2 x2.length c2] w fun e w' => e = .returned (.bool true) ∧ Below w.heap.size w w' := by
  have ⟨p0, q0⟩ := wfU h0
  clear h0
  have H1 := Lib.hid h1
  have H2 := Lib.hid h2
  have hl1 := h1.2.2.1
  have hl2 := h2.2.2.1
  have hm1 := h1.2.2.2
  have hm2 := h2.2.2.2
  unfold maxLen at hm1 hm2
  clear h1 h2
  by_cases hb1 : 100 < x1.length
  · go_enter Try.func4, Try.ntmps4
    go_wp2_with fail
    refine (awake2_any _).mono ?_
    rintro e w' ⟨rfl, hb⟩
    go_wp2
    go_ret
    exact ⟨rfl, hb⟩
  by_cases hb2 : 100 < x2.length
  · go_enter Try.func4, Try.ntmps4
    go_wp2_with fail
    refine (awake2_any _).mono ?_
    rintro e w' ⟨rfl, hb⟩
    go_wp2
    go_ret
    exact ⟨rfl, hb⟩
  go_enter Try.func4, Try.ntmps4
  go_wp2_with fail
  refine (clockNew_any _ _).mono ?_
  rintro e w1 ⟨rfl, hw1⟩
  have hc : ClockAt w1 w.heap.size a0 := by rw [hw1]; exact ClockAt.new _ _ _
  have hb : Below w.heap.size w w1 := by rw [hw1]; exact (Below.refl _ _).alloc (Nat.le_refl _) _
  clear hw1
  go_wp2_with fail
  go_loopw [8, 9] (fun n i wr => ∃ (k : Nat) (t : Int), k ≤ x1.length ∧ i = .int .i64 k ∧ n = .int .u64 t ∧ 0 ≤ t ∧ t ≤ 18446744073709551615 ∧ ClockAt wr w.heap.size t ∧ Below w.heap.size w wr) (fun _ i _ => x1.length - (intOf i).toNat)
  case atStart => exact ⟨0, a0, Nat.zero_le _, rfl, rfl, p0, q0, hc, hb⟩
  case round =>
    obtain ⟨k, t, hk, rfl, rfl, pt, qt, hct, hbt⟩ := hrel
    by_cases hlt : k < x1.length
    · obtain ⟨ad, e1, hB, hcell⟩ := H1.out.1 k x1[k] (List.getElem?_eq_getElem hlt)
      have hwf := wfU (H1.out.2.1 x1[k] (List.getElem_mem hlt))
      have hcl : wr.cell? (ad.add k) = some (.int .u64 x1[k]) := (hbt.cell (p := ad.add k) (by rw [block_add]; exact hB)).trans hcell
      clear hcell
      generalize x1[k] = x at *
      obtain ⟨px, qx⟩ := hwf
      subst e1
      obtain ⟨s, hs⟩ : ∃ s, s = Lk.addT t x := ⟨_, rfl⟩
      have ps : 0 ≤ s := by rw [hs]; exact Lk.addT_ge _ _ pt px
      have qs : s ≤ 18446744073709551615 := by rw [hs]; exact Lk.addT_le _ _
      have HS := Lib.hid hs
      clear hs
      go_wp2_with fail
      refine (rtickAdd_any _ _ _ pt qt px qx).mono ?_
      rintro e w' ⟨rfl, rfl⟩
      rw [← HS.out]
      have hc2 : ClockAt (wr.setCell ⟨w.heap.size, 0, none⟩ (.int .u64 s)) w.heap.size s := hct.set _
      have hb2 : Below w.heap.size w (wr.setCell ⟨w.heap.size, 0, none⟩ (.int .u64 s)) := hbt.setCell (Nat.le_refl _) _
      have hclS : (wr.setCell ⟨w.heap.size, 0, none⟩ (.int .u64 s)).cell? (ad.add k) = some (.int .u64 x) := ((hbt.setCell (p := ⟨w.heap.size, 0, none⟩) (Nat.le_refl _) (.int .u64 s)).cell (p := ad.add k) (by rw [block_add]; exact hB)).trans ((hbt.cell (p := ad.add k) (by rw [block_add]; exact hB)).symm.trans hcl)
      by_cases hlt2 : k < x2.length
      · obtain ⟨ad2, e2, hB2, hcell2⟩ := H2.out.1 k x2[k] (List.getElem?_eq_getElem hlt2)
        have hcl2 : (wr.setCell ⟨w.heap.size, 0, none⟩ (.int .u64 s)).cell? (ad2.add k) = some (.int .u64 x2[k]) := (hb2.cell (p := ad2.add k) (by rw [block_add]; exact hB2)).trans hcell2
        have hcell2w := (hbt.cell (p := ad2.add k) (by rw [block_add]; exact hB2)).trans hcell2
        clear hcell2
        generalize x2[k] = y at *
        subst e2
        have hcl2w : wr.cell? (ad2.add k) = some (.int .u64 y) := hcell2w
        clear hcell2w
        have hi : (k : Int) < (x2.length : Int) := by omega
        have hi1 : (k : Int) < (x1.length : Int) := by omega
        go_wp2_with fail
        refine mix_start (fun W => W.cell? (ad.add k) = some (.int .u64 x) ∧ W.cell? (ad2.add k) = some (.int .u64 y)) (by kernel_rfl) ?_
        have hne : Nonempty (Held (fun W => W.cell? (ad.add k) = some (.int .u64 x) ∧ W.cell? (ad2.add k) = some (.int .u64 y))) := ⟨⟨wr, hcl, hcl2w⟩⟩
        have hx : ∀ p : Held (fun W => W.cell? (ad.add k) = some (.int .u64 x) ∧ W.cell? (ad2.add k) = some (.int .u64 y)), p.w.cell? (ad.add k) = some (.int .u64 x) := fun p => p.h.1
        have hy : ∀ p : Held (fun W => W.cell? (ad.add k) = some (.int .u64 x) ∧ W.cell? (ad2.add k) = some (.int .u64 y)), p.w.cell? (ad2.add k) = some (.int .u64 y) := fun p => p.h.2
        refine mix_seg [0, 1, 2, 3, 4, 6] (by kernel_rfl) ⟨hcl, hcl2w⟩ ?_
        simp only [segOf, pickOps, pickOp]
        repeat (go_big_quiet_step (fail))
        refine wpQuiet_nil ?_
        refine mix_run 5 (by kernel_rfl) ?_
        simp only [segOf, pickOps, pickOp]
        go_wp2_with fail
        refine (clockStep_any _ t _ _ ?_ pt qt px qx).mono ?_
        · exact hct
        rintro e w2 ⟨rfl, rfl⟩
        rw [← HS.out]
        go_wp2_with fail
        refine MixPost.normal ⟨hclS, hcl2⟩ ?_
        refine mix_seg [7, 8, 9, 11] (by kernel_rfl) ⟨hclS, hcl2⟩ ?_
        simp only [segOf, pickOps, pickOp]
        repeat (go_big_quiet_step (fail))
        refine wpQuiet_nil ?_
        refine mix_run 10 (by kernel_rfl) ?_
        simp only [segOf, pickOps, pickOp]
        go_wp2_with fail
        refine (clockNow_any _ s _ ?_).mono ?_
        · exact hc2
        rintro e w' ⟨rfl, rfl⟩
        go_wp2_with fail
        refine MixPost.normal ⟨hclS, hcl2⟩ ?_
        refine mix_seg [12, 13, 14, 15, 16, 17, 18, 19, 20, 21, 22, 23, 24, 26, 27, 28, 29, 30, 31] (by kernel_rfl) ⟨hclS, hcl2⟩ ?_
        simp only [segOf, pickOps, pickOp]
        repeat (go_big_quiet_step (fail))
        refine wpQuiet_nil ?_
        refine mix_run 25 (by kernel_rfl) ?_
        simp only [segOf, pickOps, pickOp]
        go_wp2_with fail
        refine (clockPast_any _ s _ _ ?_).mono ?_
        · exact hc2
        rintro e w' ⟨rfl, rfl⟩
        go_wp2_with fail
        refine MixPost.normal ⟨hclS, hcl2⟩ ?_
        refine mix_seg [32, 33, 34] (by kernel_rfl) ⟨hclS, hcl2⟩ ?_
        simp only [segOf, pickOps, pickOp]
        repeat (go_big_quiet_step (fail))
        refine wpQuiet_nil ?_
        refine mix_done (by kernel_rfl) ?_
        go_wp2_with fail
        go_roundw
        case rel => exact ⟨k + 1, s, by omega, by go_num, rfl, ps, qs, hc2, hb2.drew⟩
        case measure => simp [intOf]; omega
      · have hi1 : (k : Int) < (x1.length : Int) := by omega
        go_wp2_with fail
        have hi : decide ((k : Int) < (x2.length : Int)) = false := by rw [decide_eq_false_iff_not]; omega
        refine mix_start (fun W => W.cell? (ad.add k) = some (.int .u64 x)) (by kernel_rfl) ?_
        have hne : Nonempty (Held (fun W => W.cell? (ad.add k) = some (.int .u64 x))) := ⟨⟨wr, hcl⟩⟩
        have hx : ∀ p : Held (fun W => W.cell? (ad.add k) = some (.int .u64 x)), p.w.cell? (ad.add k) = some (.int .u64 x) := fun p => p.h
        refine mix_seg [0, 1, 2, 3, 4, 6] (by kernel_rfl) hcl ?_
        simp only [segOf, pickOps, pickOp]
        repeat (go_big_quiet_step (fail))
        refine wpQuiet_nil ?_
        refine mix_run 5 (by kernel_rfl) ?_
        simp only [segOf, pickOps, pickOp]
        go_wp2_with fail
        refine (clockStep_any _ t _ _ ?_ pt qt px qx).mono ?_
        · exact hct
        rintro e w2 ⟨rfl, rfl⟩
        rw [← HS.out]
        go_wp2_with fail
        refine MixPost.normal hclS ?_
        refine mix_seg [7, 8, 9, 11] (by kernel_rfl) hclS ?_
        simp only [segOf, pickOps, pickOp]
        repeat (go_big_quiet_step (fail))
        refine wpQuiet_nil ?_
        refine mix_run 10 (by kernel_rfl) ?_
        simp only [segOf, pickOps, pickOp]
        go_wp2_with fail
        refine (clockNow_any _ s _ ?_).mono ?_
        · exact hc2
        rintro e w' ⟨rfl, rfl⟩
        go_wp2_with fail
        refine MixPost.normal hclS ?_
        refine mix_seg [12, 13, 14, 15, 16, 17, 18, 19, 20, 21, 22, 23, 24, 26, 27, 28, 29, 30, 31] (by kernel_rfl) hclS ?_
        simp only [segOf, pickOps, pickOp]
        repeat (go_big_quiet_step (fail))
        refine wpQuiet_nil ?_
        refine mix_run 25 (by kernel_rfl) ?_
        simp only [segOf, pickOps, pickOp]
        go_wp2_with fail
        refine MixPost.normal hclS ?_
        refine mix_seg [32, 33, 34] (by kernel_rfl) hclS ?_
        simp only [segOf, pickOps, pickOp]
        repeat (go_big_quiet_step (fail))
        refine wpQuiet_nil ?_
        refine mix_done (by kernel_rfl) ?_
        go_wp2_with fail
        go_roundw
        case rel => exact ⟨k + 1, s, by omega, by go_num, rfl, ps, qs, hc2, hb2.drew⟩
        case measure => simp [intOf]; omega
    · go_wp2_with fail
      refine (clockPast_any _ _ _ _ hct).mono ?_
      rintro e w' ⟨rfl, rfl⟩
      have hd : decide (t ≤ t) = true := by simp
      rw [hd]
      by_cases hM : t = 18446744073709551615
      · subst hM
        go_wp2_with fail
        refine (awake2_any _).mono ?_
        rintro e w' ⟨rfl, hb⟩
        go_wp2
        go_ret
        exact ⟨rfl, hbt.trans (hb.mono hbt.size)⟩
      · have h3 : t + 1 ≤ 18446744073709551615 := by omega
        go_wp2_with fail
        refine (clockPast_any _ _ _ _ hct).mono ?_
        rintro e w' ⟨rfl, rfl⟩
        have hd2 : decide (t + 1 ≤ t) = false := by rw [decide_eq_false_iff_not]; omega
        rw [hd2]
        go_wp2_with fail
        refine (awake2_any _).mono ?_
        rintro e w' ⟨rfl, hb⟩
        go_wp2
        go_ret
        exact ⟨rfl, hbt.trans (hb.mono hbt.size)⟩
end Go.Proofs.Ytlibccdhncieoaa
