/-
  The walk of the law HostsPlays: whatever is used and freed, it returns true, and nothing that was there has turned. Conditions: the calls lie where the slice says.
-/
import Derived.Test.YtmpaopfjpigneaaNPair
import Derived.Test.YtmpaopfjpigneaaNDeed
import Derived.Test.YtmpaopfjpigneaaKTexts
import Derived.Test.YtmpaopfjpigneaaKLow
import Derived.Deep.CutRange
namespace Go.Proofs.Ytmpaopfjpigneaa
open Go.RowKit

theorem DArg.at_ {w : World} {a : Option Addr} {c : Nat} {xs : List Dd} (h : DArg w a c xs) {j : Nat} (hj : j < xs.length) :
    ∃ ad, a = some ad ∧ ad.block < w.heap.size ∧ w.cell? (ad.add (j * 2)) = some (.int .i64 xs[j].1) ∧ w.cell? ⟨(ad.add (j * 2)).block, (ad.add (j * 2)).off + 1, none⟩ = some (.string xs[j].2) :=
  h.1 j xs[j] (List.getElem?_eq_getElem hj)

set_option maxRecDepth 20000 in
set_option maxHeartbeats 8000000 in
theorem walk_HostsPlays (a0 : Int) (a1 : Option Addr) (c1 : Nat) (x1 : List Dd) (a2 : ByteArray) (w : World) (_h0 : (Lit.int .i64 a0).wf = true) (h1 : DArg w a1 c1 x1) (_h2 : a2.size ≤ maxLen) :
    Calls Try.prog 3 #[.int .i64 a0, .slice a1 x1.length c1, .string a2] w fun e w' => e = .returned (.bool true) ∧ Below w.heap.size w w' := by
  clear _h0 _h2
  have H1 := Lib.hid h1
  have hl1 := h1.2.2.1
  have hm1 := h1.2.2.2
  unfold maxLen at hm1
  clear h1
  by_cases hb1 : 200 < x1.length
  · go_enter Try.func3, Try.ntmps3
    go_wp2_with fail
    refine (awake12_any _).mono ?_
    rintro e w' ⟨rfl, hb⟩
    go_wp2
    go_ret
    exact ⟨rfl, hb⟩
  obtain ⟨W0, hW0⟩ : ∃ W0, W0 = w.alloc (.cells #[.string a2] 9) := ⟨_, rfl⟩
  have HB0 : Hid (Below w.heap.size w W0) := by show Below _ _ _; rw [hW0]; exact (Below.refl _ _).alloc (Nat.le_refl _) _
  have HC0 : Hid (W0.cell? ⟨w.heap.size, 0, none⟩ = some (.string a2)) := by show _ = _; rw [hW0]; simp
  have HW0 := Lib.hid hW0
  clear hW0
  by_cases hlong : 50 ≤ a2.size
  · go_enter Try.func3, Try.ntmps3
    go_wp2_with fail
    rw [← HW0.out]
    refine (Long1_any 50 w.heap.size a2 W0 HC0.out (by omega)).mono ?_
    rintro e w1 ⟨rfl, rfl⟩
    rw [decide_eq_true hlong]
    go_wp2_with fail
    refine (awake12_any _).mono ?_
    rintro e w' ⟨rfl, hb⟩
    have HE := Lib.hid (HB0.out.trans (hb.mono HB0.out.size))
    clear hb
    go_wp2
    go_ret
    exact ⟨rfl, HE.out⟩
  have HLF : Hid (decide (50 ≤ a2.size) = false) := decide_eq_false hlong
  obtain ⟨M, hM⟩ : ∃ M, M = clampT a0 := ⟨_, rfl⟩
  have HME := Lib.hid hM
  clear hlong hM
  go_enter Try.func3, Try.ntmps3
  go_wp2_with fail
  rw [← HW0.out]
  refine (Long1_any 50 w.heap.size a2 W0 HC0.out (by omega)).mono ?_
  rintro e w1 ⟨rfl, rfl⟩
  rw [HLF.out]
  go_wp2_with fail
  refine (hNew_any a0 W0).mono ?_
  rintro e w1 ⟨rfl, ht1, ho1, hs1⟩
  rw [← HME.out] at ht1
  obtain ⟨g, hg⟩ : ∃ g, g = W0.heap.size := ⟨_, rfl⟩
  rw [← hg] at ht1 hs1 ⊢
  have HT1 := Lib.hid ht1
  have HO1 := Lib.hid ho1
  have HG : Hid (w.heap.size ≤ g ∧ w1.heap.size = g + 1) := by show _ ∧ _; have := HB0.out.size; omega
  clear ht1 ho1 hs1 hg
  go_wp2_with fail
  refine (tNew_any a0 w1).mono ?_
  rintro e w2 ⟨rfl, ht2, ho2, _⟩
  rw [← HME.out] at ht2
  obtain ⟨gm, hgm⟩ : ∃ gm, gm = w1.heap.size := ⟨_, rfl⟩
  rw [← hgm] at ht2 ⊢
  have HP2 : Hid (PairAt w w2 g gm M (.slice none 0 0) (.slice none 0 0) [] []) :=
    ⟨HT1.out.old ho2, ht2, Only.below HB0.out (HO1.out.trans ho2) HB0.out.size (by simp), HG.out.1, (by have := HG.out; omega), (by intro x hx; simp [ownL, Value.ownBlock] at hx), (by intro x hx; simp [ownL, Value.ownBlock] at hx),
      ⟨(by have := HG.out; omega), (by intro x hx; simp [ownL, Value.ownBlock] at hx), (by intro x hx; simp [ownL, Value.ownBlock] at hx)⟩⟩
  clear ht2 ho2 hgm
  go_wp2_with fail
  go_loopw [9] (fun i wr => ∃ (k : Nat) (v vm : Value) (l : List Ho), k ≤ x1.length ∧ i = .int .i64 k ∧ PairAt w wr g gm M v vm l l) (fun i _ => x1.length - (intOf i).toNat)
  case atStart => exact ⟨0, _, _, _, by omega, rfl, HP2.out⟩
  case round =>
    obtain ⟨k, v, vm, l, hk, rfl, hx⟩ := hrel
    have HX := Lib.hid hx
    clear hx HP2
    by_cases hlt : k < x1.length
    · obtain ⟨ad, e1, hB, hc0, hc1⟩ := H1.out.at_ hlt
      have HBL := HX.out.b
      have hf0 := (HBL.cell (p := ad.add (k * 2)) (by rw [block_add]; exact hB)).trans hc0
      have hf1 : wr.cell? ⟨(ad.add (k * 2)).block, (ad.add (k * 2)).off + 1, none⟩ = _ := (HBL.cell (p := ⟨(ad.add (k * 2)).block, (ad.add (k * 2)).off + 1, none⟩) (by rw [block_add]; exact hB)).trans hc1
      obtain ⟨x, hx⟩ : ∃ x, x = x1[k] := ⟨_, rfl⟩
      rw [← hx] at hf0 hf1
      obtain ⟨xo, xk⟩ := x
      simp only at hf0 hf1
      clear hc0 hc1 hx hB HBL
      subst e1
      obtain ⟨gc, hgc⟩ : ∃ gc, gc = wr.heap.size := ⟨_, rfl⟩
      obtain ⟨Wd, hWd⟩ : ∃ Wd, Wd = (wr.alloc (.cells #[.int .i64 xo, .string xk] 30)).alloc (.cells #[.string xk] 9) := ⟨_, rfl⟩
      have HXD : Hid (PlayAt w Wd g gm M v vm l l gc xo xk) := by
        show PlayAt _ _ _ _ _ _ _ _ _ _ _ _
        have ho : Only [] wr Wd := by rw [hWd]; exact ((Only.refl _ _).alloc _).alloc _
        have hp := HX.out
        have h1 := hp.t.head.lt
        have h2 := hp.m.head.lt
        refine ⟨hp.old ho, ?_, by omega, by omega, fun hm => ?_, fun hm => ?_⟩
        · have hq : HoCall (wr.alloc (.cells #[.int .i64 xo, .string xk] 30)) gc xo xk := by rw [hgc]; exact ⟨by simp, by simp⟩
          have ho2 : Only [] (wr.alloc (.cells #[.int .i64 xo, .string xk] 30)) Wd := by rw [hWd]; exact (Only.refl _ _).alloc _
          exact hq.only ho2 (by simp)
        · have := (hp.t.own hm).2; omega
        · have := (hp.m.own hm).2; omega
      have HKD : Hid (Wd.cell? ⟨wr.heap.size + 1, 0, none⟩ = some (.string xk)) := by show _ = _; rw [hWd]; exact cell_second _ _ _ _
      have HWD := Lib.hid hWd
      have HGC := Lib.hid hgc
      clear hWd hgc
      obtain ⟨q, hq⟩ : ∃ q : Nat, lowV xo 3 = (q : Int) := ⟨(lowV xo 3).toNat, by have := lowV_bd xo (n := 3) (by omega); omega⟩
      have HQ := Lib.hid hq
      clear hq
      by_cases hlk : 50 ≤ xk.size
      · go_wp2_with fail
        rw [← HWD.out]
        clear hf0 hf1
        refine (Long1_any 50 (wr.heap.size + 1) xk Wd HKD.out (by omega)).mono ?_
        rintro e w3 ⟨rfl, rfl⟩
        rw [decide_eq_true hlk]
        go_wp2_with fail
        refine (awake12_any _).mono ?_
        rintro e w' ⟨rfl, hb⟩
        have HE := Lib.hid (HXD.out.p.b.trans (hb.mono HXD.out.p.b.size))
        clear hb
        go_wp2
        go_ret
        exact ⟨rfl, HE.out⟩
      have HLK : Hid (decide (50 ≤ xk.size) = false) := decide_eq_false hlk
      clear hlk
      go_wp2_with fail
      rw [← HWD.out, ← HGC.out]
      clear hf0 hf1
      refine (Long1_any 50 (gc + 1) xk Wd (by rw [HGC.out]; exact HKD.out) (by omega)).mono ?_
      rintro e w3 ⟨rfl, rfl⟩
      rw [HLK.out]
      have d0 := HXD.out.c.c0
      have d1 := HXD.out.c.c1
      go_wp2_with fail
      refine (Low_any xo 3 Wd (by omega) (by omega)).mono ?_
      rintro e w' ⟨rfl, rfl⟩
      rw [HQ.out]
      clear d0 HQ HWD HKD
      go_upto_if 48 with fail
      go_cut [] from 48 to 79 (fun W => ∃ (v vm : Value) (l : List Ho), PlayAt w W g gm M v vm l l gc xo xk)
      case first =>
        by_cases h2 : q = 2
        · subst h2
          obtain ⟨W3, hW3⟩ : ∃ W3, W3 = Wd.drew := ⟨_, rfl⟩
          have HX3 : Hid (PlayAt w W3 g gm M v vm l l gc xo xk) := by show PlayAt _ _ _ _ _ _ _ _ _ _ _ _; rw [hW3]; exact HXD.out.old ((Only.refl _ _).drew)
          obtain ⟨c, hc⟩ : ∃ c, c = freeC l xk := ⟨_, rfl⟩
          have HCE := Lib.hid hc
          clear hc
          go_wp2_with fail
          refine mix_start (fun W => HoCall W gc xo xk) (by kernel_rfl) ?_
          rw [← hW3]
          clear hW3
          have hne : Nonempty (Held (fun W => HoCall W gc xo xk)) := ⟨⟨W3, HX3.out.c⟩⟩
          have hx1 : ∀ p : Held (fun W => HoCall W gc xo xk), p.w.cell? ⟨gc, 1, none⟩ = some (.string xk) := fun p => p.h.c1
          clear d1
          refine mix_seg [0, 1, 2, 4, 5, 6] (by kernel_rfl) HX3.out.c ?_
          simp only [segOf, pickOps, pickOp]
          repeat (go_big_quiet_step (fail))
          refine wpQuiet_nil ?_
          clear hx1
          refine mix_run 3 (by kernel_rfl) ?_
          simp only [segOf, pickOps, pickOp]
          go_wp2_with fail
          refine (pFree_any xk HX3.out).mono ?_
          rintro e W4 ⟨rfl, h4⟩
          rw [← HCE.out]
          have HX4 := Lib.hid h4
          clear h4
          go_wp2_with fail
          refine MixPost.normal HX4.out.c ?_
          refine mix_run 7 (by kernel_rfl) ?_
          simp only [segOf, pickOps, pickOp]
          go_wp2_with fail
          refine (qFree_any xk HX4.out).mono ?_
          rintro e W5 ⟨rfl, h5⟩
          rw [← HCE.out]
          have HX5 := Lib.hid h5
          clear h5
          go_wp2_with fail
          refine MixPost.normal HX5.out.c ?_
          refine mix_seg [8] (by kernel_rfl) HX5.out.c ?_
          simp only [segOf, pickOps, pickOp]
          repeat (go_big_quiet_step (fail))
          refine wpQuiet_nil ?_
          refine mix_done (by kernel_rfl) ?_
          clear hne
          go_wp2_with fail
          go_meet
          case rel => exact ⟨_, _, _, HX5.out⟩
        · have h2i : ¬ (q : Int) = 2 := by omega
          have h2b : ((q : Int) == 2) = false := by simpa using h2i
          obtain ⟨c, hc⟩ : ∃ c, c = useC M l xk := ⟨_, rfl⟩
          obtain ⟨y, hy⟩ : ∃ y, y = useG M l xk := ⟨_, rfl⟩
          have HCE := Lib.hid hc
          have HYE := Lib.hid hy
          clear hc hy
          go_wp2_with fail
          refine (pUse_any xk HXD.out).mono ?_
          rintro e W4 ⟨rfl, v4, h4⟩
          rw [← HCE.out, ← HYE.out]
          have HX4 := Lib.hid h4
          clear h4 d1
          have d1 := HX4.out.c.c1
          go_wp2_with fail
          refine (qUse_any xk HX4.out).mono ?_
          rintro e W5 ⟨rfl, v5, h5⟩
          rw [← HCE.out, ← HYE.out]
          have HX5 := Lib.hid h5
          clear h5 d1
          go_wp2_with fail
          go_meet
          case rel => exact ⟨_, _, _, HX5.out⟩
      case rest =>
        clear d1
        obtain ⟨v, vm, l, hx⟩ := hcut
        obtain ⟨W3, hW3⟩ : ∃ W3, W3 = wc.drew := ⟨_, rfl⟩
        have HX3 : Hid (PlayAt w W3 g gm M v vm l l gc xo xk) := by show PlayAt _ _ _ _ _ _ _ _ _ _ _ _; rw [hW3]; exact hx.old ((Only.refl _ _).drew)
        clear hx
        obtain ⟨u1, hu1⟩ : ∃ u1, u1 = usedC l xk := ⟨_, rfl⟩
        obtain ⟨u2, hu2⟩ : ∃ u2, u2 = usedC l a2 := ⟨_, rfl⟩
        obtain ⟨u3, hu3⟩ : ∃ u3, u3 = hasC l a2 := ⟨_, rfl⟩
        have HU1 := Lib.hid hu1
        have HU2 := Lib.hid hu2
        have HU3 := Lib.hid hu3
        have HKL : Hid ((keysL l).length ≤ 32) := by show _ ≤ _; rw [keysL, List.length_map]; exact Nat.le_trans HX3.out.p.t.ok.len HX3.out.p.t.ok.m2
        clear hu1 hu2 hu3
        go_wp2_with fail
        refine mix_start (fun W => HoCall W gc xo xk) (by kernel_rfl) ?_
        rw [← hW3]
        clear hW3
        have hne : Nonempty (Held (fun W => HoCall W gc xo xk)) := ⟨⟨W3, HX3.out.c⟩⟩
        have hx1 : ∀ p : Held (fun W => HoCall W gc xo xk), p.w.cell? ⟨gc, 1, none⟩ = some (.string xk) := fun p => p.h.c1
        refine mix_seg [0, 2] (by kernel_rfl) HX3.out.c ?_
        simp only [segOf, pickOps, pickOp]
        repeat (go_big_quiet_step (fail))
        refine wpQuiet_nil ?_
        refine mix_run 1 (by kernel_rfl) ?_
        simp only [segOf, pickOps, pickOp]
        go_wp2_with fail
        refine (hKeys_any g M v l W3 HX3.out.p.t).mono ?_
        rintro e W4 ⟨r1, rfl, hr1, ho4⟩
        have HR1 := Lib.hid hr1
        have HO4 := Lib.hid ho4
        have HX4 := Lib.hid (HX3.out.old ho4)
        clear hr1 ho4
        go_wp2_with fail
        refine MixPost.normal HX4.out.c ?_
        refine mix_run 3 (by kernel_rfl) ?_
        simp only [segOf, pickOps, pickOp]
        go_wp2_with fail
        refine (rKeys_any gm M vm l W4 HX4.out.p.m).mono ?_
        rintro e W5 ⟨r2, rfl, hr2, ho5⟩
        obtain ⟨A1, cap1, e1, _, _, hs1⟩ := (HR1.out.only ho5 (by simp)).view
        obtain ⟨A2, cap2, e2, _, _, hs2⟩ := hr2.view
        subst e1 e2
        have HS1 := Lib.hid hs1
        have HS2 := Lib.hid hs2
        have HX5 := Lib.hid (HX4.out.old ho5)
        clear hr2 ho5 hs1 hs2
        go_wp2_with fail
        refine MixPost.normal HX5.out.c ?_
        refine mix_run 4 (by kernel_rfl) ?_
        simp only [segOf, pickOps, pickOp]
        go_wp2_with fail
        refine (Texts_any A1 A2 (keysL l).length (keysL l).length cap1 cap2 _ _ (keysL l) (keysL l) true W5 rfl rfl (by have := HKL.out; unfold maxLen; omega) HS1.out HS2.out (by simp)).mono ?_
        rintro e W6 ⟨rfl, n6, h6⟩
        have HX6 : Hid (PlayAt w W6 g gm M v vm l l gc xo xk) := by show PlayAt _ _ _ _ _ _ _ _ _ _ _ _; rw [h6]; exact HX5.out.old ((Only.refl _ _).drewN _)
        clear h6
        go_wp2_with fail
        refine MixPost.normal HX6.out.c ?_
        refine mix_seg [5, 6, 7, 8, 9, 11, 12, 13] (by kernel_rfl) HX6.out.c ?_
        simp only [segOf, pickOps, pickOp]
        repeat (go_big_quiet_step (fail))
        refine wpQuiet_nil ?_
        clear hx1
        refine mix_run 10 (by kernel_rfl) ?_
        simp only [segOf, pickOps, pickOp]
        go_wp2_with fail
        refine (hUsed_any g M v l xk W6 HX6.out.p.t).mono ?_
        rintro e W7 ⟨rfl, ho7⟩
        rw [← HU1.out]
        have HX7 := Lib.hid (HX6.out.old ho7)
        clear ho7
        go_wp2_with fail
        refine MixPost.normal HX7.out.c ?_
        refine mix_run 14 (by kernel_rfl) ?_
        simp only [segOf, pickOps, pickOp]
        go_wp2_with fail
        refine (tUsed_any gm M vm l xk W7 HX7.out.p.m).mono ?_
        rintro e W8 ⟨rfl, rfl⟩
        rw [← HU1.out]
        go_wp2_with fail
        refine MixPost.normal HX7.out.c ?_
        refine mix_seg [15, 16, 17, 18, 19, 21, 22] (by kernel_rfl) HX7.out.c ?_
        simp only [segOf, pickOps, pickOp]
        repeat (go_big_quiet_step (fail))
        refine wpQuiet_nil ?_
        refine mix_run 20 (by kernel_rfl) ?_
        simp only [segOf, pickOps, pickOp]
        go_wp2_with fail
        refine (hUsed_any g M v l a2 W7 HX7.out.p.t).mono ?_
        rintro e W8 ⟨rfl, ho8⟩
        rw [← HU2.out]
        have HX8 := Lib.hid (HX7.out.old ho8)
        clear ho8
        go_wp2_with fail
        refine MixPost.normal HX8.out.c ?_
        refine mix_run 23 (by kernel_rfl) ?_
        simp only [segOf, pickOps, pickOp]
        go_wp2_with fail
        refine (tUsed_any gm M vm l a2 W8 HX8.out.p.m).mono ?_
        rintro e W9 ⟨rfl, rfl⟩
        rw [← HU2.out]
        go_wp2_with fail
        refine MixPost.normal HX8.out.c ?_
        refine mix_seg [24, 25, 26, 27, 28, 30, 31] (by kernel_rfl) HX8.out.c ?_
        simp only [segOf, pickOps, pickOp]
        repeat (go_big_quiet_step (fail))
        refine wpQuiet_nil ?_
        refine mix_run 29 (by kernel_rfl) ?_
        simp only [segOf, pickOps, pickOp]
        go_wp2_with fail
        refine (hHas_any g M v l a2 W8 HX8.out.p.t).mono ?_
        rintro e W9 ⟨rfl, ho9⟩
        rw [← HU3.out]
        have HX9 := Lib.hid (HX8.out.old ho9)
        clear ho9
        go_wp2_with fail
        refine MixPost.normal HX9.out.c ?_
        refine mix_run 32 (by kernel_rfl) ?_
        simp only [segOf, pickOps, pickOp]
        go_wp2_with fail
        refine (tHas_any gm M vm l a2 W9 HX9.out.p.m).mono ?_
        rintro e W10 ⟨rfl, rfl⟩
        rw [← HU3.out]
        go_wp2_with fail
        refine MixPost.normal HX9.out.c ?_
        refine mix_seg [33, 34] (by kernel_rfl) HX9.out.c ?_
        simp only [segOf, pickOps, pickOp]
        repeat (go_big_quiet_step (fail))
        refine wpQuiet_nil ?_
        refine mix_done (by kernel_rfl) ?_
        clear hne
        go_wp2
        go_roundw
        case rel => exact ⟨k + 1, v, vm, l, by omega, by go_num, HX9.out.p⟩
        case measure => simp [intOf]; omega
    · obtain rfl : k = x1.length := by omega
      go_wp2_with fail
      refine (awake12_any _).mono ?_
      rintro e w' ⟨rfl, hb⟩
      have HE := Lib.hid (HX.out.b.trans (hb.mono HX.out.b.size))
      clear hb
      go_wp2
      go_ret
      exact ⟨rfl, HE.out⟩
end Go.Proofs.Ytmpaopfjpigneaa
