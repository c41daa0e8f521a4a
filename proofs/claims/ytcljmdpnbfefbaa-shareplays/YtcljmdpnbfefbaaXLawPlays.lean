/-
  The walk of the law SharePlays: whoever joins and leaves, whatever is done, it returns true, and nothing that was there has turned. Conditions: the calls lie where the slice says.
-/
import Derived.Test.YtcljmdpnbfefbaaXOne
import Derived.Test.YtcljmdpnbfefbaaXDeed
import Derived.Test.YtcljmdpnbfefbaaKLow
import Derived.Deep.CutRange
import Derived.Deep.CutBlock
namespace Go.Proofs.Ytcljmdpnbfefbaa
open Go.RowKit

/-- two tables with no block in common, all of them new -/
structure PairS (w W : World) (g gm : Nat) (f fm : List Nat) (s sm : Sv) : Prop where
  p : TbN eP 1 w W g f s
  m : TbN eR 0 w W gm fm sm
  d : ∀ x ∈ f, x ∉ fm
/-- a call in a box -/
structure DeAt (W : World) (b : Nat) (x : Dd) : Prop where
  c0 : W.cell? ⟨b, 0, none⟩ = some (.int .i64 x.op)
  c1 : W.cell? ⟨b, 1, none⟩ = some (.int .i64 x.id)
  c2 : W.cell? ⟨b, 2, none⟩ = some (.string x.w.o)
  c3 : W.cell? ⟨b, 3, none⟩ = some (.string x.w.u)
  c4 : W.cell? ⟨b, 4, none⟩ = some (.bool x.w.c)
  c5 : W.cell? ⟨b, 5, none⟩ = some (.string x.w.m)
  c6 : W.cell? ⟨b, 6, none⟩ = some (.string x.w.s)
theorem DeAt.lt {W : World} {b : Nat} {x : Dd} (h : DeAt W b x) : b < W.heap.size := block_of_cell (a := ⟨b, 0, none⟩) h.c0
theorem DeAt.only {W W' : World} {b : Nat} {x : Dd} {s : List Nat} (h : DeAt W b x) (o : Only s W W') (hs : b ∉ s) : DeAt W' b x :=
  ⟨(o.cell (p := ⟨b, 0, none⟩) h.lt hs).trans h.c0, (o.cell (p := ⟨b, 1, none⟩) h.lt hs).trans h.c1, (o.cell (p := ⟨b, 2, none⟩) h.lt hs).trans h.c2, (o.cell (p := ⟨b, 3, none⟩) h.lt hs).trans h.c3,
   (o.cell (p := ⟨b, 4, none⟩) h.lt hs).trans h.c4, (o.cell (p := ⟨b, 5, none⟩) h.lt hs).trans h.c5, (o.cell (p := ⟨b, 6, none⟩) h.lt hs).trans h.c6⟩
theorem DeAt.new (W : World) (x : Dd) (t : TypeId) : DeAt (W.alloc (.cells #[.int .i64 x.op, .int .i64 x.id, .string x.w.o, .string x.w.u, .bool x.w.c, .string x.w.m, .string x.w.s] t)) W.heap.size x := ⟨by simp, by simp, by simp, by simp, by simp, by simp, by simp⟩
/-- both tables, and a call that was read beside them -/
structure PlayS (w W : World) (g gm : Nat) (f fm : List Nat) (b : Nat) (x : Dd) (s sm : Sv) : Prop where
  p : PairS w W g gm f fm s sm
  c : DeAt W b x
  n0 : b ∉ f
  n1 : b ∉ fm
section
variable {w W W' : World} {g gm b : Nat} {f fm : List Nat} {x : Dd} {s sm s' : Sv}
theorem PairS.old (h : PairS w W g gm f fm s sm) (o : Only [] W W') : PairS w W' g gm f fm s sm := ⟨h.p.old o, h.m.old o, h.d⟩
theorem PlayS.old (h : PlayS w W g gm f fm b x s sm) (o : Only [] W W') : PlayS w W' g gm f fm b x s sm := ⟨h.p.old o, h.c.only o (by simp), h.n0, h.n1⟩
theorem PlayS.stepP (h : PlayS w W g gm f fm b x s sm) (n : Nx eP 1 W W' g f s') : ∃ f', PlayS w W' g gm f' fm b x s' sm := by
  obtain ⟨f', p, o, m⟩ := h.p.p.step n
  refine ⟨f', ⟨p, h.p.m.off o (fun x hx => ⟨h.p.p.n x hx, fun hm => h.p.d x hx hm⟩), fun x hx hm => ?_⟩, h.c.only o h.n0, fun hm => ?_, h.n1⟩
  · rcases m x hx with h1 | h1; exact h.p.d x h1 hm; exact absurd (h.p.m.p.lt hm) (Nat.not_lt.2 h1)
  · rcases m _ hm with h1 | h1; exact h.n0 h1; exact absurd h.c.lt (Nat.not_lt.2 h1)
theorem PlayS.stepM (h : PlayS w W g gm f fm b x s sm) (n : Nx eR 0 W W' gm fm s') : ∃ fm', PlayS w W' g gm f fm' b x s s' := by
  obtain ⟨f', p, o, m⟩ := h.p.m.step n
  refine ⟨f', ⟨h.p.p.off o (fun x hx => ⟨h.p.m.n x hx, fun hm => h.p.d x hm hx⟩), p, fun x hx hm => ?_⟩, h.c.only o h.n1, h.n0, fun hm => ?_⟩
  · rcases m x hm with h1 | h1; exact h.p.d x hx h1; exact absurd (h.p.p.p.lt hx) (Nat.not_lt.2 h1)
  · rcases m _ hm with h1 | h1; exact h.n1 h1; exact absurd h.c.lt (Nat.not_lt.2 h1)
end

set_option maxRecDepth 20000 in
set_option maxHeartbeats 8000000 in
theorem walk_SharePlays (a0 : Option Addr) (c0 : Nat) (x0 : List Dd) (a1 : Int) (a2 : Int) (w : World) (h0 : DArg w a0 c0 x0) (_h1 : (Lit.int .i64 a1).wf = true) (_h2 : (Lit.int .i64 a2).wf = true) :
    Calls Try.prog 3 #[.slice a0 x0.length c0, .int .i64 a1, .int .i64 a2] w fun e w' => e = .returned (.bool true) ∧ Below w.heap.size w w' := by
  clear _h1 _h2
  have H2 := Lib.hid h0
  have hl2 := h0.2.2.1
  have hm2 := h0.2.2.2
  unfold maxLen at hm2
  clear h0
  by_cases hb1 : 150 < x0.length
  · go_enter Try.func3, Try.ntmps3
    go_wp2_with fail
    refine (awake18_any _).mono ?_
    rintro e w' ⟨rfl, hb⟩
    go_wp2
    go_ret
    exact ⟨rfl, hb⟩
  go_enter Try.func3, Try.ntmps3
  go_wp2_with fail
  refine (fNew_any w).mono ?_
  rintro e w1 ⟨g, rfl, hp, ho, hg⟩
  have N1 := Lib.hid (TbN.made (Below.refl _ w) hp ho hg)
  clear hp ho hg
  go_wp2_with fail
  refine (hNew_any w1).mono ?_
  rintro e w2 ⟨gm, rfl, hp, ho, hg⟩
  have HP2 : Hid (PairS w w2 g gm [g] [gm] s0 s0) :=
    ⟨N1.out.old ho, TbN.made N1.out.b hp ho hg, fun x hx hm => by simp at hx hm; have := N1.out.p.lt (x := g) (by simp); omega⟩
  clear hp ho hg N1
  go_wp2_with fail
  go_loopw [9] (fun i wr => ∃ (k : Nat) (f fm : List Nat) (s : Sv), k ≤ x0.length ∧ i = .int .i64 k ∧ PairS w wr g gm f fm s s ∧ s.last ≤ k) (fun i _ => x0.length - (intOf i).toNat)
  case atStart => exact ⟨0, _, _, _, by omega, rfl, HP2.out, Nat.le_refl _⟩
  case round =>
    obtain ⟨k, f, fm, s, hk, rfl, hx, hla⟩ := hrel
    have HX := Lib.hid hx
    have HLA : Hid (s.last ≤ k ∧ k ≤ 150) := ⟨hla, by omega⟩
    clear hx hla HP2
    by_cases hlt : k < x0.length
    · obtain ⟨ad, e1, hda⟩ := H2.out.1 k x0[k] (List.getElem?_eq_getElem hlt)
      have HWF := Lib.hid (H2.out.2.1 _ (List.getElem_mem hlt))
      have HDA := Lib.hid (hda.below HX.out.p.b)
      clear hda
      generalize x0[k] = x at *
      subst e1
      obtain ⟨gc, hgc⟩ : ∃ gc, gc = wr.heap.size := ⟨_, rfl⟩
      obtain ⟨W9, hW9⟩ : ∃ W9, W9 = wr.alloc (.cells #[.int .i64 x.op, .int .i64 x.id, .string x.w.o, .string x.w.u, .bool x.w.c, .string x.w.m, .string x.w.s] 33) := ⟨_, rfl⟩
      have HX9 : Hid (PlayS w W9 g gm f fm gc x s s) := by
        show PlayS _ _ _ _ _ _ _ _ _ _
        rw [hW9, hgc]
        refine ⟨HX.out.old ((Only.refl _ _).alloc _), DeAt.new _ _ _, fun hm => ?_, fun hm => ?_⟩
        · have := HX.out.p.p.lt hm; omega
        · have := HX.out.m.p.lt hm; omega
      obtain ⟨d0, d1, d2, d3, d4, d5, d6⟩ := HDA.out
      go_wp2_with fail
      rw [← hW9, ← hgc]
      clear hW9 hgc d0 d1 d2 d3 d4 d5 d6
      obtain ⟨d0, d1, d2, d3, d4, d5, d6⟩ := HX9.out.c
      have hgr := great_any x.w W9 HWF.out.2.2
      simp only [wV] at hgr
      go_wp2_with fail
      refine hgr.mono ?_
      rintro e W10 ⟨b, rfl, ho⟩
      have HXD := Lib.hid (HX9.out.old ho)
      clear hgr ho d0 d1 d2 d3 d4 d5 d6
      cases b with
      | true =>
        go_wp2_with fail
        refine (awake18_any _).mono ?_
        rintro e w' ⟨rfl, hb⟩
        have HE := Lib.hid (HXD.out.p.p.b.trans (hb.mono HXD.out.p.p.b.size))
        clear hb
        go_wp2
        go_ret
        exact ⟨rfl, HE.out⟩
      | false =>
        obtain ⟨z, hz⟩ : ∃ z : Int, z = lowV x.op 4 := ⟨_, rfl⟩
        have HZ : Hid (lowV x.op 4 = z) := hz.symm
        have HZB : Hid (z = 0 ∨ z = 1 ∨ z = 2 ∨ z = 3) := by show _ ∨ _; have := lowV_bd x.op (n := 4) (by omega); omega
        clear hz
        have d0 := HXD.out.c.c0
        go_wp2_with fail
        refine (Low_any x.op 4 W10 (by omega) (by omega)).mono ?_
        rintro e w' ⟨rfl, rfl⟩
        rw [HZ.out]
        clear d0 HZ HX9 HDA
        go_upto_block 2 with fail
        go_cut [] from 52 to 128 (fun W => ∃ (f fm : List Nat) (s : Sv), PlayS w W g gm f fm gc x s s ∧ s.last ≤ k + 1)
        case first =>
          rcases HZB.out with rfl | rfl | rfl | rfl
          · obtain ⟨N, hN⟩ : ∃ N, joinN x.w x.id s = N := ⟨_, rfl⟩
            obtain ⟨Fb, hFb⟩ : ∃ Fb, joinF x.w x.id s = Fb := ⟨_, rfl⟩
            obtain ⟨C, hC⟩ : ∃ C, joinC x.id s = C := ⟨_, rfl⟩
            have HN : Hid (joinN x.w x.id s = N ∧ joinF x.w x.id s = Fb ∧ joinC x.id s = C) := ⟨hN, hFb, hC⟩
            clear hN hFb hC
            obtain ⟨d0, d1, d2, d3, d4, d5, d6⟩ := HXD.out.c
            have hj := fJoin_any x.w x.id HXD.out.p.p.p (by have := HLA.out; omega)
            rw [HN.out.1, HN.out.2.1, HN.out.2.2] at hj
            simp only [wV] at hj
            go_wp2_with fail
            refine hj.mono ?_
            rintro e W4 ⟨rfl, hn⟩
            obtain ⟨f4, h4⟩ := HXD.out.stepP hn
            have HX4 := Lib.hid h4
            clear hj hn h4 d0 d1 d2 d3 d4 d5 d6
            obtain ⟨d0, d1, d2, d3, d4, d5, d6⟩ := HX4.out.c
            have hj := hJoin_any x.w x.id HX4.out.p.m.p (by have := HLA.out; omega)
            rw [HN.out.1, HN.out.2.1, HN.out.2.2] at hj
            simp only [wV] at hj
            go_wp2_with fail
            refine hj.mono ?_
            rintro e W5 ⟨rfl, hn⟩
            obtain ⟨f5, h5⟩ := HX4.out.stepM hn
            have HX5 := Lib.hid h5
            clear hj hn h5 d0 d1 d2 d3 d4 d5 d6
            go_wp2_with fail
            go_meet
            case rel => exact ⟨_, _, _, HX5.out, by have := HLA.out; have := joinS_last x.w x.id s; omega⟩
          · obtain ⟨N, hN⟩ : ∃ N, joinN x.w x.id s = N := ⟨_, rfl⟩
            obtain ⟨Fb, hFb⟩ : ∃ Fb, joinF x.w x.id s = Fb := ⟨_, rfl⟩
            obtain ⟨C, hC⟩ : ∃ C, joinC x.id s = C := ⟨_, rfl⟩
            have HN : Hid (joinN x.w x.id s = N ∧ joinF x.w x.id s = Fb ∧ joinC x.id s = C) := ⟨hN, hFb, hC⟩
            clear hN hFb hC
            obtain ⟨d0, d1, d2, d3, d4, d5, d6⟩ := HXD.out.c
            have hj := fJoin_any x.w x.id HXD.out.p.p.p (by have := HLA.out; omega)
            rw [HN.out.1, HN.out.2.1, HN.out.2.2] at hj
            simp only [wV] at hj
            go_wp2_with fail
            refine hj.mono ?_
            rintro e W4 ⟨rfl, hn⟩
            obtain ⟨f4, h4⟩ := HXD.out.stepP hn
            have HX4 := Lib.hid h4
            clear hj hn h4 d0 d1 d2 d3 d4 d5 d6
            obtain ⟨d0, d1, d2, d3, d4, d5, d6⟩ := HX4.out.c
            have hj := hJoin_any x.w x.id HX4.out.p.m.p (by have := HLA.out; omega)
            rw [HN.out.1, HN.out.2.1, HN.out.2.2] at hj
            simp only [wV] at hj
            go_wp2_with fail
            refine hj.mono ?_
            rintro e W5 ⟨rfl, hn⟩
            obtain ⟨f5, h5⟩ := HX4.out.stepM hn
            have HX5 := Lib.hid h5
            clear hj hn h5 d0 d1 d2 d3 d4 d5 d6
            go_wp2_with fail
            go_meet
            case rel => exact ⟨_, _, _, HX5.out, by have := HLA.out; have := joinS_last x.w x.id s; omega⟩
          · obtain ⟨N, hN⟩ : ∃ N, leaveN x.id s = N := ⟨_, rfl⟩
            obtain ⟨Fb, hFb⟩ : ∃ Fb, leaveF x.id s = Fb := ⟨_, rfl⟩
            obtain ⟨C, hC⟩ : ∃ C, leaveO x.id s = C := ⟨_, rfl⟩
            have HN : Hid (leaveN x.id s = N ∧ leaveF x.id s = Fb ∧ leaveO x.id s = C) := ⟨hN, hFb, hC⟩
            clear hN hFb hC
            obtain ⟨d0, d1, d2, d3, d4, d5, d6⟩ := HXD.out.c
            have hj := fLeave_any x.id HXD.out.p.p.p
            rw [HN.out.1, HN.out.2.1, HN.out.2.2] at hj
            go_wp2_with fail
            refine hj.mono ?_
            rintro e W4 ⟨rfl, hn⟩
            obtain ⟨f4, h4⟩ := HXD.out.stepP hn
            have HX4 := Lib.hid h4
            clear hj hn h4 d0 d1 d2 d3 d4 d5 d6
            obtain ⟨d0, d1, d2, d3, d4, d5, d6⟩ := HX4.out.c
            have hj := hLeave_any x.id HX4.out.p.m.p
            rw [HN.out.1, HN.out.2.1, HN.out.2.2] at hj
            go_wp2_with fail
            refine hj.mono ?_
            rintro e W5 ⟨rfl, hn⟩
            obtain ⟨f5, h5⟩ := HX4.out.stepM hn
            have HX5 := Lib.hid h5
            clear hj hn h5 d0 d1 d2 d3 d4 d5 d6
            go_wp2_with fail
            go_meet
            case rel => exact ⟨_, _, _, HX5.out, by have := HLA.out; rw [leaveS_last]; omega⟩
          · obtain ⟨W3, hW3⟩ : ∃ W3, W3 = W10.drew := ⟨_, rfl⟩
            have HX3 : Hid (PlayS w W3 g gm f fm gc x s s) := by show PlayS _ _ _ _ _ _ _ _ _ _; rw [hW3]; exact HXD.out.old ((Only.refl _ _).drew)
            go_wp2_with fail
            refine mix_start (fun W => DeAt W gc x) (by kernel_rfl) ?_
            rw [← hW3]
            clear hW3
            have hne : Nonempty (Held (fun W => DeAt W gc x)) := ⟨⟨W3, HX3.out.c⟩⟩
            have hx1 : ∀ p : Held (fun W => DeAt W gc x), p.w.cell? ⟨gc, 1, none⟩ = some (.int .i64 x.id) := fun p => p.h.c1
            refine mix_seg [0, 1, 2, 4, 5, 6] (by kernel_rfl) HX3.out.c ?_
            simp only [segOf, pickOps, pickOp]
            repeat (go_big_quiet_step (rfl))
            refine wpQuiet_nil ?_
            clear hx1
            refine mix_run 3 (by kernel_rfl) ?_
            simp only [segOf, pickOps, pickOp]
            go_wp2_with fail
            refine (fDone_any x.id HX3.out.p.p.p).mono ?_
            rintro e W4 ⟨r1, rfl, hr4, hn4, hn⟩
            obtain ⟨f4, h4⟩ := HX3.out.stepP hn
            have HX4 := Lib.hid h4
            have HR4 := Lib.hid hr4
            have HN4 : Hid (∀ y ∈ ownL r1, y ∉ fm) := fun y hy hm => HX3.out.p.d y (hn4 y hy) hm
            clear hr4 hn4 hn h4
            go_wp2_with fail
            refine MixPost.normal HX4.out.c ?_
            refine mix_run 7 (by kernel_rfl) ?_
            simp only [segOf, pickOps, pickOp]
            go_wp2_with fail
            refine (hDone_any x.id HX4.out.p.m.p).mono ?_
            rintro e W5 ⟨r2, rfl, hr5, _, hn⟩
            have hn2 := hn
            obtain ⟨_, _, ho5, _⟩ := hn2
            have HR45 := Lib.hid (HR4.out.only ho5 HN4.out)
            have HR5 := Lib.hid hr5
            obtain ⟨f5, h5⟩ := HX4.out.stepM hn
            have HX5 := Lib.hid h5
            clear hr5 ho5 h5 hn
            go_wp2_with fail
            refine MixPost.normal HX5.out.c ?_
            refine mix_run 8 (by kernel_rfl) ?_
            simp only [segOf, pickOps, pickOp]
            go_wp2_with fail
            refine (Ints_any r1 r2 _ W5 HR45.out HR5.out).mono ?_
            rintro e W6 ⟨rfl, ho6⟩
            have HX6 := Lib.hid (HX5.out.old ho6)
            clear ho6
            go_wp2_with fail
            refine MixPost.normal HX6.out.c ?_
            refine mix_seg [9] (by kernel_rfl) HX6.out.c ?_
            simp only [segOf, pickOps, pickOp]
            repeat (go_big_quiet_step (rfl))
            refine wpQuiet_nil ?_
            refine mix_done (by kernel_rfl) ?_
            clear hne
            go_wp2_with fail
            go_meet
            case rel => exact ⟨_, _, _, HX6.out, by have := HLA.out; rw [doneS_last]; omega⟩
        case rest =>
          obtain ⟨f, fm, s, hx, hla⟩ := hcut
          obtain ⟨W11, hW11⟩ : ∃ W11, W11 = wc := ⟨_, rfl⟩
          rw [← hW11] at hx ⊢
          clear hW11
          have HXA := Lib.hid hx
          have HLB := Lib.hid hla
          clear hx hla HXD HLA
          obtain ⟨K, hK⟩ : ∃ K, wantW a2 s = K := ⟨_, rfl⟩
          obtain ⟨KO, hKO⟩ : ∃ KO, wantO a2 s = KO := ⟨_, rfl⟩
          obtain ⟨u1, hu1⟩ : ∃ u1, ofN a1 s = u1 := ⟨_, rfl⟩
          obtain ⟨u2, hu2⟩ : ∃ u2, ofN x.id s = u2 := ⟨_, rfl⟩
          obtain ⟨nb, hnb⟩ : ∃ nb, s.l.length = nb := ⟨_, rfl⟩
          have HK : Hid (wantW a2 s = K ∧ wantO a2 s = KO) := ⟨hK, hKO⟩
          have HU : Hid (ofN a1 s = u1 ∧ ofN x.id s = u2) := ⟨hu1, hu2⟩
          have HNB := Lib.hid hnb
          clear hK hKO hu1 hu2 hnb
          have hc1 := fWant_any a2 HXA.out.p.p.p
          rw [HK.out.1, HK.out.2] at hc1
          go_wp2_with fail
          refine hc1.mono ?_
          rintro e W12 ⟨rfl, ho⟩
          have HO12 := Lib.hid ho
          clear hc1 ho
          simp only [wV]
          obtain ⟨W13, hW13⟩ : ∃ W13, W13 = W12.alloc (.cells #[.string K.o, .string K.u, .bool K.c, .string K.m, .string K.s] 31) := ⟨_, rfl⟩
          obtain ⟨B3, hB3⟩ : ∃ B3, B3 = W12.heap.size := ⟨_, rfl⟩
          have HYB3 : Hid (WtAt W13 B3 0 K) := by show WtAt _ _ _ _; rw [hW13, hB3]; exact WtAt.new W12 K _
          have HQB3 : Hid (Only [] W12 W13) := by show Only _ _ _; rw [hW13]; exact (Only.refl _ _).alloc _
          have HXB := Lib.hid (HXA.out.old (HO12.out.trans HQB3.out))
          have hc1 := hWant_any a2 HXB.out.p.m.p
          rw [HK.out.1, HK.out.2] at hc1
          go_wp2_with fail
          rw [← hW13, ← hB3]
          clear hW13 hB3
          refine hc1.mono ?_
          rintro e W14 ⟨rfl, ho⟩
          have HO14 := Lib.hid ho
          clear hc1 ho
          simp only [wV]
          obtain ⟨W15, hW15⟩ : ∃ W15, W15 = W14.alloc (.cells #[.string K.o, .string K.u, .bool K.c, .string K.m, .string K.s] 31) := ⟨_, rfl⟩
          obtain ⟨B4, hB4⟩ : ∃ B4, B4 = W14.heap.size := ⟨_, rfl⟩
          have HYB4 : Hid (WtAt W15 B4 0 K) := by show WtAt _ _ _ _; rw [hW15, hB4]; exact WtAt.new W14 K _
          have HQB4 : Hid (Only [] W14 W15) := by show Only _ _ _; rw [hW15]; exact (Only.refl _ _).alloc _
          have HO15 : Hid (Only [] W13 W15) := HO14.out.trans HQB4.out
          have HXC := Lib.hid (HXB.out.old HO15.out)
          have HY3 := Lib.hid (HYB3.out.old HO15.out)
          obtain ⟨Am, cm, hmc, hmc1, hmc2⟩ := HXC.out.p.m.p.row
          rw [HNB.out] at hmc hmc1
          unfold maxLen at hmc2
          obtain ⟨F, hF⟩ : ∃ F : World → Prop, ∀ W, F W ↔ (DeAt W gc x ∧ W.cell? ⟨gm, 1, none⟩ = some (.slice Am nb cm) ∧ WtAt W B3 0 K ∧ WtAt W B4 0 K) := ⟨_, fun _ => Iff.rfl⟩
          have hx1 : ∀ p : Held F, p.w.cell? ⟨gc, 1, none⟩ = some (.int .i64 x.id) := fun p => ((hF _).1 p.h).1.c1
          have hxm : ∀ p : Held F, p.w.cell? ⟨gm, 1, none⟩ = some (.slice Am nb cm) := fun p => ((hF _).1 p.h).2.1
          have hy0 : ∀ p : Held F, p.w.cell? ⟨B3, 0, none⟩ = some (.string K.o) := fun p => ((hF _).1 p.h).2.2.1.c0
          have hy1 : ∀ p : Held F, p.w.cell? ⟨B3, 1, none⟩ = some (.string K.u) := fun p => ((hF _).1 p.h).2.2.1.c1
          have hy2 : ∀ p : Held F, p.w.cell? ⟨B3, 2, none⟩ = some (.bool K.c) := fun p => ((hF _).1 p.h).2.2.1.c2
          have hy3 : ∀ p : Held F, p.w.cell? ⟨B3, 3, none⟩ = some (.string K.m) := fun p => ((hF _).1 p.h).2.2.1.c3
          have hy4 : ∀ p : Held F, p.w.cell? ⟨B3, 4, none⟩ = some (.string K.s) := fun p => ((hF _).1 p.h).2.2.1.c4
          have hz0 : ∀ p : Held F, p.w.cell? ⟨B4, 0, none⟩ = some (.string K.o) := fun p => ((hF _).1 p.h).2.2.2.c0
          have hz1 : ∀ p : Held F, p.w.cell? ⟨B4, 1, none⟩ = some (.string K.u) := fun p => ((hF _).1 p.h).2.2.2.c1
          have hz2 : ∀ p : Held F, p.w.cell? ⟨B4, 2, none⟩ = some (.bool K.c) := fun p => ((hF _).1 p.h).2.2.2.c2
          have hz3 : ∀ p : Held F, p.w.cell? ⟨B4, 3, none⟩ = some (.string K.m) := fun p => ((hF _).1 p.h).2.2.2.c3
          have hz4 : ∀ p : Held F, p.w.cell? ⟨B4, 4, none⟩ = some (.string K.s) := fun p => ((hF _).1 p.h).2.2.2.c4
          have HFO : Hid (∀ W, Only [] W15 W → F W) := by
            show ∀ W, _
            intro W ho
            exact (hF _).2 ⟨(HXC.out.old ho).c, (ho.cell (p := ⟨gm, 1, none⟩) (HXC.out.p.m.p.lt HXC.out.p.m.p.self) (by simp)).trans hmc, HY3.out.old ho, HYB4.out.old ho⟩
          clear hF hmc
          have hq := neqW K K
          rw [wB_self] at hq
          obtain ⟨W16, hW16⟩ : ∃ W16, W16 = W15.drew := ⟨_, rfl⟩
          have HO16 : Hid (Only [] W15 W16) := by show Only _ _ _; rw [hW16]; exact (Only.refl _ _).drew
          have hne : Nonempty (Held F) := ⟨⟨W16, HFO.out _ HO16.out⟩⟩
          go_wp2_with fail
          refine mix_start F (by kernel_rfl) ?_
          rw [← hW15, ← hB4, ← hW16]
          clear hW15 hB4 hW16
          refine mix_seg [0, 1, 2, 3, 4, 5, 6, 7, 8, 9, 10, 12, 13] (by kernel_rfl) (HFO.out _ HO16.out) ?_
          simp only [segOf, pickOps, pickOp]
          repeat (go_big_quiet_step (rfl))
          refine wpQuiet_nil ?_
          clear hy0 hz0 hy1 hz1 hy2 hz2 hy3 hz3 hy4 hz4 hq
          refine mix_run 11 (by kernel_rfl) ?_
          simp only [segOf, pickOps, pickOp]
          go_wp2_with fail
          have hc1 := fOf_any a1 (HXC.out.old HO16.out).p.p.p
          rw [HU.out.1] at hc1
          refine hc1.mono ?_
          rintro e W17 ⟨rfl, ho⟩
          have HO17 := Lib.hid (HO16.out.trans ho)
          clear hc1 ho
          go_wp2_with fail
          refine MixPost.normal (HFO.out _ HO17.out) ?_
          refine mix_run 14 (by kernel_rfl) ?_
          simp only [segOf, pickOps, pickOp]
          go_wp2_with fail
          have hc1 := hOf_any a1 (HXC.out.old HO17.out).p.m.p
          rw [HU.out.1] at hc1
          refine hc1.mono ?_
          rintro e w' ⟨rfl, rfl⟩
          clear hc1
          go_wp2_with fail
          refine MixPost.normal (HFO.out _ HO17.out) ?_
          refine mix_seg [15, 16, 17, 18, 19, 20, 22, 23, 24] (by kernel_rfl) (HFO.out _ HO17.out) ?_
          simp only [segOf, pickOps, pickOp]
          repeat (go_big_quiet_step (rfl))
          refine wpQuiet_nil ?_
          refine mix_run 21 (by kernel_rfl) ?_
          simp only [segOf, pickOps, pickOp]
          go_wp2_with fail
          have hc1 := fOf_any x.id (HXC.out.old HO17.out).p.p.p
          rw [HU.out.2] at hc1
          refine hc1.mono ?_
          rintro e W18 ⟨rfl, ho⟩
          have HO18 := Lib.hid (HO17.out.trans ho)
          clear hc1 ho
          go_wp2_with fail
          refine MixPost.normal (HFO.out _ HO18.out) ?_
          refine mix_run 25 (by kernel_rfl) ?_
          simp only [segOf, pickOps, pickOp]
          go_wp2_with fail
          have hc1 := hOf_any x.id (HXC.out.old HO18.out).p.m.p
          rw [HU.out.2] at hc1
          refine hc1.mono ?_
          rintro e w' ⟨rfl, rfl⟩
          clear hc1
          go_wp2_with fail
          refine MixPost.normal (HFO.out _ HO18.out) ?_
          refine mix_seg [26, 27, 28, 29, 30, 32, 33] (by kernel_rfl) (HFO.out _ HO18.out) ?_
          simp only [segOf, pickOps, pickOp]
          repeat (go_big_quiet_step (rfl))
          refine wpQuiet_nil ?_
          refine mix_run 31 (by kernel_rfl) ?_
          simp only [segOf, pickOps, pickOp]
          go_wp2_with fail
          refine (fMembers_any a2 (HXC.out.old HO18.out).p.p.p).mono ?_
          rintro e W19 ⟨r1, rfl, hr1, _, ho⟩
          have HO19 := Lib.hid (HO18.out.trans ho)
          have HR1 := Lib.hid hr1
          clear hr1 ho
          go_wp2_with fail
          refine MixPost.normal (HFO.out _ HO19.out) ?_
          refine mix_run 34 (by kernel_rfl) ?_
          simp only [segOf, pickOps, pickOp]
          go_wp2_with fail
          refine (hMembers_any a2 (HXC.out.old HO19.out).p.m.p).mono ?_
          rintro e W20 ⟨r2, rfl, hr2, _, ho⟩
          have HO20 := Lib.hid (HO19.out.trans ho)
          have HR2 := Lib.hid hr2
          have HR12 := Lib.hid (HR1.out.old ho)
          clear hr2 ho HR1
          go_wp2_with fail
          refine MixPost.normal (HFO.out _ HO20.out) ?_
          refine mix_run 35 (by kernel_rfl) ?_
          simp only [segOf, pickOps, pickOp]
          go_wp2_with fail
          refine (Ints_any r1 r2 _ W20 HR12.out HR2.out).mono ?_
          rintro e W21 ⟨rfl, ho⟩
          have HO21 := Lib.hid (HO20.out.trans ho)
          clear ho HR12 HR2
          go_wp2_with fail
          refine MixPost.normal (HFO.out _ HO21.out) ?_
          refine mix_seg [36, 37, 38, 39, 40, 41, 43, 44, 45] (by kernel_rfl) (HFO.out _ HO21.out) ?_
          simp only [segOf, pickOps, pickOp]
          repeat (go_big_quiet_step (rfl))
          refine wpQuiet_nil ?_
          refine mix_run 42 (by kernel_rfl) ?_
          simp only [segOf, pickOps, pickOp]
          go_wp2_with fail
          refine (fMembers_any x.id (HXC.out.old HO21.out).p.p.p).mono ?_
          rintro e W22 ⟨r1, rfl, hr1, _, ho⟩
          have HO22 := Lib.hid (HO21.out.trans ho)
          have HR1 := Lib.hid hr1
          clear hr1 ho
          go_wp2_with fail
          refine MixPost.normal (HFO.out _ HO22.out) ?_
          refine mix_run 46 (by kernel_rfl) ?_
          simp only [segOf, pickOps, pickOp]
          go_wp2_with fail
          refine (hMembers_any x.id (HXC.out.old HO22.out).p.m.p).mono ?_
          rintro e W23 ⟨r2, rfl, hr2, _, ho⟩
          have HO23 := Lib.hid (HO22.out.trans ho)
          have HR2 := Lib.hid hr2
          have HR12 := Lib.hid (HR1.out.old ho)
          clear hr2 ho HR1
          go_wp2_with fail
          refine MixPost.normal (HFO.out _ HO23.out) ?_
          refine mix_run 47 (by kernel_rfl) ?_
          simp only [segOf, pickOps, pickOp]
          go_wp2_with fail
          refine (Ints_any r1 r2 _ W23 HR12.out HR2.out).mono ?_
          rintro e W24 ⟨rfl, ho⟩
          have HO24 := Lib.hid (HO23.out.trans ho)
          clear ho HR12 HR2
          go_wp2_with fail
          refine MixPost.normal (HFO.out _ HO24.out) ?_
          refine mix_seg [48, 49, 50, 51, 53, 54, 55, 56, 57] (by kernel_rfl) (HFO.out _ HO24.out) ?_
          simp only [segOf, pickOps, pickOp]
          repeat (go_big_quiet_step (rfl))
          refine wpQuiet_nil ?_
          clear hx1 hxm
          refine mix_run 52 (by kernel_rfl) ?_
          simp only [segOf, pickOps, pickOp]
          go_wp2_with fail
          have hc1 := fLen_any (HXC.out.old HO24.out).p.p.p
          rw [HNB.out] at hc1
          refine hc1.mono ?_
          rintro e W25 ⟨rfl, ho⟩
          have HO25 := Lib.hid (HO24.out.trans ho)
          clear hc1 ho
          go_wp2_with fail
          refine MixPost.normal (HFO.out _ HO25.out) ?_
          refine mix_seg [58, 59] (by kernel_rfl) (HFO.out _ HO25.out) ?_
          simp only [segOf, pickOps, pickOp]
          repeat (go_big_quiet_step (rfl))
          refine wpQuiet_nil ?_
          refine mix_done (by kernel_rfl) ?_
          clear hne
          have HXE := Lib.hid (HXC.out.old HO25.out)
          go_wp2
          go_roundw
          case rel => exact ⟨k + 1, f, fm, s, by omega, by go_num, HXE.out.p, HLB.out⟩
          case measure => simp [intOf]; omega
    · obtain rfl : k = x0.length := by omega
      go_wp2_with fail
      refine (awake18_any _).mono ?_
      rintro e w' ⟨rfl, hb⟩
      have HE := Lib.hid (HX.out.p.b.trans (hb.mono HX.out.p.b.size))
      clear hb
      go_wp2
      go_ret
      exact ⟨rfl, HE.out⟩
end Go.Proofs.Ytcljmdpnbfefbaa
