/-
  The walk of the law PoolPlays: whatever is taken, given back and expired, it returns true, and nothing that was there has turned. Conditions: the calls lie where the slice says.
-/
import Derived.Test.YtbnmldfiheffoaaQPair
import Derived.Test.YtbnmldfiheffoaaKLow
import Derived.Deep.CutRange
import Derived.Deep.CutBlock
namespace Go.Proofs.Ytbnmldfiheffoaa
open Go.RowKit

theorem DArg.five {w : World} {a : Option Addr} {c : Nat} {xs : List Dd} (h : DArg w a c xs) {j : Nat} (hj : j < xs.length) {W : World} (hb : Below w.heap.size w W) : ∃ ad : Addr, a = some ad ∧
    W.cell? (ad.add (j * 5)) = some (.int .i64 xs[j].op) ∧ W.cell? ⟨(ad.add (j * 5)).block, (ad.add (j * 5)).off + 1, none⟩ = some (.int .i64 xs[j].n) ∧
    W.cell? ⟨(ad.add (j * 5)).block, (ad.add (j * 5)).off + 2, none⟩ = some (.string xs[j].key) ∧ W.cell? ⟨(ad.add (j * 5)).block, (ad.add (j * 5)).off + 3, none⟩ = some (.int .u64 xs[j].t) ∧
    W.cell? ⟨(ad.add (j * 5)).block, (ad.add (j * 5)).off + 4, none⟩ = some (.bool xs[j].keep) := by
  obtain ⟨ad, e, hB, c0, c1, c2, c3, c4⟩ := h.1 j xs[j] (List.getElem?_eq_getElem hj)
  have hB2 : (ad.add (j * 5)).block < w.heap.size := by rw [block_add]; exact hB
  exact ⟨ad, e, (hb.cell (p := ad.add (j * 5)) hB2).trans c0, (hb.cell (p := ⟨(ad.add (j * 5)).block, (ad.add (j * 5)).off + 1, none⟩) hB2).trans c1, (hb.cell (p := ⟨(ad.add (j * 5)).block, (ad.add (j * 5)).off + 2, none⟩) hB2).trans c2,
    (hb.cell (p := ⟨(ad.add (j * 5)).block, (ad.add (j * 5)).off + 3, none⟩) hB2).trans c3, (hb.cell (p := ⟨(ad.add (j * 5)).block, (ad.add (j * 5)).off + 4, none⟩) hB2).trans c4⟩

set_option maxRecDepth 20000 in
set_option maxHeartbeats 8000000 in
theorem walk_PoolPlays (a0 : Int) (a1 : Int) (a2 : Option Addr) (c2 : Nat) (x2 : List Dd) (a3 : ByteArray) (w : World) (_h0 : (Lit.int .i64 a0).wf = true) (h1 : (Lit.int .u64 a1).wf = true) (h2 : DArg w a2 c2 x2) (_h3 : a3.size ≤ maxLen) :
    Calls Try.prog 3 #[.int .i64 a0, .int .u64 a1, .slice a2 x2.length c2, .string a3] w fun e w' => e = .returned (.bool true) ∧ Below w.heap.size w w' := by
  clear _h0 _h3
  have hkw := wfU h1
  obtain ⟨kp, hkp⟩ : ∃ kp : Nat, a1 = (kp : Int) := ⟨a1.toNat, by omega⟩
  subst hkp
  have HKP : Hid (kp < 18446744073709551616) := by show _ < _; omega
  have H2 := Lib.hid h2
  have hl2 := h2.2.2.1
  have hm2 := h2.2.2.2
  unfold maxLen at hm2
  clear h2 h1 hkw
  by_cases hb1 : 150 < x2.length
  · go_enter Try.func3, Try.ntmps3
    go_wp2_with fail
    refine (awake13_any _).mono ?_
    rintro e w' ⟨rfl, hb⟩
    go_wp2
    go_ret
    exact ⟨rfl, hb⟩
  obtain ⟨W0, hW0⟩ : ∃ W0, W0 = w.alloc (.cells #[.string a3] 9) := ⟨_, rfl⟩
  have HB0 : Hid (Below w.heap.size w W0) := by show Below _ _ _; rw [hW0]; exact (Below.refl _ _).alloc (Nat.le_refl _) _
  have HC0 : Hid (W0.cell? ⟨w.heap.size, 0, none⟩ = some (.string a3)) := by show _ = _; rw [hW0]; simp
  have HW0 := Lib.hid hW0
  clear hW0
  by_cases hlong : 50 ≤ a3.size
  · go_enter Try.func3, Try.ntmps3
    go_wp2_with fail
    rw [← HW0.out]
    refine (Long1_any 50 w.heap.size a3 W0 HC0.out (by omega)).mono ?_
    rintro e w1 ⟨rfl, rfl⟩
    rw [decide_eq_true hlong]
    go_wp2_with fail
    refine (awake13_any _).mono ?_
    rintro e w' ⟨rfl, hb⟩
    have HE := Lib.hid (HB0.out.trans (hb.mono HB0.out.size))
    clear hb
    go_wp2
    go_ret
    exact ⟨rfl, HE.out⟩
  have HLF : Hid (decide (50 ≤ a3.size) = false) := decide_eq_false hlong
  obtain ⟨S0, hS0⟩ : ∃ S0 : Pv, S0 = ⟨clampT a0, kp, 0, [], [], []⟩ := ⟨_, rfl⟩
  have HS0 := Lib.hid hS0
  have HS0L : Hid (S0.last = 0) := by show _ = _; rw [hS0]
  clear hlong hS0
  go_enter Try.func3, Try.ntmps3
  go_wp2_with fail
  rw [← HW0.out]
  refine (Long1_any 50 w.heap.size a3 W0 HC0.out (by omega)).mono ?_
  rintro e w1 ⟨rfl, rfl⟩
  rw [HLF.out]
  go_wp2_with fail
  refine (nNew_any a0 kp HB0.out HKP.out).mono ?_
  rintro e w1 ⟨g, f0, rfl, n1, _, _⟩
  rw [← HS0.out] at n1
  have N1 := Lib.hid n1
  clear n1
  go_wp2_with fail
  refine (hPnew_any a0 kp w1 HKP.out).mono ?_
  rintro e w2 ⟨gm, fm0, rfl, m2, o2, hf2⟩
  rw [← HS0.out] at m2
  have HP2 : Hid (PairQ w w2 g gm f0 fm0 S0 S0) :=
    ⟨N1.out.old o2, m2, fun x hx => Nat.le_trans N1.out.b.size (hf2 x hx), fun x hx hm => absurd (N1.out.p.lt hx) (Nat.not_lt.2 (hf2 x hm))⟩
  clear m2 o2 hf2
  go_wp2_with fail
  go_loopw [11] (fun i wr => ∃ (k : Nat) (f fm : List Nat) (s : Pv), k ≤ x2.length ∧ i = .int .i64 k ∧ PairQ w wr g gm f fm s s ∧ s.last ≤ k) (fun i _ => x2.length - (intOf i).toNat)
  case atStart => exact ⟨0, _, _, _, by omega, rfl, HP2.out, by rw [HS0L.out]; exact Nat.le_refl _⟩
  case round =>
    obtain ⟨k, f, fm, s, hk, rfl, hx, hla⟩ := hrel
    have HX := Lib.hid hx
    have HLA : Hid (s.last ≤ k ∧ k ≤ 150) := ⟨hla, by omega⟩
    clear hx hla HP2
    by_cases hlt : k < x2.length
    · obtain ⟨ad, e1, hf0, hf1, hf2, hf3, hf4⟩ := H2.out.five hlt HX.out.p.b
      have hwf := H2.out.2.1 _ (List.getElem_mem hlt)
      obtain ⟨x, hx⟩ : ∃ x, x = x2[k] := ⟨_, rfl⟩
      rw [← hx] at hf0 hf1 hf2 hf3 hf4 hwf
      clear hx
      have hwt := wfU hwf.2.2.2
      obtain ⟨t, ht⟩ : ∃ t : Nat, x.t = (t : Int) := ⟨x.t.toNat, by omega⟩
      have HTB : Hid (t < 18446744073709551616) := by show _ < _; omega
      rw [ht] at hf3
      clear ht hwt hwf
      subst e1
      obtain ⟨gc, hgc⟩ : ∃ gc, gc = wr.heap.size := ⟨_, rfl⟩
      obtain ⟨W10, hWd⟩ : ∃ W10, W10 = (wr.alloc (.cells #[.int .i64 x.op, .int .i64 x.n, .string x.key, .int .u64 (t : Int), .bool x.keep] 31)).alloc (.cells #[.string x.key] 9) := ⟨_, rfl⟩
      have HXD : Hid (PlayQ w W10 g gm f fm gc x t s s) := by
        show PlayQ _ _ _ _ _ _ _ _ _ _ _
        have ho : Only [] wr W10 := by rw [hWd]; exact ((Only.refl _ _).alloc _).alloc _
        have hp := HX.out
        refine ⟨hp.old ho, ?_, fun hm => ?_, fun hm => ?_⟩
        · have hq : DeCall (wr.alloc (.cells #[.int .i64 x.op, .int .i64 x.n, .string x.key, .int .u64 (t : Int), .bool x.keep] 31)) gc x t := by rw [hgc]; exact ⟨by simp, by simp, by simp, by simp, by simp⟩
          have ho2 : Only [] (wr.alloc (.cells #[.int .i64 x.op, .int .i64 x.n, .string x.key, .int .u64 (t : Int), .bool x.keep] 31)) W10 := by rw [hWd]; exact (Only.refl _ _).alloc _
          exact hq.only ho2 (by simp)
        · have := hp.p.p.lt hm; omega
        · have := hp.m.lt hm; omega
      have HKD : Hid (W10.cell? ⟨gc + 1, 0, none⟩ = some (.string x.key)) := by show _ = _; rw [hWd, hgc]; exact cell_second _ _ _ _
      have HWD := Lib.hid hWd
      have HGC := Lib.hid hgc
      clear hWd hgc
      obtain ⟨z, hz⟩ : ∃ z : Int, lowV x.op 4 = z := ⟨_, rfl⟩
      have hzb : z = 0 ∨ z = 1 ∨ z = 2 ∨ z = 3 := by have := lowV_bd x.op (n := 4) (by omega); omega
      have HZ := Lib.hid hz
      have HZB := Lib.hid hzb
      clear hz hzb
      by_cases hlk : 50 ≤ x.key.size
      · go_wp2_with fail
        rw [← HWD.out, ← HGC.out]
        clear hf0 hf1 hf2 hf3 hf4
        refine (Long1_any 50 (gc + 1) x.key W10 HKD.out (by omega)).mono ?_
        rintro e w3 ⟨rfl, rfl⟩
        rw [decide_eq_true hlk]
        go_wp2_with fail
        refine (awake13_any _).mono ?_
        rintro e w' ⟨rfl, hb⟩
        have HE := Lib.hid (HXD.out.p.p.b.trans (hb.mono HXD.out.p.p.b.size))
        clear hb
        go_wp2
        go_ret
        exact ⟨rfl, HE.out⟩
      have HLK : Hid (decide (50 ≤ x.key.size) = false) := decide_eq_false hlk
      clear hlk
      go_wp2_with fail
      rw [← HWD.out, ← HGC.out]
      clear hf0 hf1 hf2 hf3 hf4
      refine (Long1_any 50 (gc + 1) x.key W10 HKD.out (by omega)).mono ?_
      rintro e w3 ⟨rfl, rfl⟩
      rw [HLK.out]
      have d0 := HXD.out.c.c0
      go_wp2_with fail
      refine (Low_any x.op 4 W10 (by omega) (by omega)).mono ?_
      rintro e w' ⟨rfl, rfl⟩
      rw [HZ.out]
      clear d0 HZ HWD HKD
      go_upto_block 2 with fail
      go_cut [] from 58 to 131 (fun W => ∃ (f fm : List Nat) (s : Pv), PlayQ w W g gm f fm gc x t s s ∧ s.last ≤ k + 1)
      case first =>
        rcases HZB.out with rfl | rfl | rfl | rfl
        · obtain ⟨W3, hW3⟩ : ∃ W3, W3 = W10.drew := ⟨_, rfl⟩
          have HX3 : Hid (PlayQ w W3 g gm f fm gc x t s s) := by show PlayQ _ _ _ _ _ _ _ _ _ _ _; rw [hW3]; exact HXD.out.old ((Only.refl _ _).drew)
          go_wp2_with fail
          refine mix_start (fun W => DeCall W gc x t) (by kernel_rfl) ?_
          rw [← hW3]
          clear hW3
          have hne : Nonempty (Held (fun W => DeCall W gc x t)) := ⟨⟨W3, HX3.out.c⟩⟩
          have hx2 : ∀ p : Held (fun W => DeCall W gc x t), p.w.cell? ⟨gc, 2, none⟩ = some (.string x.key) := fun p => p.h.c2
          refine mix_seg [0, 1, 2, 4, 5, 6] (by kernel_rfl) HX3.out.c ?_
          simp only [segOf, pickOps, pickOp]
          repeat (go_big_quiet_step (rfl))
          refine wpQuiet_nil ?_
          obtain ⟨c, hc⟩ : ∃ c, c = canP s x.key := ⟨_, rfl⟩
          have HC := Lib.hid hc
          clear hc hx2
          refine mix_run 3 (by kernel_rfl) ?_
          simp only [segOf, pickOps, pickOp]
          go_wp2_with fail
          refine (nCan_any x.key HX3.out.p.p).mono ?_
          rintro e W4 ⟨rfl, _, ho4⟩
          rw [← HC.out]
          have HX4 := Lib.hid (HX3.out.old ho4)
          clear ho4
          go_wp2_with fail
          refine MixPost.normal HX4.out.c ?_
          refine mix_run 7 (by kernel_rfl) ?_
          simp only [segOf, pickOps, pickOp]
          go_wp2_with fail
          refine (hCan_any x.key HX4.out.p.m).mono ?_
          rintro e W5 ⟨rfl, ho5⟩
          rw [← HC.out]
          have HX5 := Lib.hid (HX4.out.old ho5)
          clear ho5
          go_wp2_with fail
          refine MixPost.normal HX5.out.c ?_
          refine mix_seg [8] (by kernel_rfl) HX5.out.c ?_
          simp only [segOf, pickOps, pickOp]
          repeat (go_big_quiet_step (rfl))
          refine wpQuiet_nil ?_
          refine mix_done (by kernel_rfl) ?_
          clear hne
          obtain ⟨N, hN⟩ : ∃ N, N = takeN x.key t s := ⟨_, rfl⟩
          obtain ⟨Fb, hFb⟩ : ∃ Fb, Fb = takeF x.key t s := ⟨_, rfl⟩
          obtain ⟨C, hC⟩ : ∃ C, C = takeC x.key s := ⟨_, rfl⟩
          have HN := Lib.hid hN
          have HFb := Lib.hid hFb
          have HCC := Lib.hid hC
          clear hN hFb hC
          have d2 := HX5.out.c.c2
          have d3 := HX5.out.c.c3
          go_wp2_with fail
          refine (yTake_any x.key t HX5.out (by have := HLA.out; omega)).mono ?_
          rintro e W6 ⟨rfl, f6, h6⟩
          rw [← HN.out, ← HFb.out, ← HCC.out]
          have HX6 := Lib.hid h6
          clear h6 d2 d3
          have d2 := HX6.out.c.c2
          have d3 := HX6.out.c.c3
          go_wp2_with fail
          refine (zTake_any x.key t HX6.out (by have := HLA.out; omega)).mono ?_
          rintro e W7 ⟨rfl, f7, h7⟩
          rw [← HN.out, ← HFb.out, ← HCC.out]
          have HX7 := Lib.hid h7
          clear h7 d2 d3
          go_wp2_with fail
          go_meet
          case rel => exact ⟨_, _, _, HX7.out, by have := HLA.out; have := takeS_last x.key t s; omega⟩
        · obtain ⟨W3, hW3⟩ : ∃ W3, W3 = W10.drew := ⟨_, rfl⟩
          have HX3 : Hid (PlayQ w W3 g gm f fm gc x t s s) := by show PlayQ _ _ _ _ _ _ _ _ _ _ _; rw [hW3]; exact HXD.out.old ((Only.refl _ _).drew)
          go_wp2_with fail
          refine mix_start (fun W => DeCall W gc x t) (by kernel_rfl) ?_
          rw [← hW3]
          clear hW3
          have hne : Nonempty (Held (fun W => DeCall W gc x t)) := ⟨⟨W3, HX3.out.c⟩⟩
          have hx2 : ∀ p : Held (fun W => DeCall W gc x t), p.w.cell? ⟨gc, 2, none⟩ = some (.string x.key) := fun p => p.h.c2
          refine mix_seg [0, 1, 2, 4, 5, 6] (by kernel_rfl) HX3.out.c ?_
          simp only [segOf, pickOps, pickOp]
          repeat (go_big_quiet_step (rfl))
          refine wpQuiet_nil ?_
          obtain ⟨c, hc⟩ : ∃ c, c = canP s x.key := ⟨_, rfl⟩
          have HC := Lib.hid hc
          clear hc hx2
          refine mix_run 3 (by kernel_rfl) ?_
          simp only [segOf, pickOps, pickOp]
          go_wp2_with fail
          refine (nCan_any x.key HX3.out.p.p).mono ?_
          rintro e W4 ⟨rfl, _, ho4⟩
          rw [← HC.out]
          have HX4 := Lib.hid (HX3.out.old ho4)
          clear ho4
          go_wp2_with fail
          refine MixPost.normal HX4.out.c ?_
          refine mix_run 7 (by kernel_rfl) ?_
          simp only [segOf, pickOps, pickOp]
          go_wp2_with fail
          refine (hCan_any x.key HX4.out.p.m).mono ?_
          rintro e W5 ⟨rfl, ho5⟩
          rw [← HC.out]
          have HX5 := Lib.hid (HX4.out.old ho5)
          clear ho5
          go_wp2_with fail
          refine MixPost.normal HX5.out.c ?_
          refine mix_seg [8] (by kernel_rfl) HX5.out.c ?_
          simp only [segOf, pickOps, pickOp]
          repeat (go_big_quiet_step (rfl))
          refine wpQuiet_nil ?_
          refine mix_done (by kernel_rfl) ?_
          clear hne
          obtain ⟨N, hN⟩ : ∃ N, N = takeN x.key t s := ⟨_, rfl⟩
          obtain ⟨Fb, hFb⟩ : ∃ Fb, Fb = takeF x.key t s := ⟨_, rfl⟩
          obtain ⟨C, hC⟩ : ∃ C, C = takeC x.key s := ⟨_, rfl⟩
          have HN := Lib.hid hN
          have HFb := Lib.hid hFb
          have HCC := Lib.hid hC
          clear hN hFb hC
          have d2 := HX5.out.c.c2
          have d3 := HX5.out.c.c3
          go_wp2_with fail
          refine (yTake_any x.key t HX5.out (by have := HLA.out; omega)).mono ?_
          rintro e W6 ⟨rfl, f6, h6⟩
          rw [← HN.out, ← HFb.out, ← HCC.out]
          have HX6 := Lib.hid h6
          clear h6 d2 d3
          have d2 := HX6.out.c.c2
          have d3 := HX6.out.c.c3
          go_wp2_with fail
          refine (zTake_any x.key t HX6.out (by have := HLA.out; omega)).mono ?_
          rintro e W7 ⟨rfl, f7, h7⟩
          rw [← HN.out, ← HFb.out, ← HCC.out]
          have HX7 := Lib.hid h7
          clear h7 d2 d3
          go_wp2_with fail
          go_meet
          case rel => exact ⟨_, _, _, HX7.out, by have := HLA.out; have := takeS_last x.key t s; omega⟩
        · obtain ⟨c, hc⟩ : ∃ c, c = giveC x.n s := ⟨_, rfl⟩
          have HC := Lib.hid hc
          clear hc
          obtain ⟨W3, hW3⟩ : ∃ W3, W3 = W10.drew := ⟨_, rfl⟩
          have HX3 : Hid (PlayQ w W3 g gm f fm gc x t s s) := by show PlayQ _ _ _ _ _ _ _ _ _ _ _; rw [hW3]; exact HXD.out.old ((Only.refl _ _).drew)
          go_wp2_with fail
          refine mix_start (fun W => DeCall W gc x t) (by kernel_rfl) ?_
          rw [← hW3]
          clear hW3
          have hne : Nonempty (Held (fun W => DeCall W gc x t)) := ⟨⟨W3, HX3.out.c⟩⟩
          have hx1 : ∀ p : Held (fun W => DeCall W gc x t), p.w.cell? ⟨gc, 1, none⟩ = some (.int .i64 x.n) := fun p => p.h.c1
          have hx3 : ∀ p : Held (fun W => DeCall W gc x t), p.w.cell? ⟨gc, 3, none⟩ = some (.int .u64 (t : Int)) := fun p => p.h.c3
          have hx4 : ∀ p : Held (fun W => DeCall W gc x t), p.w.cell? ⟨gc, 4, none⟩ = some (.bool x.keep) := fun p => p.h.c4
          refine mix_seg [0, 1, 2, 3, 4, 5, 6, 8, 9, 10, 11, 12, 13, 14] (by kernel_rfl) HX3.out.c ?_
          simp only [segOf, pickOps, pickOp]
          repeat (go_big_quiet_step (rfl))
          refine wpQuiet_nil ?_
          clear hx1 hx3 hx4
          refine mix_run 7 (by kernel_rfl) ?_
          simp only [segOf, pickOps, pickOp]
          go_wp2_with fail
          refine (yGive_any x.n t x.keep HX3.out (by have := HTB.out; omega)).mono ?_
          rintro e W4 ⟨rfl, f4, h4⟩
          rw [← HC.out]
          have HX4 := Lib.hid h4
          clear h4
          go_wp2_with fail
          refine MixPost.normal HX4.out.c ?_
          refine mix_run 15 (by kernel_rfl) ?_
          simp only [segOf, pickOps, pickOp]
          go_wp2_with fail
          refine (zGive_any x.n t x.keep HX4.out (by have := HTB.out; omega)).mono ?_
          rintro e W5 ⟨rfl, f5, h5⟩
          rw [← HC.out]
          have HX5 := Lib.hid h5
          clear h5
          go_wp2_with fail
          refine MixPost.normal HX5.out.c ?_
          refine mix_seg [16] (by kernel_rfl) HX5.out.c ?_
          simp only [segOf, pickOps, pickOp]
          repeat (go_big_quiet_step (rfl))
          refine wpQuiet_nil ?_
          refine mix_done (by kernel_rfl) ?_
          clear hne
          go_wp2_with fail
          go_meet
          case rel => exact ⟨_, _, _, HX5.out, by rw [giveS_last]; have := HLA.out; omega⟩
        · obtain ⟨W3, hW3⟩ : ∃ W3, W3 = W10.drew := ⟨_, rfl⟩
          have HX3 : Hid (PlayQ w W3 g gm f fm gc x t s s) := by show PlayQ _ _ _ _ _ _ _ _ _ _ _; rw [hW3]; exact HXD.out.old ((Only.refl _ _).drew)
          go_wp2_with fail
          refine mix_start (fun W => DeCall W gc x t) (by kernel_rfl) ?_
          rw [← hW3]
          clear hW3
          have hne : Nonempty (Held (fun W => DeCall W gc x t)) := ⟨⟨W3, HX3.out.c⟩⟩
          have hx3 : ∀ p : Held (fun W => DeCall W gc x t), p.w.cell? ⟨gc, 3, none⟩ = some (.int .u64 (t : Int)) := fun p => p.h.c3
          refine mix_seg [0, 1, 2, 4, 5, 6] (by kernel_rfl) HX3.out.c ?_
          simp only [segOf, pickOps, pickOp]
          repeat (go_big_quiet_step (rfl))
          refine wpQuiet_nil ?_
          clear hx3
          refine mix_run 3 (by kernel_rfl) ?_
          simp only [segOf, pickOps, pickOp]
          go_wp2_with fail
          refine (yExpire_any t HX3.out).mono ?_
          rintro e W4 ⟨r1, f4, rfl, hr4, hn4, h4⟩
          have HR4 := Lib.hid hr4
          have HN4 := Lib.hid hn4
          have HX4 := Lib.hid h4
          clear hr4 hn4 h4
          go_wp2_with fail
          refine MixPost.normal HX4.out.c ?_
          refine mix_run 7 (by kernel_rfl) ?_
          simp only [segOf, pickOps, pickOp]
          go_wp2_with fail
          refine (zExpire_any t HX4.out).mono ?_
          rintro e W5 ⟨r2, f5, rfl, hr5, ho5, h5⟩
          have HR5 := Lib.hid hr5
          have HR45 := Lib.hid (HR4.out.only ho5 HN4.out)
          have HX5 := Lib.hid h5
          clear hr5 ho5 h5
          go_wp2_with fail
          refine MixPost.normal HX5.out.c ?_
          refine mix_run 8 (by kernel_rfl) ?_
          simp only [segOf, pickOps, pickOp]
          go_wp2_with fail
          refine (Ints_any r1 r2 _ W5 HR45.out HR5.out).mono ?_
          rintro e W6 ⟨rfl, ho6⟩
          have HX6 := Lib.hid (HX5.out.old ho6)
          clear ho6
          go_wp2_with fail
          refine MixPost.normal HX6.out.c ?_
          refine mix_seg [9] (by kernel_rfl) HX6.out.c ?_
          simp only [segOf, pickOps, pickOp]
          repeat (go_big_quiet_step (rfl))
          refine wpQuiet_nil ?_
          refine mix_done (by kernel_rfl) ?_
          clear hne
          go_wp2_with fail
          go_meet
          case rel => exact ⟨_, _, _, HX6.out, by have := HLA.out; show s.last ≤ k + 1; omega⟩
      case rest =>
        obtain ⟨f, fm, s, hx, hla⟩ := hcut
        have HXA := Lib.hid hx
        have HLB := Lib.hid hla
        clear hx hla
        obtain ⟨hs, has⟩ : ∃ hs, hs = hostS s x.n := ⟨_, rfl⟩
        obtain ⟨ab, hab⟩ : ∃ ab, ab = hostB s x.n := ⟨_, rfl⟩
        obtain ⟨u1, hu1⟩ : ∃ u1, u1 = usedB s.b x.key := ⟨_, rfl⟩
        obtain ⟨u2, hu2⟩ : ∃ u2, u2 = usedB s.b a3 := ⟨_, rfl⟩
        obtain ⟨nb, hnb⟩ : ∃ nb, nb = s.b.length := ⟨_, rfl⟩
        have HAS := Lib.hid has
        have HAB := Lib.hid hab
        have HU1 := Lib.hid hu1
        have HU2 := Lib.hid hu2
        have HNB := Lib.hid hnb
        clear has hab hu1 hu2 hnb
        have d1 := HXA.out.c.c1
        go_wp2_with fail
        refine (nHost_any x.n HXA.out.p.p).mono ?_
        rintro e W11 ⟨rfl, _, ho⟩
        rw [← HAS.out, ← HAB.out]
        have HXB := Lib.hid (HXA.out.old ho)
        clear ho d1
        have d1 := HXB.out.c.c1
        go_wp2_with fail
        refine (hHost_any x.n HXB.out.p.m).mono ?_
        rintro e W12 ⟨rfl, ho⟩
        rw [← HAS.out, ← HAB.out]
        have HXC := Lib.hid (HXB.out.old ho)
        clear ho d1
        obtain ⟨Am, cm, hmc, hmc1, hmc2⟩ := HXC.out.p.m.busy
        rw [← HNB.out] at hmc hmc1
        unfold maxLen at hmc2
        obtain ⟨F, hF⟩ : ∃ F : World → Prop, ∀ W, F W ↔ (DeCall W gc x t ∧ W.cell? ⟨gm, 3, none⟩ = some (.slice Am nb cm)) := ⟨_, fun _ => Iff.rfl⟩
        have hx2 : ∀ p : Held F, p.w.cell? ⟨gc, 2, none⟩ = some (.string x.key) := fun p => ((hF _).1 p.h).1.c2
        have hxm : ∀ p : Held F, p.w.cell? ⟨gm, 3, none⟩ = some (.slice Am nb cm) := fun p => ((hF _).1 p.h).2
        have HFO : Hid (∀ W, Only [] W12 W → F W) := by
          show ∀ W, _
          intro W ho
          exact (hF _).2 ⟨(HXC.out.old ho).c, (ho.cell (p := ⟨gm, 3, none⟩) (HXC.out.p.m.lt HXC.out.p.m.self) (by simp)).trans hmc⟩
        clear hF hmc
        obtain ⟨W3, hW3⟩ : ∃ W3, W3 = W12.drew := ⟨_, rfl⟩
        have HO3 : Hid (Only [] W12 W3) := by show Only _ _ _; rw [hW3]; exact (Only.refl _ _).drew
        have HX3 := Lib.hid (HXC.out.old HO3.out)
        go_wp2_with fail
        refine mix_start F (by kernel_rfl) ?_
        rw [← hW3]
        clear hW3
        refine mix_seg [0, 1, 2, 3, 4, 5, 6, 7, 8, 9, 11, 12, 13, 14, 15] (by kernel_rfl) (HFO.out _ HO3.out) ?_
        simp only [segOf, pickOps, pickOp]
        repeat (go_big_quiet_step (rfl))
        refine wpQuiet_nil ?_
        refine mix_run 10 (by kernel_rfl) ?_
        simp only [segOf, pickOps, pickOp]
        go_wp2_with fail
        refine (nBusy_any HX3.out.p.p).mono ?_
        rintro e W4 ⟨rfl, rfl⟩
        rw [← HNB.out]
        go_wp2_with fail
        refine MixPost.normal (HFO.out _ HO3.out) ?_
        refine mix_seg [16, 17, 18, 19, 20, 21, 23, 24, 25] (by kernel_rfl) (HFO.out _ HO3.out) ?_
        simp only [segOf, pickOps, pickOp]
        repeat (go_big_quiet_step (rfl))
        refine wpQuiet_nil ?_
        clear hx2 hxm
        refine mix_run 22 (by kernel_rfl) ?_
        simp only [segOf, pickOps, pickOp]
        go_wp2_with fail
        refine (nUsed_any x.key HX3.out.p.p).mono ?_
        rintro e W4 ⟨rfl, _, ho⟩
        rw [← HU1.out]
        have HO4 := Lib.hid (HO3.out.trans ho)
        have HX4 := Lib.hid (HX3.out.old ho)
        clear ho
        go_wp2_with fail
        refine MixPost.normal (HFO.out _ HO4.out) ?_
        refine mix_run 26 (by kernel_rfl) ?_
        simp only [segOf, pickOps, pickOp]
        go_wp2_with fail
        refine (hUsed2_any x.key HX4.out.p.m).mono ?_
        rintro e W5 ⟨rfl, rfl⟩
        rw [← HU1.out]
        go_wp2_with fail
        refine MixPost.normal (HFO.out _ HO4.out) ?_
        refine mix_seg [27, 28, 29, 30, 31, 33, 34] (by kernel_rfl) (HFO.out _ HO4.out) ?_
        simp only [segOf, pickOps, pickOp]
        repeat (go_big_quiet_step (rfl))
        refine wpQuiet_nil ?_
        refine mix_run 32 (by kernel_rfl) ?_
        simp only [segOf, pickOps, pickOp]
        go_wp2_with fail
        refine (nUsed_any a3 HX4.out.p.p).mono ?_
        rintro e W5 ⟨rfl, _, ho⟩
        rw [← HU2.out]
        have HO5 := Lib.hid (HO4.out.trans ho)
        have HX5 := Lib.hid (HX4.out.old ho)
        clear ho
        go_wp2_with fail
        refine MixPost.normal (HFO.out _ HO5.out) ?_
        refine mix_run 35 (by kernel_rfl) ?_
        simp only [segOf, pickOps, pickOp]
        go_wp2_with fail
        refine (hUsed2_any a3 HX5.out.p.m).mono ?_
        rintro e W6 ⟨rfl, rfl⟩
        rw [← HU2.out]
        go_wp2_with fail
        refine MixPost.normal (HFO.out _ HO5.out) ?_
        refine mix_seg [36, 37, 38, 39, 41] (by kernel_rfl) (HFO.out _ HO5.out) ?_
        simp only [segOf, pickOps, pickOp]
        repeat (go_big_quiet_step (rfl))
        refine wpQuiet_nil ?_
        refine mix_run 40 (by kernel_rfl) ?_
        simp only [segOf, pickOps, pickOp]
        go_wp2_with fail
        refine (nIdle_any HX5.out.p.p).mono ?_
        rintro e W6 ⟨r1, rfl, hr1, _, _, ho⟩
        have HR1 := Lib.hid hr1
        have HO6 := Lib.hid (HO5.out.trans ho)
        have HX6 := Lib.hid (HX5.out.old ho)
        clear ho hr1
        go_wp2_with fail
        refine MixPost.normal (HFO.out _ HO6.out) ?_
        refine mix_run 42 (by kernel_rfl) ?_
        simp only [segOf, pickOps, pickOp]
        go_wp2_with fail
        refine (hIdle_any HX6.out.p.m).mono ?_
        rintro e W7 ⟨r2, rfl, hr2, _, ho⟩
        have HR2 := Lib.hid hr2
        have HR12 := Lib.hid (HR1.out.old ho)
        have HO7 := Lib.hid (HO6.out.trans ho)
        have HX7 := Lib.hid (HX6.out.old ho)
        clear ho hr2
        go_wp2_with fail
        refine MixPost.normal (HFO.out _ HO7.out) ?_
        refine mix_run 43 (by kernel_rfl) ?_
        simp only [segOf, pickOps, pickOp]
        go_wp2_with fail
        refine (Ints_any r1 r2 _ W7 HR12.out HR2.out).mono ?_
        rintro e W8 ⟨rfl, ho⟩
        have HO8 := Lib.hid (HO7.out.trans ho)
        have HX8 := Lib.hid (HX7.out.old ho)
        clear ho
        go_wp2_with fail
        refine MixPost.normal (HFO.out _ HO8.out) ?_
        refine mix_seg [44, 45] (by kernel_rfl) (HFO.out _ HO8.out) ?_
        simp only [segOf, pickOps, pickOp]
        repeat (go_big_quiet_step (rfl))
        refine wpQuiet_nil ?_
        refine mix_done (by kernel_rfl) ?_
        go_wp2
        go_roundw
        case rel => exact ⟨k + 1, f, fm, s, by omega, by go_num, HX8.out.p, HLB.out⟩
        case measure => simp [intOf]; omega
    · obtain rfl : k = x2.length := by omega
      go_wp2_with fail
      refine (awake13_any _).mono ?_
      rintro e w' ⟨rfl, hb⟩
      have HE := Lib.hid (HX.out.p.b.trans (hb.mono HX.out.p.b.size))
      clear hb
      go_wp2
      go_ret
      exact ⟨rfl, HE.out⟩
end Go.Proofs.Ytbnmldfiheffoaa
