/-
  The walk of the law TimerPlays: whatever is armed, cancelled, due, it returns true, and nothing that was there has turned. Conditions: the calls lie where the slice says.
-/
import Derived.Test.YtbpdemgbljbhcaaWRef4
import Derived.Test.YtbpdemgbljbhcaaWDeed
namespace Go.Proofs.Ytbpdemgbljbhcaa
open Go.RowKit

theorem clamp_bd (n : Int) : 1 ≤ clampM n ∧ clampM n ≤ 256 := by unfold clampM; split <;> (try split) <;> omega
theorem RAt.beside {w w' : World} {gx gy : Nat} {vx vy : Value} {most last : Int} {s : List Al} (h : RAt w gy most last vy s) (ha : Apart gx gy vx vy) (o : Only (gx :: ownL vx) w w') : RAt w' gy most last vy s := h.only o ha.off.1 ha.off.2
theorem Wh.aside {w w' : World} {gx gy : Nat} {vx vy : Value} {most next : Int} {s : List Al} (h : Wh w gx most next vx s) (ha : Apart gx gy vx vy) (o : Only (gy :: ownL vy) w w') : Wh w' gx most next vx s := h.beside ha.symm o
theorem RAt.foot {w : World} {B gr : Nat} {v : Value} {most last : Int} {s : List Al} (h : RAt w gr most last v s) (hB : B ≤ gr) : ∀ x ∈ gr :: ownL v, B ≤ x := by
  intro x hx
  rcases List.mem_cons.1 hx with h1 | h1
  · omega
  · have := (h.own h1).1; omega
theorem DArg.at_ {w : World} {a : Option Addr} {c : Nat} {xs : List Dd} (h : DArg w a c xs) {j : Nat} (hj : j < xs.length) :
    ∃ ad, a = some ad ∧ ad.block < w.heap.size ∧ w.cell? (ad.add (j * 3)) = some (.int .i64 xs[j].1) ∧ w.cell? ⟨(ad.add (j * 3)).block, (ad.add (j * 3)).off + 1, none⟩ = some (.int .i64 xs[j].2.1) ∧ w.cell? ⟨(ad.add (j * 3)).block, (ad.add (j * 3)).off + 2, none⟩ = some (.int .u64 xs[j].2.2) :=
  h.1 j xs[j] (List.getElem?_eq_getElem hj)
/-- the cells of a call that was read -/
def CallAt (w : World) (g : Nat) (o t a : Int) : Prop := w.cell? ⟨g, 0, none⟩ = some (.int .i64 o) ∧ w.cell? ⟨g, 1, none⟩ = some (.int .i64 t) ∧ w.cell? ⟨g, 2, none⟩ = some (.int .u64 a)
theorem CallAt.only {f : List Nat} {w w' : World} {g : Nat} {o t a : Int} (h : CallAt w g o t a) (k : Only f w w') (hg : g < w.heap.size) (hn : g ∉ f) : CallAt w' g o t a :=
  ⟨(k.cell (p := ⟨g, 0, none⟩) hg hn).trans h.1, (k.cell (p := ⟨g, 1, none⟩) hg hn).trans h.2.1, (k.cell (p := ⟨g, 2, none⟩) hg hn).trans h.2.2⟩

set_option maxRecDepth 20000 in
set_option maxHeartbeats 8000000 in
theorem walk_TimerPlays (a0 : Int) (a1 : Option Addr) (c1 : Nat) (x1 : List Dd) (w : World) (_h0 : (Lit.int .i64 a0).wf = true) (h1 : DArg w a1 c1 x1) :
    Calls Try.prog 3 #[.int .i64 a0, .slice a1 x1.length c1] w fun e w' => e = .returned (.bool true) ∧ Below w.heap.size w w' := by
  clear _h0
  have H1 := Lib.hid h1
  have hl1 := h1.2.2.1
  have hm1 := h1.2.2.2
  unfold maxLen at hm1
  clear h1
  by_cases hb1 : 200 < x1.length
  · go_enter Try.func3, Try.ntmps3
    go_wp2_with fail
    refine (awake9_any _).mono ?_
    rintro e w' ⟨rfl, hb⟩
    go_wp2
    go_ret
    exact ⟨rfl, hb⟩
  obtain ⟨M, hM⟩ : ∃ M, M = clampM a0 := ⟨_, rfl⟩
  have HMB : Hid (1 ≤ M ∧ M ≤ 256) := by show _ ∧ _; rw [hM]; exact clamp_bd a0
  have HM := Lib.hid hM
  clear hM
  go_enter Try.func3, Try.ntmps3
  go_wp2_with fail
  refine (wheelNew_wh a0 w).mono ?_
  rintro e w1 ⟨rfl, hw1, ho1, hs1⟩
  rw [← HM.out] at hw1
  have HX1 : Hid (Wh w1 w.heap.size M 1 (.slice none 0 0) []) := hw1
  have HB1 : Hid (Below w.heap.size w w1) := ho1.to_below (by simp)
  obtain ⟨gr, hgr⟩ : ∃ gr, gr = w1.heap.size := ⟨_, rfl⟩
  have HGR : Hid (gr = w.heap.size + 1) := hgr.trans hs1
  have HG := Lib.hid hgr
  clear hw1 ho1 hs1 hgr
  go_wp2_with fail
  refine (rNew_any a0 w1).mono ?_
  rintro e w2 ⟨rfl, hw2, ho2, _⟩
  rw [← HG.out]
  rw [← HG.out, ← HM.out] at hw2
  have HR2 : Hid (RAt w2 gr M 0 (.slice none 0 0) []) := hw2
  have HX2 := Lib.hid (HX1.out.old ho2)
  have HB2 : Hid (Below w.heap.size w w2) := Only.above HB1.out ho2 (Nat.le_refl _) (by simp)
  have HNE : Hid (gr ≠ w.heap.size ∧ w.heap.size < gr) := ⟨by have := HGR.out; omega, by have := HGR.out; omega⟩
  clear hw2 ho2 HG HGR HM
  go_wp2_with fail
  go_loopw [7] (fun i wr => ∃ (k : Nat) (v vr : Value) (s : List Al) (last : Int), k ≤ x1.length ∧ i = .int .i64 k ∧ s.length ≤ k ∧ 0 ≤ last ∧ last ≤ k ∧ Wh wr w.heap.size M (last + 1) v s ∧ RAt wr gr M last vr s ∧ Apart w.heap.size gr v vr ∧ Below w.heap.size w wr) (fun i _ => x1.length - (intOf i).toNat)
  case atStart => exact ⟨0, _, _, [], 0, by omega, rfl, by simp, by omega, by omega, HX2.out, HR2.out, ⟨HNE.out.1.symm, by simp [ownL, Value.ownBlock], by simp [ownL, Value.ownBlock]⟩, HB2.out⟩
  case round =>
    obtain ⟨k, v, vr, s, last, hk, rfl, hsl, hn0, hn1, hx, hr, ha, hb⟩ := hrel
    have HSL := Lib.hid hsl
    have HX := Lib.hid hx
    have HR := Lib.hid hr
    have HA := Lib.hid ha
    have HB := Lib.hid hb
    clear hsl hx hr ha hb
    by_cases hlt : k < x1.length
    · obtain ⟨ad, e1, hB, hc0, hc1, hc2⟩ := H1.out.at_ hlt
      have hf0 := (below_add HB.out hB).trans hc0
      have hf1 : wr.cell? ⟨(ad.add (k * 3)).block, (ad.add (k * 3)).off + 1, none⟩ = _ := (HB.out.cell (p := ⟨(ad.add (k * 3)).block, (ad.add (k * 3)).off + 1, none⟩) (by rw [block_add]; exact hB)).trans hc1
      have hf2 : wr.cell? ⟨(ad.add (k * 3)).block, (ad.add (k * 3)).off + 2, none⟩ = _ := (HB.out.cell (p := ⟨(ad.add (k * 3)).block, (ad.add (k * 3)).off + 2, none⟩) (by rw [block_add]; exact hB)).trans hc2
      obtain ⟨x, hx⟩ : ∃ x, x = x1[k] := ⟨_, rfl⟩
      rw [← hx] at hf0 hf1 hf2
      obtain ⟨xo, xt, xa⟩ := x
      simp only at hf0 hf1 hf2
      clear hc0 hc1 hc2 hx hB
      subst e1
      obtain ⟨W0, hW0⟩ : ∃ W0, W0 = wr.alloc (.cells #[.int .i64 xo, .int .i64 xt, .int .u64 xa] 30) := ⟨_, rfl⟩
      obtain ⟨gd, hgd⟩ : ∃ gd, gd = wr.heap.size := ⟨_, rfl⟩
      have HO0 : Hid (Only [] wr W0) := by show Only _ _ _; rw [hW0]; exact (Only.refl _ _).alloc _
      have HC0 : Hid (CallAt W0 gd xo xt xa) := by show CallAt _ _ _ _ _; rw [hW0, hgd]; exact ⟨by simp, by simp, by simp⟩
      have HS0 : Hid (gd < W0.heap.size) := by show _ < _; rw [hW0, hgd]; simp
      have HGD := Lib.hid hgd
      have HX0 := Lib.hid (HX.out.old HO0.out)
      have HR0 := Lib.hid (HR.out.old HO0.out)
      have HB0 : Hid (Below w.heap.size w W0) := Only.above HB.out HO0.out (Nat.le_refl _) (by simp)
      have HOFF : Hid (gd ∉ w.heap.size :: ownL v ∧ gd ∉ gr :: ownL vr) := by
        constructor
        · intro hm
          rcases List.mem_cons.1 hm with h | h
          · have := HX.out.lt; have := HGD.out; omega
          · have := (HX.out.own h).2; have := HGD.out; omega
        · intro hm
          rcases List.mem_cons.1 hm with h | h
          · have := HR.out.head.lt; have := HGD.out; omega
          · have := (HR.out.own h).2; have := HGD.out; omega
      obtain ⟨q, hq⟩ : ∃ q : Nat, lowV xo 4 = (q : Int) := ⟨(lowV xo 4).toNat, by have := lowV_bd xo (n := 4) (by omega); omega⟩
      have hq4 : q < 4 := by have := lowV_bd xo (n := 4) (by omega); omega
      have HQ := Lib.hid hq
      have d0 := HC0.out.1
      clear hq hgd
      go_wp2_with fail
      rw [← hW0, ← HGD.out]
      clear hW0 hf0 hf1 hf2
      go_wp2_with fail
      refine (Low_any xo 4 W0 (by omega) (by omega)).mono ?_
      rintro e w' ⟨rfl, rfl⟩
      rw [HQ.out]
      clear d0 HQ
      have d1 := HC0.out.2.1
      have d2 := HC0.out.2.2
      match q, hq4 with
      | 0, _ =>
        go_wp2_with fail
        have HFR : M ≤ (s.length : Int) ∨ (s.length : Int) < M := by omega
        rcases HFR with hfull | hroom
        · refine (wheelArm_full w.heap.size M (last + 1) v s xa xt W0 HX0.out hfull).mono ?_
          rintro e w3 ⟨rfl, hx3, ho3⟩
          have HX3 := Lib.hid hx3
          have HR3 := Lib.hid (HR0.out.old ho3)
          have HB3 : Hid (Below w.heap.size w w3) := Only.above HB0.out ho3 (Nat.le_refl _) (by simp)
          have HC3 := Lib.hid (HC0.out.only ho3 HS0.out (by simp))
          have d1 := HC3.out.2.1
          have d2 := HC3.out.2.2
          clear hx3 ho3
          go_wp2_with fail
          refine (rArm_full gr M last vr s xa xt w3 HR3.out hfull).mono ?_
          rintro e w4 ⟨rfl, hr4, ho4⟩
          clear d1 d2
          have hst : ∃ (v9 vr9 : Value) (s9 : List Al) (last9 : Int), s9.length ≤ k + 1 ∧ 0 ≤ last9 ∧ last9 ≤ k + 1 ∧ Wh w4 w.heap.size M (last9 + 1) v9 s9 ∧ RAt w4 gr M last9 vr9 s9 ∧ Apart w.heap.size gr v9 vr9 ∧ Below w.heap.size w w4 := ⟨v, vr, s, last, by have := HSL.out; omega, hn0, by omega, HX3.out.old ho4, hr4, HA.out, Only.above HB3.out ho4 (Nat.le_refl _) (by simp)⟩
          obtain ⟨v9, vr9, s9, last9, hl9, hn90, hn91, hx9, hr9, ha9, hb9⟩ := hst
          clear hr4 ho4
          obtain ⟨A9, cap9, e9, _, hm9⟩ := hr9.row.slice
          subst e9
          have HX9 := Lib.hid hx9
          have HR9 := Lib.hid hr9
          have HA9 := Lib.hid ha9
          have HB9 := Lib.hid hb9
          have HL9 := Lib.hid hl9
          have hd9 : w4.cell? ⟨gr, 2, none⟩ = some (.slice A9 s9.length cap9) := hr9.head.c2
          have HD9 := Lib.hid hd9
          unfold maxLen at hm9
          clear hx9 hr9 ha9 hb9 hl9
          go_wp2_with fail
          refine mix_start (fun W => W.cell? ⟨gr, 2, none⟩ = some (.slice A9 s9.length cap9)) (by kernel_rfl) ?_
          have hne : Nonempty (Held (fun W => W.cell? ⟨gr, 2, none⟩ = some (.slice A9 s9.length cap9))) := ⟨⟨w4, hd9⟩⟩
          have hx0 : ∀ p : Held (fun W => W.cell? ⟨gr, 2, none⟩ = some (.slice A9 s9.length cap9)), p.w.cell? ⟨gr, 2, none⟩ = some (.slice A9 s9.length cap9) := fun p => p.h
          refine mix_seg [0, 2, 3, 4, 5, 6] (by kernel_rfl) hd9 ?_
          simp only [segOf, pickOps, pickOp]
          repeat (go_big_quiet_step (fail))
          refine wpQuiet_nil ?_
          clear hx0
          refine mix_run 1 (by kernel_rfl) ?_
          simp only [segOf, pickOps, pickOp]
          go_wp2_with fail
          refine (wheelLen_any w.heap.size M (last9 + 1) v9 s9 w4.drew ?_).mono ?_
          · exact HX9.out.old ((Only.refl _ _).drew)
          rintro e w' ⟨rfl, rfl⟩
          go_wp2_with fail
          refine MixPost.normal HD9.out ?_
          refine mix_seg [7] (by kernel_rfl) HD9.out ?_
          simp only [segOf, pickOps, pickOp]
          repeat (go_big_quiet_step (fail))
          refine wpQuiet_nil ?_
          refine mix_done (by kernel_rfl) ?_
          clear hne hd9
          go_wp2_with fail
          go_roundw
          case rel => exact ⟨k + 1, v9, _, s9, last9, by omega, by go_num, HL9.out, hn90, by omega, HX9.out.old ((Only.refl _ _).drew), HR9.out.old ((Only.refl _ _).drew), HA9.out, HB9.out.drew⟩
          case measure => simp [intOf]; omega
        · refine (wheelArm_room w.heap.size M (last + 1) v s xa xt W0 HX0.out hroom HMB.out.2 (by omega) (by omega)).mono ?_
          rintro e w3 ⟨rfl, v3, hx3, ho3, hg3⟩
          have HX3 := Lib.hid hx3
          have HR3 := Lib.hid (HR0.out.beside HA.out ho3)
          have HA3 := Lib.hid (HA.out.grow hg3 HR0.out.head.lt (fun g hg => (HR0.out.own hg).2))
          have HB3 : Hid (Below w.heap.size w w3) := Only.above HB0.out ho3 (Nat.le_refl _) (HX0.out.up (Nat.le_refl _)).foot
          have HC3 := Lib.hid (HC0.out.only ho3 HS0.out HOFF.out.1)
          have d1 := HC3.out.2.1
          have d2 := HC3.out.2.2
          clear hx3 ho3 hg3
          go_wp2_with fail
          refine (rArm_room gr M last vr s xa xt w3 HR3.out hroom HMB.out.2 hn0 (by omega)).mono ?_
          rintro e w4 ⟨rfl, vr4, hr4, ho4, hg4⟩
          clear d1 d2
          have hst : ∃ (v9 vr9 : Value) (s9 : List Al) (last9 : Int), s9.length ≤ k + 1 ∧ 0 ≤ last9 ∧ last9 ≤ k + 1 ∧ Wh w4 w.heap.size M (last9 + 1) v9 s9 ∧ RAt w4 gr M last9 vr9 s9 ∧ Apart w.heap.size gr v9 vr9 ∧ Below w.heap.size w w4 := ⟨v3, vr4, _, last + 1, by rw [List.length_append]; have := HSL.out; simp; omega, by omega, by omega, HX3.out.aside HA3.out ho4, hr4, (HA3.out.symm.grow hg4 HX3.out.lt (fun g hg => (HX3.out.own hg).2)).symm, Only.above HB3.out ho4 (Nat.le_refl _) (HR3.out.foot (Nat.le_of_lt HNE.out.2))⟩
          obtain ⟨v9, vr9, s9, last9, hl9, hn90, hn91, hx9, hr9, ha9, hb9⟩ := hst
          clear hr4 ho4 hg4
          obtain ⟨A9, cap9, e9, _, hm9⟩ := hr9.row.slice
          subst e9
          have HX9 := Lib.hid hx9
          have HR9 := Lib.hid hr9
          have HA9 := Lib.hid ha9
          have HB9 := Lib.hid hb9
          have HL9 := Lib.hid hl9
          have hd9 : w4.cell? ⟨gr, 2, none⟩ = some (.slice A9 s9.length cap9) := hr9.head.c2
          have HD9 := Lib.hid hd9
          unfold maxLen at hm9
          clear hx9 hr9 ha9 hb9 hl9
          go_wp2_with fail
          refine mix_start (fun W => W.cell? ⟨gr, 2, none⟩ = some (.slice A9 s9.length cap9)) (by kernel_rfl) ?_
          have hne : Nonempty (Held (fun W => W.cell? ⟨gr, 2, none⟩ = some (.slice A9 s9.length cap9))) := ⟨⟨w4, hd9⟩⟩
          have hx0 : ∀ p : Held (fun W => W.cell? ⟨gr, 2, none⟩ = some (.slice A9 s9.length cap9)), p.w.cell? ⟨gr, 2, none⟩ = some (.slice A9 s9.length cap9) := fun p => p.h
          refine mix_seg [0, 2, 3, 4, 5, 6] (by kernel_rfl) hd9 ?_
          simp only [segOf, pickOps, pickOp]
          repeat (go_big_quiet_step (fail))
          refine wpQuiet_nil ?_
          clear hx0
          refine mix_run 1 (by kernel_rfl) ?_
          simp only [segOf, pickOps, pickOp]
          go_wp2_with fail
          refine (wheelLen_any w.heap.size M (last9 + 1) v9 s9 w4.drew ?_).mono ?_
          · exact HX9.out.old ((Only.refl _ _).drew)
          rintro e w' ⟨rfl, rfl⟩
          go_wp2_with fail
          refine MixPost.normal HD9.out ?_
          refine mix_seg [7] (by kernel_rfl) HD9.out ?_
          simp only [segOf, pickOps, pickOp]
          repeat (go_big_quiet_step (fail))
          refine wpQuiet_nil ?_
          refine mix_done (by kernel_rfl) ?_
          clear hne hd9
          go_wp2_with fail
          go_roundw
          case rel => exact ⟨k + 1, v9, _, s9, last9, by omega, by go_num, HL9.out, hn90, by omega, HX9.out.old ((Only.refl _ _).drew), HR9.out.old ((Only.refl _ _).drew), HA9.out, HB9.out.drew⟩
          case measure => simp [intOf]; omega
      | 1, _ =>
        obtain ⟨bv, hbv⟩ : ∃ bv, bv = s.any (fun a => decide (a.2.1 = xt)) := ⟨_, rfl⟩
        have HBV := Lib.hid hbv
        clear hbv d2
        go_wp2_with fail
        refine mix_start (fun W => W.cell? ⟨gd, 1, none⟩ = some (.int .i64 xt)) (by kernel_rfl) ?_
        have hne : Nonempty (Held (fun W => W.cell? ⟨gd, 1, none⟩ = some (.int .i64 xt))) := ⟨⟨W0, d1⟩⟩
        have hx0 : ∀ p : Held (fun W => W.cell? ⟨gd, 1, none⟩ = some (.int .i64 xt)), p.w.cell? ⟨gd, 1, none⟩ = some (.int .i64 xt) := fun p => p.h
        have HD1 := Lib.hid d1
        clear d1
        refine mix_seg [0, 1, 2, 4, 5, 6] (by kernel_rfl) HD1.out ?_
        simp only [segOf, pickOps, pickOp]
        repeat (go_big_quiet_step (fail))
        refine wpQuiet_nil ?_
        clear hx0
        refine mix_run 3 (by kernel_rfl) ?_
        simp only [segOf, pickOps, pickOp]
        go_wp2_with fail
        refine (wheelCancel_any w.heap.size M (last + 1) v s xt W0.drew (HX0.out.old ((Only.refl _ _).drew)) (by have := HSL.out; omega)).mono ?_
        rintro e w3 ⟨rfl, v3, hx3, ho3', hg3⟩
        have ho3 : Only (w.heap.size :: ownL v) W0 w3 := (Only.refl _ _).drew.trans ho3'
        rw [← HBV.out]
        have HX3 := Lib.hid hx3
        have HR3 := Lib.hid (HR0.out.beside HA.out ho3)
        have HA3 := Lib.hid (HA.out.grow (B := W0.heap.size) (fun g hg => .inl (hg3 g hg)) HR0.out.head.lt (fun g hg => (HR0.out.own hg).2))
        have HB3 : Hid (Below w.heap.size w w3) := Only.above HB0.out ho3 (Nat.le_refl _) (HX0.out.up (Nat.le_refl _)).foot
        have HC3 := Lib.hid (HC0.out.only ho3 HS0.out HOFF.out.1)
        have HZ3 : Hid (W0.heap.size ≤ w3.heap.size) := ho3.size
        clear hx3 ho3 ho3' hg3
        go_wp2_with fail
        refine MixPost.normal HC3.out.2.1 ?_
        refine mix_run 7 (by kernel_rfl) ?_
        simp only [segOf, pickOps, pickOp]
        go_wp2_with fail
        refine (rCancel_any gr M last (last + 1) vr s xt w3 HR3.out HX0.out.ids (by have := HSL.out; omega)).mono ?_
        rintro e w4 ⟨rfl, vr4, hr4, ho4', hg4⟩
        rw [← HBV.out]
        have HC4 := Lib.hid (HC3.out.only ho4' (by have h1 := HS0.out; have h2 := HZ3.out; omega) (fun hm => HOFF.out.2 (by rw [List.mem_singleton.1 hm]; exact List.mem_cons_self)))
        have ho4 : Only (gr :: ownL vr) w3 w4 := ho4'.mono (by simp)
        go_wp2_with fail
        refine MixPost.normal HC4.out.2.1 ?_
        refine mix_seg [8] (by kernel_rfl) HC4.out.2.1 ?_
        simp only [segOf, pickOps, pickOp]
        repeat (go_big_quiet_step (fail))
        refine wpQuiet_nil ?_
        refine mix_done (by kernel_rfl) ?_
        clear hne ho4'
        have hst : ∃ (v9 vr9 : Value) (s9 : List Al) (last9 : Int), s9.length ≤ k + 1 ∧ 0 ≤ last9 ∧ last9 ≤ k + 1 ∧ Wh w4 w.heap.size M (last9 + 1) v9 s9 ∧ RAt w4 gr M last9 vr9 s9 ∧ Apart w.heap.size gr v9 vr9 ∧ Below w.heap.size w w4 := ⟨v3, vr4, _, last, by have h1 := List.length_filter_le (fun a : Al => !decide (a.2.1 = xt)) s; have h2 := HSL.out; unfold Proofs.Ytbpdemgbljbhcaa.without; omega, hn0, by omega, HX3.out.aside HA3.out ho4, hr4, (HA3.out.symm.grow hg4 HX3.out.lt (fun g hg => (HX3.out.own hg).2)).symm, Only.above HB3.out ho4 (Nat.le_refl _) (HR3.out.foot (Nat.le_of_lt HNE.out.2))⟩
        obtain ⟨v9, vr9, s9, last9, hl9, hn90, hn91, hx9, hr9, ha9, hb9⟩ := hst
        clear hr4 ho4 hg4
        obtain ⟨A9, cap9, e9, _, hm9⟩ := hr9.row.slice
        subst e9
        have HX9 := Lib.hid hx9
        have HR9 := Lib.hid hr9
        have HA9 := Lib.hid ha9
        have HB9 := Lib.hid hb9
        have HL9 := Lib.hid hl9
        have hd9 : w4.cell? ⟨gr, 2, none⟩ = some (.slice A9 s9.length cap9) := hr9.head.c2
        have HD9 := Lib.hid hd9
        unfold maxLen at hm9
        clear hx9 hr9 ha9 hb9 hl9
        go_wp2_with fail
        refine mix_start (fun W => W.cell? ⟨gr, 2, none⟩ = some (.slice A9 s9.length cap9)) (by kernel_rfl) ?_
        have hne : Nonempty (Held (fun W => W.cell? ⟨gr, 2, none⟩ = some (.slice A9 s9.length cap9))) := ⟨⟨w4, hd9⟩⟩
        have hx0 : ∀ p : Held (fun W => W.cell? ⟨gr, 2, none⟩ = some (.slice A9 s9.length cap9)), p.w.cell? ⟨gr, 2, none⟩ = some (.slice A9 s9.length cap9) := fun p => p.h
        refine mix_seg [0, 2, 3, 4, 5, 6] (by kernel_rfl) hd9 ?_
        simp only [segOf, pickOps, pickOp]
        repeat (go_big_quiet_step (fail))
        refine wpQuiet_nil ?_
        clear hx0
        refine mix_run 1 (by kernel_rfl) ?_
        simp only [segOf, pickOps, pickOp]
        go_wp2_with fail
        refine (wheelLen_any w.heap.size M (last9 + 1) v9 s9 w4.drew ?_).mono ?_
        · exact HX9.out.old ((Only.refl _ _).drew)
        rintro e w' ⟨rfl, rfl⟩
        go_wp2_with fail
        refine MixPost.normal HD9.out ?_
        refine mix_seg [7] (by kernel_rfl) HD9.out ?_
        simp only [segOf, pickOps, pickOp]
        repeat (go_big_quiet_step (fail))
        refine wpQuiet_nil ?_
        refine mix_done (by kernel_rfl) ?_
        clear hne hd9
        go_wp2_with fail
        go_roundw
        case rel => exact ⟨k + 1, v9, _, s9, last9, by omega, by go_num, HL9.out, hn90, by omega, HX9.out.old ((Only.refl _ _).drew), HR9.out.old ((Only.refl _ _).drew), HA9.out, HB9.out.drew⟩
        case measure => simp [intOf]; omega
      | 2, _ =>
        go_wp2_with fail
        by_cases hex : ∃ b ∈ s, b.1 ≤ xa
        · obtain ⟨b, hbm, hbn⟩ := hex
          obtain ⟨m, hm⟩ := Fore.ex (s := s) (List.ne_nil_of_mem hbm)
          have hmn := hm.early hbm hbn
          have HM := Lib.hid hm
          have HMN := Lib.hid hmn
          clear hbm hbn hm hmn
          refine (wheelDue_some w.heap.size M (last + 1) v s m xa W0 HX0.out HM.out HMN.out (by have := HSL.out; omega)).mono ?_
          rintro e w3 ⟨rfl, v3, hx3, ho3, hg3⟩
          obtain ⟨m1, m2, m3⟩ := m
          have HX3 := Lib.hid hx3
          have HR3 := Lib.hid (HR0.out.beside HA.out ho3)
          have HA3 := Lib.hid (HA.out.grow (B := W0.heap.size) (fun g hg => .inl (hg3 g hg)) HR0.out.head.lt (fun g hg => (HR0.out.own hg).2))
          have HB3 : Hid (Below w.heap.size w w3) := Only.above HB0.out ho3 (Nat.le_refl _) (HX0.out.up (Nat.le_refl _)).foot
          have HC3 := Lib.hid (HC0.out.only ho3 HS0.out HOFF.out.1)
          have d2 := HC3.out.2.2
          clear hx3 ho3 hg3
          go_wp2_with fail
          refine (rDue_some gr M last (last + 1) vr s (m1, m2, m3) xa w3 HR3.out HX0.out.ids HM.out HMN.out (by have := HSL.out; omega)).mono ?_
          rintro e w4 ⟨rfl, vr4, hr4, ho4', hg4⟩
          have ho4 : Only (gr :: ownL vr) w3 w4 := ho4'.mono (by simp)
          clear d1 d2 ho4'
          have hst : ∃ (v9 vr9 : Value) (s9 : List Al) (last9 : Int), s9.length ≤ k + 1 ∧ 0 ≤ last9 ∧ last9 ≤ k + 1 ∧ Wh w4 w.heap.size M (last9 + 1) v9 s9 ∧ RAt w4 gr M last9 vr9 s9 ∧ Apart w.heap.size gr v9 vr9 ∧ Below w.heap.size w w4 := ⟨v3, vr4, _, last, by have h1 := List.length_filter_le (fun a : Al => !decide (a.2.1 = m2)) s; have h2 := HSL.out; show (without m2 s).length ≤ _; unfold Proofs.Ytbpdemgbljbhcaa.without; omega, hn0, by omega, HX3.out.aside HA3.out ho4, hr4, (HA3.out.symm.grow hg4 HX3.out.lt (fun g hg => (HX3.out.own hg).2)).symm, Only.above HB3.out ho4 (Nat.le_refl _) (HR3.out.foot (Nat.le_of_lt HNE.out.2))⟩
          obtain ⟨v9, vr9, s9, last9, hl9, hn90, hn91, hx9, hr9, ha9, hb9⟩ := hst
          clear hr4 ho4 hg4
          obtain ⟨A9, cap9, e9, _, hm9⟩ := hr9.row.slice
          subst e9
          have HX9 := Lib.hid hx9
          have HR9 := Lib.hid hr9
          have HA9 := Lib.hid ha9
          have HB9 := Lib.hid hb9
          have HL9 := Lib.hid hl9
          have hd9 : w4.cell? ⟨gr, 2, none⟩ = some (.slice A9 s9.length cap9) := hr9.head.c2
          have HD9 := Lib.hid hd9
          unfold maxLen at hm9
          clear hx9 hr9 ha9 hb9 hl9
          go_wp2_with fail
          refine mix_start (fun W => W.cell? ⟨gr, 2, none⟩ = some (.slice A9 s9.length cap9)) (by kernel_rfl) ?_
          have hne : Nonempty (Held (fun W => W.cell? ⟨gr, 2, none⟩ = some (.slice A9 s9.length cap9))) := ⟨⟨w4, hd9⟩⟩
          have hx0 : ∀ p : Held (fun W => W.cell? ⟨gr, 2, none⟩ = some (.slice A9 s9.length cap9)), p.w.cell? ⟨gr, 2, none⟩ = some (.slice A9 s9.length cap9) := fun p => p.h
          refine mix_seg [0, 2, 3, 4, 5, 6] (by kernel_rfl) hd9 ?_
          simp only [segOf, pickOps, pickOp]
          repeat (go_big_quiet_step (fail))
          refine wpQuiet_nil ?_
          clear hx0
          refine mix_run 1 (by kernel_rfl) ?_
          simp only [segOf, pickOps, pickOp]
          go_wp2_with fail
          refine (wheelLen_any w.heap.size M (last9 + 1) v9 s9 w4.drew ?_).mono ?_
          · exact HX9.out.old ((Only.refl _ _).drew)
          rintro e w' ⟨rfl, rfl⟩
          go_wp2_with fail
          refine MixPost.normal HD9.out ?_
          refine mix_seg [7] (by kernel_rfl) HD9.out ?_
          simp only [segOf, pickOps, pickOp]
          repeat (go_big_quiet_step (fail))
          refine wpQuiet_nil ?_
          refine mix_done (by kernel_rfl) ?_
          clear hne hd9
          go_wp2_with fail
          go_roundw
          case rel => exact ⟨k + 1, v9, _, s9, last9, by omega, by go_num, HL9.out, hn90, by omega, HX9.out.old ((Only.refl _ _).drew), HR9.out.old ((Only.refl _ _).drew), HA9.out, HB9.out.drew⟩
          case measure => simp [intOf]; omega
        · have HNO : Hid (∀ b ∈ s, xa < b.1) := by
            show ∀ b ∈ _, _
            intro b hb
            rcases Int.lt_or_le xa b.1 with h | h
            · exact h
            · exact absurd ⟨b, hb, h⟩ hex
          clear hex
          refine (wheelDue_none w.heap.size M (last + 1) v s xa W0 HX0.out HNO.out (by have := HSL.out; omega)).mono ?_
          rintro e w' ⟨rfl, rfl⟩
          go_wp2_with fail
          refine (rDue_none gr M last vr s xa _ HR0.out HNO.out (by have := HSL.out; omega)).mono ?_
          rintro e w4 ⟨rfl, ho4⟩
          clear d1 d2
          have hst : ∃ (v9 vr9 : Value) (s9 : List Al) (last9 : Int), s9.length ≤ k + 1 ∧ 0 ≤ last9 ∧ last9 ≤ k + 1 ∧ Wh w4 w.heap.size M (last9 + 1) v9 s9 ∧ RAt w4 gr M last9 vr9 s9 ∧ Apart w.heap.size gr v9 vr9 ∧ Below w.heap.size w w4 := ⟨v, vr, s, last, by have := HSL.out; omega, hn0, by omega, HX0.out.old ho4, HR0.out.old ho4, HA.out, Only.above HB0.out ho4 (Nat.le_refl _) (by simp)⟩
          obtain ⟨v9, vr9, s9, last9, hl9, hn90, hn91, hx9, hr9, ha9, hb9⟩ := hst
          clear ho4
          obtain ⟨A9, cap9, e9, _, hm9⟩ := hr9.row.slice
          subst e9
          have HX9 := Lib.hid hx9
          have HR9 := Lib.hid hr9
          have HA9 := Lib.hid ha9
          have HB9 := Lib.hid hb9
          have HL9 := Lib.hid hl9
          have hd9 : w4.cell? ⟨gr, 2, none⟩ = some (.slice A9 s9.length cap9) := hr9.head.c2
          have HD9 := Lib.hid hd9
          unfold maxLen at hm9
          clear hx9 hr9 ha9 hb9 hl9
          go_wp2_with fail
          refine mix_start (fun W => W.cell? ⟨gr, 2, none⟩ = some (.slice A9 s9.length cap9)) (by kernel_rfl) ?_
          have hne : Nonempty (Held (fun W => W.cell? ⟨gr, 2, none⟩ = some (.slice A9 s9.length cap9))) := ⟨⟨w4, hd9⟩⟩
          have hx0 : ∀ p : Held (fun W => W.cell? ⟨gr, 2, none⟩ = some (.slice A9 s9.length cap9)), p.w.cell? ⟨gr, 2, none⟩ = some (.slice A9 s9.length cap9) := fun p => p.h
          refine mix_seg [0, 2, 3, 4, 5, 6] (by kernel_rfl) hd9 ?_
          simp only [segOf, pickOps, pickOp]
          repeat (go_big_quiet_step (fail))
          refine wpQuiet_nil ?_
          clear hx0
          refine mix_run 1 (by kernel_rfl) ?_
          simp only [segOf, pickOps, pickOp]
          go_wp2_with fail
          refine (wheelLen_any w.heap.size M (last9 + 1) v9 s9 w4.drew ?_).mono ?_
          · exact HX9.out.old ((Only.refl _ _).drew)
          rintro e w' ⟨rfl, rfl⟩
          go_wp2_with fail
          refine MixPost.normal HD9.out ?_
          refine mix_seg [7] (by kernel_rfl) HD9.out ?_
          simp only [segOf, pickOps, pickOp]
          repeat (go_big_quiet_step (fail))
          refine wpQuiet_nil ?_
          refine mix_done (by kernel_rfl) ?_
          clear hne hd9
          go_wp2_with fail
          go_roundw
          case rel => exact ⟨k + 1, v9, _, s9, last9, by omega, by go_num, HL9.out, hn90, by omega, HX9.out.old ((Only.refl _ _).drew), HR9.out.old ((Only.refl _ _).drew), HA9.out, HB9.out.drew⟩
          case measure => simp [intOf]; omega
      | 3, _ =>
        go_wp2_with fail
        by_cases hse : s = []
        · subst hse
          refine (wheelNext_none w.heap.size M (last + 1) v W0 HX0.out).mono ?_
          rintro e w' ⟨rfl, rfl⟩
          go_wp2_with fail
          refine (rNext_none gr M last vr _ HR0.out).mono ?_
          rintro e w4 ⟨rfl, ho4⟩
          clear d1 d2
          have hst : ∃ (v9 vr9 : Value) (s9 : List Al) (last9 : Int), s9.length ≤ k + 1 ∧ 0 ≤ last9 ∧ last9 ≤ k + 1 ∧ Wh w4 w.heap.size M (last9 + 1) v9 s9 ∧ RAt w4 gr M last9 vr9 s9 ∧ Apart w.heap.size gr v9 vr9 ∧ Below w.heap.size w w4 := ⟨v, vr, [], last, by simp, hn0, by omega, HX0.out.old ho4, HR0.out.old ho4, HA.out, Only.above HB0.out ho4 (Nat.le_refl _) (by simp)⟩
          obtain ⟨v9, vr9, s9, last9, hl9, hn90, hn91, hx9, hr9, ha9, hb9⟩ := hst
          clear ho4
          obtain ⟨A9, cap9, e9, _, hm9⟩ := hr9.row.slice
          subst e9
          have HX9 := Lib.hid hx9
          have HR9 := Lib.hid hr9
          have HA9 := Lib.hid ha9
          have HB9 := Lib.hid hb9
          have HL9 := Lib.hid hl9
          have hd9 : w4.cell? ⟨gr, 2, none⟩ = some (.slice A9 s9.length cap9) := hr9.head.c2
          have HD9 := Lib.hid hd9
          unfold maxLen at hm9
          clear hx9 hr9 ha9 hb9 hl9
          go_wp2_with fail
          refine mix_start (fun W => W.cell? ⟨gr, 2, none⟩ = some (.slice A9 s9.length cap9)) (by kernel_rfl) ?_
          have hne : Nonempty (Held (fun W => W.cell? ⟨gr, 2, none⟩ = some (.slice A9 s9.length cap9))) := ⟨⟨w4, hd9⟩⟩
          have hx0 : ∀ p : Held (fun W => W.cell? ⟨gr, 2, none⟩ = some (.slice A9 s9.length cap9)), p.w.cell? ⟨gr, 2, none⟩ = some (.slice A9 s9.length cap9) := fun p => p.h
          refine mix_seg [0, 2, 3, 4, 5, 6] (by kernel_rfl) hd9 ?_
          simp only [segOf, pickOps, pickOp]
          repeat (go_big_quiet_step (fail))
          refine wpQuiet_nil ?_
          clear hx0
          refine mix_run 1 (by kernel_rfl) ?_
          simp only [segOf, pickOps, pickOp]
          go_wp2_with fail
          refine (wheelLen_any w.heap.size M (last9 + 1) v9 s9 w4.drew ?_).mono ?_
          · exact HX9.out.old ((Only.refl _ _).drew)
          rintro e w' ⟨rfl, rfl⟩
          go_wp2_with fail
          refine MixPost.normal HD9.out ?_
          refine mix_seg [7] (by kernel_rfl) HD9.out ?_
          simp only [segOf, pickOps, pickOp]
          repeat (go_big_quiet_step (fail))
          refine wpQuiet_nil ?_
          refine mix_done (by kernel_rfl) ?_
          clear hne hd9
          go_wp2_with fail
          go_roundw
          case rel => exact ⟨k + 1, v9, _, s9, last9, by omega, by go_num, HL9.out, hn90, by omega, HX9.out.old ((Only.refl _ _).drew), HR9.out.old ((Only.refl _ _).drew), HA9.out, HB9.out.drew⟩
          case measure => simp [intOf]; omega
        · obtain ⟨m, hm⟩ := Fore.ex hse
          have HM := Lib.hid hm
          clear hm hse
          refine (wheelNext_some w.heap.size M (last + 1) v s m W0 HX0.out HM.out (by have := HSL.out; omega)).mono ?_
          rintro e w' ⟨rfl, rfl⟩
          go_wp2_with fail
          refine (rNext_some gr M last (last + 1) vr s m _ HR0.out HX0.out.ids HM.out (by have := HSL.out; omega)).mono ?_
          rintro e w4 ⟨rfl, ho4⟩
          clear d1 d2
          have hst : ∃ (v9 vr9 : Value) (s9 : List Al) (last9 : Int), s9.length ≤ k + 1 ∧ 0 ≤ last9 ∧ last9 ≤ k + 1 ∧ Wh w4 w.heap.size M (last9 + 1) v9 s9 ∧ RAt w4 gr M last9 vr9 s9 ∧ Apart w.heap.size gr v9 vr9 ∧ Below w.heap.size w w4 := ⟨v, vr, s, last, by have := HSL.out; omega, hn0, by omega, HX0.out.old ho4, HR0.out.old ho4, HA.out, Only.above HB0.out ho4 (Nat.le_refl _) (by simp)⟩
          obtain ⟨v9, vr9, s9, last9, hl9, hn90, hn91, hx9, hr9, ha9, hb9⟩ := hst
          clear ho4
          obtain ⟨A9, cap9, e9, _, hm9⟩ := hr9.row.slice
          subst e9
          have HX9 := Lib.hid hx9
          have HR9 := Lib.hid hr9
          have HA9 := Lib.hid ha9
          have HB9 := Lib.hid hb9
          have HL9 := Lib.hid hl9
          have hd9 : w4.cell? ⟨gr, 2, none⟩ = some (.slice A9 s9.length cap9) := hr9.head.c2
          have HD9 := Lib.hid hd9
          unfold maxLen at hm9
          clear hx9 hr9 ha9 hb9 hl9
          go_wp2_with fail
          refine mix_start (fun W => W.cell? ⟨gr, 2, none⟩ = some (.slice A9 s9.length cap9)) (by kernel_rfl) ?_
          have hne : Nonempty (Held (fun W => W.cell? ⟨gr, 2, none⟩ = some (.slice A9 s9.length cap9))) := ⟨⟨w4, hd9⟩⟩
          have hx0 : ∀ p : Held (fun W => W.cell? ⟨gr, 2, none⟩ = some (.slice A9 s9.length cap9)), p.w.cell? ⟨gr, 2, none⟩ = some (.slice A9 s9.length cap9) := fun p => p.h
          refine mix_seg [0, 2, 3, 4, 5, 6] (by kernel_rfl) hd9 ?_
          simp only [segOf, pickOps, pickOp]
          repeat (go_big_quiet_step (fail))
          refine wpQuiet_nil ?_
          clear hx0
          refine mix_run 1 (by kernel_rfl) ?_
          simp only [segOf, pickOps, pickOp]
          go_wp2_with fail
          refine (wheelLen_any w.heap.size M (last9 + 1) v9 s9 w4.drew ?_).mono ?_
          · exact HX9.out.old ((Only.refl _ _).drew)
          rintro e w' ⟨rfl, rfl⟩
          go_wp2_with fail
          refine MixPost.normal HD9.out ?_
          refine mix_seg [7] (by kernel_rfl) HD9.out ?_
          simp only [segOf, pickOps, pickOp]
          repeat (go_big_quiet_step (fail))
          refine wpQuiet_nil ?_
          refine mix_done (by kernel_rfl) ?_
          clear hne hd9
          go_wp2_with fail
          go_roundw
          case rel => exact ⟨k + 1, v9, _, s9, last9, by omega, by go_num, HL9.out, hn90, by omega, HX9.out.old ((Only.refl _ _).drew), HR9.out.old ((Only.refl _ _).drew), HA9.out, HB9.out.drew⟩
          case measure => simp [intOf]; omega
    · obtain rfl : k = x1.length := by omega
      go_wp2_with fail
      refine (awake9_any _).mono ?_
      rintro e w5 ⟨rfl, hb5⟩
      go_wp2
      go_ret
      exact ⟨rfl, HB.out.trans (hb5.mono HB.out.size)⟩
end Go.Proofs.Ytbpdemgbljbhcaa
