/-
  The walk of the law AskNorms: whatever the input, it returns true, and nothing that was there has turned. Conditions: the arguments are such as any that come in; the library's variables and the tables of methods are as they are laid.
-/
import Derived.Test.YticedcnmajcgbaaGreatDoorAAwake
import Derived.Test.YticedcnmajcgbaaGreatDoorAOpen
namespace Go.Proofs.YticedcnmajcgbaaGreatDoor
open Go.RowKit

theorem RArg.ok {w : World} {r : Rv} (h : RArg w r) (hg : greatR r = false) : RqOk w r := by
  obtain ⟨h1, h2, h3, h4⟩ := greatR_no hg
  exact ⟨h.row.1, h.len, (great_bd h4).sm (by omega) (by omega) (by omega), h.hm, h.hu, h.ho⟩
theorem needs_no {q : Rq} (h : ¬ askI q = 0) : needsQ q = false := by unfold needsQ crossQ; rw [if_neg h]; simp
theorem key_no {q : Rq} (h : ¬ askI q = 0) : keyQ q = [] := by unfold keyQ; rw [if_neg h]
theorem texts_len {q : Rq} {r : Rv} {w : World} (h : RqOk w r) (e : namesQ q = namesQ r.q) : ((namesQ q).map mk).length ≤ maxLen := by
  rw [e, List.length_map]; have := (namesQ_small h).2; unfold maxLen; omega
/-- what holds all through: two requests, that were normed, in their blocks -/
structure NmF (w W : World) (r z : Rv) (g3 : Nat) : Prop where
  bel : Below w.heap.size w W
  env0 : Env8 w
  kr : RqOk W r
  kz : RqOk W z
  ar : RqAt W w.heap.size r
  az : RqAt W g3 z
theorem NmF.next {w W W' : World} {r z : Rv} {g3 : Nat} (h : NmF w W r z g3) (hb : Below W.heap.size W W') : NmF w W' r z g3 :=
  ⟨h.bel.trans (hb.mono h.bel.size), h.env0, h.kr.below hb, h.kz.below hb, h.ar.below hb h.ar.lt, h.az.below hb h.az.lt⟩
theorem NmF.env {w W : World} {r z : Rv} {g3 : Nat} (h : NmF w W r z g3) : Env8 W := h.env0.below h.bel

set_option maxRecDepth 100000 in
set_option maxHeartbeats 8000000 in
theorem walk_AskNorms (r : Rv) (w : World) (h0 : RArg w r) (he : Env8 w) :
    Calls Tryz.prog 4 #[r.v] w fun e w' => e = .returned (.bool true) ∧ Below w.heap.size w w' := by
  unfold Rv.v
  obtain ⟨W, hW⟩ : ∃ W, W = w.alloc (Obj.cells #[.string r.m, .string r.u, .string r.o, .int .i64 r.mode, .bool r.cr, .slice r.A r.n r.c, .int .i64 r.cl, .int .u64 r.tm, .int .i64 r.gr, .int .i64 r.sg] 25) := ⟨_, rfl⟩
  have HB0 : Hid (Below w.heap.size w W) := by rw [hW]; exact (Below.refl _ _).alloc (Nat.le_refl _) _
  have HR0 : Hid (RqAt W w.heap.size r) := by rw [hW]; exact RqAt.new w r _
  have HE := Lib.hid he
  have H0 := Lib.hid h0
  clear he h0
  cases hg : greatR r
  case true =>
    have HG := Lib.hid hg
    clear hg
    go_enter Tryz.func4, Tryz.ntmps4
    go_wp2_with fail
    rw [← hW]
    clear hW
    refine (GreatReq_any r _ w.heap.size (H0.out.row.1.below HB0.out) HB0.out.size H0.out.len (Nat.le_trans H0.out.row.2.2.1 H0.out.row.2.2.2.1) H0.out.row.2.1).mono ?_
    rintro e w1 ⟨rfl, hb⟩
    rw [HG.out]
    have HB1 : Hid (Below w.heap.size w w1) := HB0.out.trans (hb.mono HB0.out.size)
    clear hb
    go_wp2_with fail
    refine (awake8_any _ (HE.out.below HB1.out)).mono ?_
    rintro e w2 ⟨rfl, hb⟩
    go_wp2
    go_ret
    exact ⟨rfl, HB1.out.trans (hb.mono HB1.out.size)⟩
  have HG := Lib.hid hg
  have HK := Lib.hid (H0.out.ok hg)
  clear hg
  go_enter Tryz.func4, Tryz.ntmps4
  go_wp2_with fail
  rw [← hW]
  clear hW
  refine (GreatReq_any r _ w.heap.size (H0.out.row.1.below HB0.out) HB0.out.size H0.out.len (Nat.le_trans H0.out.row.2.2.1 H0.out.row.2.2.2.1) H0.out.row.2.1).mono ?_
  rintro e w1 ⟨rfl, hb⟩
  rw [HG.out]
  have HB1 : Hid (Below w.heap.size w w1) := HB0.out.trans (hb.mono HB0.out.size)
  have HR1 : Hid (RqAt w1 w.heap.size r) := HR0.out.below hb HR0.out.lt
  clear hb
  obtain ⟨r0, r1, r2, r3, r4, r5, r6, r7, r8, r9⟩ := HR1.out
  go_wp2_with fail
  refine (aNorm_any r _ (HK.out.below HB1.out) (HE.out.below HB1.out)).mono ?_
  rintro e w2 ⟨z, rfl, hzq, hzk, hb⟩
  have HB2 : Hid (Below w.heap.size w w2) := HB1.out.trans (hb.mono HB1.out.size)
  have HR2 : Hid (RqAt w2 w.heap.size r) := HR1.out.below hb HR1.out.lt
  have HZQ := Lib.hid hzq
  have HA := Lib.hid ((Below.refl w2.heap.size w2).alloc (Nat.le_refl _) (Obj.cells #[.string z.m, .string z.u, .string z.o, .int .i64 z.mode, .bool z.cr, .slice z.A z.n z.c, .int .i64 z.cl, .int .u64 z.tm, .int .i64 z.gr, .int .i64 z.sg] 25))
  have HN3' : Hid (NmF w (w2.alloc (Obj.cells #[.string z.m, .string z.u, .string z.o, .int .i64 z.mode, .bool z.cr, .slice z.A z.n z.c, .int .i64 z.cl, .int .u64 z.tm, .int .i64 z.gr, .int .i64 z.sg] 25)) r z w2.heap.size) :=
    ⟨HB2.out.trans (HA.out.mono HB2.out.size), HE.out, (HK.out.below HB2.out).below HA.out, hzk.below HA.out, HR2.out.below HA.out HR2.out.lt, RqAt.new w2 z _⟩
  clear hb hzq hzk r0 r1 r2 r3 r4 r5 r6 r7 r8 r9
  simp only [Rv.v]
  obtain ⟨r0, r1, r2, r3, r4, r5, r6, r7, r8, r9⟩ := HN3'.out.ar
  go_wp2_with fail
  refine (aCheck_any r _ HN3'.out.kr HN3'.out.env).mono ?_
  rintro e w4 ⟨rfl, hb⟩
  obtain ⟨g3, hg3⟩ : ∃ g, g = w2.heap.size := ⟨_, rfl⟩
  have HN4 : Hid (NmF w w4 r z g3) := by rw [hg3]; exact HN3'.out.next hb
  rw [← hg3]
  clear hb hg3 HN3' HA r0 r1 r2 r3 r4 r5 r6 r7 r8 r9
  obtain ⟨c, hc⟩ : ∃ c, c = askI r.q := ⟨_, rfl⟩
  rw [← hc]
  have HC := Lib.hid hc
  clear hc
  by_cases h0 : c = 0
  case neg =>
    have HNO : Hid (¬ askI r.q = 0) := by show ¬ _; rw [← HC.out]; exact h0
    obtain ⟨r0, r1, r2, r3, r4, r5, r6, r7, r8, r9⟩ := HN4.out.ar
    obtain ⟨s0, s1, s2, s3, s4, s5, s6, s7, s8, s9⟩ := HN4.out.az
    go_wp2_with fail
    refine (Req_same z Rv.zero _ HN4.out.kz (RqOk.zero _) (by rw [HZQ.out, norm_zero HNO.out]; rfl)).mono ?_
    rintro e w5 ⟨rfl, hb⟩
    have HN5 : Hid (NmF w w5 r z g3) := HN4.out.next hb
    clear hb r0 r1 r2 r3 r4 r5 r6 r7 r8 r9 s0 s1 s2 s3 s4 s5 s6 s7 s8 s9
    obtain ⟨r0, r1, r2, r3, r4, r5, r6, r7, r8, r9⟩ := HN5.out.ar
    go_wp2_with fail
    refine (aNeeds_any r _ HN5.out.kr HN5.out.env).mono ?_
    rintro e w6 ⟨rfl, hb⟩
    rw [needs_no HNO.out]
    have HN6 : Hid (NmF w w6 r z g3) := HN5.out.next hb
    clear hb r0 r1 r2 r3 r4 r5 r6 r7 r8 r9
    obtain ⟨r0, r1, r2, r3, r4, r5, r6, r7, r8, r9⟩ := HN6.out.ar
    go_wp2_with fail
    refine (aKey_any r _ HN6.out.kr HN6.out.env).mono ?_
    rintro e w7 ⟨rfl, hb⟩
    rw [key_no HNO.out, show mk [] = (⟨#[]⟩ : ByteArray) from rfl]
    have HN7 : Hid (NmF w w7 r z g3) := HN6.out.next hb
    clear hb r0 r1 r2 r3 r4 r5 r6 r7 r8 r9
    go_wp2_with fail
    refine (awake8_any _ HN7.out.env).mono ?_
    rintro e w8 ⟨rfl, hb⟩
    go_wp2
    go_ret
    exact ⟨rfl, HN7.out.bel.trans (hb.mono HN7.out.bel.size)⟩
  subst h0
  have hq := HC.out.symm
  have HCK : Hid (askI z.q = 0) := by show _ = _; rw [HZQ.out, norm_ask hq]
  have HNN : Hid (normQ z.q = z.q) := by show _ = _; rw [HZQ.out, norm_again hq]
  obtain ⟨crs, hcrs⟩ : ∃ b, b = crossQ r.q := ⟨_, rfl⟩
  have HCR := Lib.hid hcrs
  have HCZ : Hid (crs = crossQ z.q) := by show _ = _; rw [hcrs, HZQ.out, norm_crossQ hq]
  obtain ⟨nds, hnds⟩ : ∃ b, b = needsQ r.q := ⟨_, rfl⟩
  have HNR := Lib.hid hnds
  have HNZ : Hid (nds = needsQ z.q) := by show _ = _; rw [hnds, HZQ.out, norm_needsQ hq]
  obtain ⟨ks, hks⟩ : ∃ b, b = mk (keyQ r.q) := ⟨_, rfl⟩
  have HKR := Lib.hid hks
  have HKZ : Hid (ks = mk (keyQ z.q)) := by show _ = _; rw [hks, HZQ.out, norm_keyQ hq]
  have HWQ : Hid (wantQ z.q = wantQ r.q) := by show _ = _; rw [HZQ.out, norm_wantQ hq]
  obtain ⟨co, hco⟩ : ∃ b, b = mk (wantQ r.q).o := ⟨_, rfl⟩
  obtain ⟨cu, hcu⟩ : ∃ b, b = mk (wantQ r.q).u := ⟨_, rfl⟩
  obtain ⟨cc, hcc⟩ : ∃ b, b = (wantQ r.q).cr := ⟨_, rfl⟩
  obtain ⟨wm, hwm⟩ : ∃ b, b = mk (wantQ r.q).m := ⟨_, rfl⟩
  obtain ⟨wn, hwn⟩ : ∃ b, b = mk (wantQ r.q).n := ⟨_, rfl⟩
  have HCL : Hid ((Value.agg #[.string (mk (wantQ r.q).o), .string (mk (wantQ r.q).u), .bool (wantQ r.q).cr]) = .agg #[.string co, .string cu, .bool cc]) := by show _ = _; rw [hco, hcu, hcc]
  have HWV : Hid ((wvOf (wantQ r.q)).v = .agg #[.string co, .string cu, .bool cc, .string wm, .string wn]) := by show _ = _; rw [hco, hcu, hcc, hwm, hwn]; rfl
  have HNQ : Hid (namesQ z.q = namesQ r.q) := by show _ = _; rw [HZQ.out, norm_namesQ hq]
  have hec : ∀ W, (binOp .eql 37 (.agg #[.string co, .string cu, .bool cc]) (.agg #[.string co, .string cu, .bool cc])).run Tryz.prog W = .ok (.bool true) W := fun W => by rw [eql_cell]; simp
  have hew : ∀ W, (binOp .eql 40 (.agg #[.string co, .string cu, .bool cc, .string wm, .string wn]) (.agg #[.string co, .string cu, .bool cc, .string wm, .string wn])).run Tryz.prog W = .ok (.bool true) W := fun W => by rw [eql_want]; simp
  clear hq hcrs hnds hks hco hcu hcc hwm hwn
  go_wp2_with fail
  refine mix_start (fun W => NmF w W r z g3) (by kernel_rfl) ?_
  have hne : Nonempty (Held (fun W => NmF w W r z g3)) := ⟨⟨_, HN4.out⟩⟩
  have zz0 : ∀ q : Held (fun W => NmF w W r z g3), q.w.cell? ⟨w.heap.size, 0, none⟩ = some (.string r.m) := fun q => q.h.ar.c0
  have zz1 : ∀ q : Held (fun W => NmF w W r z g3), q.w.cell? ⟨w.heap.size, 1, none⟩ = some (.string r.u) := fun q => q.h.ar.c1
  have zz2 : ∀ q : Held (fun W => NmF w W r z g3), q.w.cell? ⟨w.heap.size, 2, none⟩ = some (.string r.o) := fun q => q.h.ar.c2
  have zz3 : ∀ q : Held (fun W => NmF w W r z g3), q.w.cell? ⟨w.heap.size, 3, none⟩ = some (.int .i64 r.mode) := fun q => q.h.ar.c3
  have zz4 : ∀ q : Held (fun W => NmF w W r z g3), q.w.cell? ⟨w.heap.size, 4, none⟩ = some (.bool r.cr) := fun q => q.h.ar.c4
  have zz5 : ∀ q : Held (fun W => NmF w W r z g3), q.w.cell? ⟨w.heap.size, 5, none⟩ = some (.slice r.A r.n r.c) := fun q => q.h.ar.c5
  have zz6 : ∀ q : Held (fun W => NmF w W r z g3), q.w.cell? ⟨w.heap.size, 6, none⟩ = some (.int .i64 r.cl) := fun q => q.h.ar.c6
  have zz7 : ∀ q : Held (fun W => NmF w W r z g3), q.w.cell? ⟨w.heap.size, 7, none⟩ = some (.int .u64 r.tm) := fun q => q.h.ar.c7
  have zz8 : ∀ q : Held (fun W => NmF w W r z g3), q.w.cell? ⟨w.heap.size, 8, none⟩ = some (.int .i64 r.gr) := fun q => q.h.ar.c8
  have zz9 : ∀ q : Held (fun W => NmF w W r z g3), q.w.cell? ⟨w.heap.size, 9, none⟩ = some (.int .i64 r.sg) := fun q => q.h.ar.c9
  have zz10 : ∀ q : Held (fun W => NmF w W r z g3), q.w.cell? ⟨g3, 0, none⟩ = some (.string z.m) := fun q => q.h.az.c0
  have zz11 : ∀ q : Held (fun W => NmF w W r z g3), q.w.cell? ⟨g3, 1, none⟩ = some (.string z.u) := fun q => q.h.az.c1
  have zz12 : ∀ q : Held (fun W => NmF w W r z g3), q.w.cell? ⟨g3, 2, none⟩ = some (.string z.o) := fun q => q.h.az.c2
  have zz13 : ∀ q : Held (fun W => NmF w W r z g3), q.w.cell? ⟨g3, 3, none⟩ = some (.int .i64 z.mode) := fun q => q.h.az.c3
  have zz14 : ∀ q : Held (fun W => NmF w W r z g3), q.w.cell? ⟨g3, 4, none⟩ = some (.bool z.cr) := fun q => q.h.az.c4
  have zz15 : ∀ q : Held (fun W => NmF w W r z g3), q.w.cell? ⟨g3, 5, none⟩ = some (.slice z.A z.n z.c) := fun q => q.h.az.c5
  have zz16 : ∀ q : Held (fun W => NmF w W r z g3), q.w.cell? ⟨g3, 6, none⟩ = some (.int .i64 z.cl) := fun q => q.h.az.c6
  have zz17 : ∀ q : Held (fun W => NmF w W r z g3), q.w.cell? ⟨g3, 7, none⟩ = some (.int .u64 z.tm) := fun q => q.h.az.c7
  have zz18 : ∀ q : Held (fun W => NmF w W r z g3), q.w.cell? ⟨g3, 8, none⟩ = some (.int .i64 z.gr) := fun q => q.h.az.c8
  have zz19 : ∀ q : Held (fun W => NmF w W r z g3), q.w.cell? ⟨g3, 9, none⟩ = some (.int .i64 z.sg) := fun q => q.h.az.c9
  obtain ⟨w5, hwd⟩ : ∃ W, W = w4.drew := ⟨_, rfl⟩
  rw [← hwd]
  have hb : Below w4.heap.size w4 w5 := by rw [hwd]; exact (Below.refl _ _).drew
  have HN5 : Hid (NmF w w5 r z g3) := HN4.out.next hb
  clear hb hwd
  refine mix_seg [0] (by kernel_rfl) HN5.out ?_
  simp only [segOf, pickOps, pickOp]
  repeat (go_big_quiet_step (fail))
  refine wpQuiet_nil ?_
  refine mix_run 1 (by kernel_rfl) ?_
  simp only [segOf, pickOps, pickOp]
  go_wp2_with fail
  refine (aCheck_any z _ HN5.out.kz HN5.out.env).mono ?_
  rintro e w6 ⟨rfl, hb⟩
  rw [HCK.out]
  have HN6 : Hid (NmF w w6 r z g3) := HN5.out.next hb
  clear hb
  go_wp2_with fail
  refine MixPost.normal HN6.out ?_
  refine mix_seg [2, 3, 4, 6] (by kernel_rfl) HN6.out ?_
  simp only [segOf, pickOps, pickOp]
  repeat (go_big_quiet_step (fail))
  refine wpQuiet_nil ?_
  refine mix_run 5 (by kernel_rfl) ?_
  simp only [segOf, pickOps, pickOp]
  go_wp2_with fail
  refine (aNorm_any z _ HN6.out.kz HN6.out.env).mono ?_
  rintro e w7 ⟨y, rfl, hyq, hyk, hb⟩
  have HN7 : Hid (NmF w w7 r z g3) := HN6.out.next hb
  have HYQ : Hid (y.q = z.q) := hyq.trans HNN.out
  have HYK := Lib.hid hyk
  clear hb hyq hyk
  simp only [Rv.v]
  go_wp2_with fail
  refine MixPost.normal HN7.out ?_
  refine mix_run 7 (by kernel_rfl) ?_
  simp only [segOf, pickOps, pickOp]
  go_wp2_with fail
  refine (Req_same y z _ HYK.out HN7.out.kz HYQ.out).mono ?_
  rintro e w8 ⟨rfl, hb⟩
  have HN8 : Hid (NmF w w8 r z g3) := HN7.out.next hb
  clear hb
  go_wp2_with fail
  refine MixPost.normal HN8.out ?_
  refine mix_seg [8, 9, 10, 12] (by kernel_rfl) HN8.out ?_
  simp only [segOf, pickOps, pickOp]
  repeat (go_big_quiet_step (fail))
  refine wpQuiet_nil ?_
  refine mix_run 11 (by kernel_rfl) ?_
  simp only [segOf, pickOps, pickOp]
  go_wp2_with fail
  refine (aCross_any z _ HN8.out.kz HN8.out.env).mono ?_
  rintro e w9 ⟨rfl, hb⟩
  rw [← HCZ.out]
  have HN9 : Hid (NmF w w9 r z g3) := HN8.out.next hb
  clear hb
  go_wp2_with fail
  refine MixPost.normal HN9.out ?_
  refine mix_run 13 (by kernel_rfl) ?_
  simp only [segOf, pickOps, pickOp]
  go_wp2_with fail
  refine (aCross_any r _ HN9.out.kr HN9.out.env).mono ?_
  rintro e w10 ⟨rfl, hb⟩
  rw [← HCR.out]
  have HN10 : Hid (NmF w w10 r z g3) := HN9.out.next hb
  clear hb
  go_wp2_with fail
  refine MixPost.normal HN10.out ?_
  refine mix_seg [14, 15, 16, 17, 19] (by kernel_rfl) HN10.out ?_
  simp only [segOf, pickOps, pickOp]
  repeat (go_big_quiet_step (fail))
  refine wpQuiet_nil ?_
  refine mix_run 18 (by kernel_rfl) ?_
  simp only [segOf, pickOps, pickOp]
  go_wp2_with fail
  refine (aNeeds_any z _ HN10.out.kz HN10.out.env).mono ?_
  rintro e w11 ⟨rfl, hb⟩
  rw [← HNZ.out]
  have HN11 : Hid (NmF w w11 r z g3) := HN10.out.next hb
  clear hb
  go_wp2_with fail
  refine MixPost.normal HN11.out ?_
  refine mix_run 20 (by kernel_rfl) ?_
  simp only [segOf, pickOps, pickOp]
  go_wp2_with fail
  refine (aNeeds_any r _ HN11.out.kr HN11.out.env).mono ?_
  rintro e w12 ⟨rfl, hb⟩
  rw [← HNR.out]
  have HN12 : Hid (NmF w w12 r z g3) := HN11.out.next hb
  clear hb
  go_wp2_with fail
  refine MixPost.normal HN12.out ?_
  refine mix_seg [21, 22, 23, 24, 26] (by kernel_rfl) HN12.out ?_
  simp only [segOf, pickOps, pickOp]
  repeat (go_big_quiet_step (fail))
  refine wpQuiet_nil ?_
  refine mix_run 25 (by kernel_rfl) ?_
  simp only [segOf, pickOps, pickOp]
  go_wp2_with fail
  refine (aKey_any z _ HN12.out.kz HN12.out.env).mono ?_
  rintro e w13 ⟨rfl, hb⟩
  rw [← HKZ.out]
  have HN13 : Hid (NmF w w13 r z g3) := HN12.out.next hb
  clear hb
  go_wp2_with fail
  refine MixPost.normal HN13.out ?_
  refine mix_run 27 (by kernel_rfl) ?_
  simp only [segOf, pickOps, pickOp]
  go_wp2_with fail
  refine (aKey_any r _ HN13.out.kr HN13.out.env).mono ?_
  rintro e w14 ⟨rfl, hb⟩
  rw [← HKR.out]
  have HN14 : Hid (NmF w w14 r z g3) := HN13.out.next hb
  clear hb
  go_wp2_with fail
  refine MixPost.normal HN14.out ?_
  refine mix_seg [28, 29, 30, 31, 33] (by kernel_rfl) HN14.out ?_
  simp only [segOf, pickOps, pickOp]
  repeat (go_big_quiet_step (fail))
  refine wpQuiet_nil ?_
  refine mix_run 32 (by kernel_rfl) ?_
  simp only [segOf, pickOps, pickOp]
  go_wp2_with fail
  refine (aCell_any z _ HN14.out.kz HN14.out.env).mono ?_
  rintro e w15 ⟨rfl, hb⟩
  rw [HWQ.out, HCL.out]
  have HN15 : Hid (NmF w w15 r z g3) := HN14.out.next hb
  clear hb
  go_wp2_with fail
  refine MixPost.normal HN15.out ?_
  refine mix_run 34 (by kernel_rfl) ?_
  simp only [segOf, pickOps, pickOp]
  go_wp2_with fail
  refine (aCell_any r _ HN15.out.kr HN15.out.env).mono ?_
  rintro e w16 ⟨rfl, hb⟩
  rw [HCL.out]
  have HN16 : Hid (NmF w w16 r z g3) := HN15.out.next hb
  clear hb
  go_wp2_with fail
  refine MixPost.normal HN16.out ?_
  refine mix_seg [35, 36, 37, 38, 40] (by kernel_rfl) HN16.out ?_
  simp only [segOf, pickOps, pickOp]
  repeat (go_big_quiet_step (fail))
  refine wpQuiet_nil ?_
  refine mix_run 39 (by kernel_rfl) ?_
  simp only [segOf, pickOps, pickOp]
  go_wp2_with fail
  refine (aWant_any z _ HN16.out.kz HN16.out.env).mono ?_
  rintro e w17 ⟨rfl, hb⟩
  rw [HWQ.out, HWV.out]
  have HN17 : Hid (NmF w w17 r z g3) := HN16.out.next hb
  clear hb
  go_wp2_with fail
  refine MixPost.normal HN17.out ?_
  refine mix_run 41 (by kernel_rfl) ?_
  simp only [segOf, pickOps, pickOp]
  go_wp2_with fail
  refine (aWant_any r _ HN17.out.kr HN17.out.env).mono ?_
  rintro e w18 ⟨rfl, hb⟩
  rw [HWV.out]
  have HN18 : Hid (NmF w w18 r z g3) := HN17.out.next hb
  clear hb
  go_wp2_with fail
  refine MixPost.normal HN18.out ?_
  refine mix_seg [42, 43, 44, 45, 47] (by kernel_rfl) HN18.out ?_
  simp only [segOf, pickOps, pickOp]
  repeat (go_big_quiet_step (fail))
  refine wpQuiet_nil ?_
  refine mix_run 46 (by kernel_rfl) ?_
  simp only [segOf, pickOps, pickOp]
  go_wp2_with fail
  refine (aNames_any z _ HN18.out.kz HN18.out.env).mono ?_
  rintro e w19 ⟨v, rfl, hs, hb⟩
  have HN19 : Hid (NmF w w19 r z g3) := HN18.out.next hb
  rw [HNQ.out] at hs
  obtain ⟨N1, n1, c1, rfl, hn1, hp1⟩ := trow_row hs
  have HN1 := Lib.hid hn1
  have HP1 := Lib.hid hp1
  have HLA : Hid (Below w19.heap.size w19 w19) := Below.refl _ _
  obtain ⟨wa, hwa⟩ : ∃ W, W = w19 := ⟨_, rfl⟩
  have HPA : Hid (SRow wa wa.heap.size N1 ((namesQ r.q).map mk)) := by rw [hwa]; exact HP1.out
  have HLW : Hid (Below wa.heap.size wa w19) := by rw [hwa]; exact Below.refl _ _
  clear hb hs hn1 hp1 hwa HP1 HLA
  go_wp2_with fail
  refine MixPost.normal HN19.out ?_
  refine mix_run 48 (by kernel_rfl) ?_
  simp only [segOf, pickOps, pickOp]
  go_wp2_with fail
  refine (aNames_any r _ HN19.out.kr HN19.out.env).mono ?_
  rintro e w20 ⟨v, rfl, hs, hb⟩
  have HN20 : Hid (NmF w w20 r z g3) := HN19.out.next hb
  obtain ⟨N2, n2, c2, rfl, hn2, hp2⟩ := trow_row hs
  have HN2 := Lib.hid hn2
  have HP2 := Lib.hid hp2
  have HLB : Hid (Below wa.heap.size wa w20) := HLW.out.trans (hb.mono HLW.out.size)
  clear hb hs hn2 hp2
  go_wp2_with fail
  refine MixPost.normal HN20.out ?_
  refine mix_run 49 (by kernel_rfl) ?_
  simp only [segOf, pickOps, pickOp]
  go_wp2_with fail
  refine (Texts_same N1 N2 _ _ c1 c2 wa.heap.size w20.heap.size _ _ HN1.out HN2.out (texts_len HK.out rfl) (HPA.out.below HLB.out) HP2.out).mono ?_
  rintro e w21 ⟨rfl, nn, hwn⟩
  have hb : Below w20.heap.size w20 w21 := by rw [hwn]; exact below_drewN (Below.refl _ _) _
  have HN21 : Hid (NmF w w21 r z g3) := HN20.out.next hb
  clear hb hwn
  go_wp2_with fail
  refine MixPost.normal HN21.out ?_
  refine mix_seg [50, 51] (by kernel_rfl) HN21.out ?_
  simp only [segOf, pickOps, pickOp]
  repeat (go_big_quiet_step (fail))
  refine wpQuiet_nil ?_
  refine mix_run 52 (by kernel_rfl) ?_
  simp only [segOf, pickOps, pickOp]
  go_wp2_with fail
  refine (awake8_any _ HN21.out.env).mono ?_
  rintro e w22 ⟨rfl, hb⟩
  have HN22 : Hid (NmF w w22 r z g3) := HN21.out.next hb
  clear hb
  go_wp2_with fail
  refine MixPost.normal HN22.out ?_
  refine mix_seg [53, 54] (by kernel_rfl) HN22.out ?_
  simp only [segOf, pickOps, pickOp]
  repeat (go_big_quiet_step (fail))
  refine wpQuiet_nil ?_
  refine mix_done (by kernel_rfl) ?_
  go_wp2
  go_ret
  exact ⟨rfl, HN22.out.bel⟩
end Go.Proofs.YticedcnmajcgbaaGreatDoor
