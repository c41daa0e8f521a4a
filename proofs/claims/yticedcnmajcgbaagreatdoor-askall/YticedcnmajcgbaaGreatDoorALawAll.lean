/-
  The walk of the law AskAll: whatever the input, it returns true, and nothing that was there has turned. Conditions: the arguments are such as any that come in; the library's variables and the tables of methods are as they are laid.
-/
import Derived.Test.YticedcnmajcgbaaGreatDoorARef3
import Derived.Test.YticedcnmajcgbaaGreatDoorALawNorms
namespace Go.Proofs.YticedcnmajcgbaaGreatDoor
open Go.RowKit

/-- what holds all through: the request in its block -/
structure AlF (w W : World) (r : Rv) : Prop where
  bel : Below w.heap.size w W
  env0 : Env8 w
  kr : RqOk W r
  ar : RqAt W w.heap.size r
theorem AlF.env {w W : World} {r : Rv} (h : AlF w W r) : Env8 W := h.env0.below h.bel
theorem AlF.next {w W W' : World} {r : Rv} (h : AlF w W r) (hb : Below W.heap.size W W') : AlF w W' r :=
  ⟨h.bel.trans (hb.mono h.bel.size), h.env0, h.kr.below hb, h.ar.below hb h.ar.lt⟩

set_option maxRecDepth 100000 in
set_option maxHeartbeats 8000000 in
theorem walk_AskAll (r : Rv) (w : World) (h0 : RArg w r) (he : Env8 w) :
    Calls Tryz.prog 3 #[r.v] w fun e w' => e = .returned (.bool true) ∧ Below w.heap.size w w' := by
  unfold Rv.v
  obtain ⟨W, hW⟩ : ∃ W, W = w.alloc (Obj.cells #[.string r.m, .string r.u, .string r.o, .int .i64 r.mode, .bool r.cr, .slice r.A r.n r.c, .int .i64 r.cl, .int .u64 r.tm, .int .i64 r.gr, .int .i64 r.sg] 25) := ⟨_, rfl⟩
  have HB0 : Hid (Below w.heap.size w W) := by rw [hW]; exact (Below.refl _ _).alloc (Nat.le_refl _) _
  have HR0 : Hid (RqAt W w.heap.size r) := by rw [hW]; exact RqAt.new w r _
  have HE := Lib.hid he
  have H0 := Lib.hid h0
  clear he h0
  cases hg : greatR r
  case true =>
    have HG := Lib.hid hg
    clear hg
    go_enter Tryz.func3, Tryz.ntmps3
    go_wp2_with fail
    rw [← hW]
    clear hW
    refine (GreatReq_any r _ w.heap.size (H0.out.row.1.below HB0.out) HB0.out.size H0.out.len (Nat.le_trans H0.out.row.2.2.1 H0.out.row.2.2.2.1) H0.out.row.2.1).mono ?_
    rintro e w1 ⟨rfl, hb⟩
    rw [HG.out]
    have HB1 : Hid (Below w.heap.size w w1) := HB0.out.trans (hb.mono HB0.out.size)
    clear hb
    go_wp2_with fail
    refine (awake8_any _ (HE.out.below HB1.out)).mono ?_
    rintro e w2 ⟨rfl, hb⟩
    go_wp2
    go_ret
    exact ⟨rfl, HB1.out.trans (hb.mono HB1.out.size)⟩
  have HG := Lib.hid hg
  have HK := Lib.hid (H0.out.ok hg)
  clear hg
  go_enter Tryz.func3, Tryz.ntmps3
  go_wp2_with fail
  rw [← hW]
  clear hW
  refine (GreatReq_any r _ w.heap.size (H0.out.row.1.below HB0.out) HB0.out.size H0.out.len (Nat.le_trans H0.out.row.2.2.1 H0.out.row.2.2.2.1) H0.out.row.2.1).mono ?_
  rintro e w1 ⟨rfl, hb⟩
  rw [HG.out]
  have HB1 : Hid (Below w.heap.size w w1) := HB0.out.trans (hb.mono HB0.out.size)
  have HN1 : Hid (AlF w w1 r) := ⟨HB1.out, HE.out, HK.out.below HB1.out, HR0.out.below hb HR0.out.lt⟩
  clear hb HR0 HB0
  obtain ⟨ck, hck⟩ : ∃ b, b = askI r.q := ⟨_, rfl⟩
  have HCK := Lib.hid hck
  obtain ⟨crs, hcrs⟩ : ∃ b, b = crossQ r.q := ⟨_, rfl⟩
  have HCR := Lib.hid hcrs
  obtain ⟨nds, hnds⟩ : ∃ b, b = needsQ r.q := ⟨_, rfl⟩
  have HNR := Lib.hid hnds
  obtain ⟨ks, hks⟩ : ∃ b, b = mk (keyQ r.q) := ⟨_, rfl⟩
  have HKR := Lib.hid hks
  obtain ⟨co, hco⟩ : ∃ b, b = mk (wantQ r.q).o := ⟨_, rfl⟩
  obtain ⟨cu, hcu⟩ : ∃ b, b = mk (wantQ r.q).u := ⟨_, rfl⟩
  obtain ⟨cc, hcc⟩ : ∃ b, b = (wantQ r.q).cr := ⟨_, rfl⟩
  obtain ⟨wm, hwm⟩ : ∃ b, b = mk (wantQ r.q).m := ⟨_, rfl⟩
  obtain ⟨wn, hwn⟩ : ∃ b, b = mk (wantQ r.q).n := ⟨_, rfl⟩
  have HCL : Hid ((Value.agg #[.string (mk (wantQ r.q).o), .string (mk (wantQ r.q).u), .bool (wantQ r.q).cr]) = .agg #[.string co, .string cu, .bool cc]) := by show _ = _; rw [hco, hcu, hcc]
  have HWV : Hid ((wvOf (wantQ r.q)).v = .agg #[.string co, .string cu, .bool cc, .string wm, .string wn]) := by show _ = _; rw [hco, hcu, hcc, hwm, hwn]; rfl
  have hec : ∀ W, (binOp .eql 37 (.agg #[.string co, .string cu, .bool cc]) (.agg #[.string co, .string cu, .bool cc])).run Tryz.prog W = .ok (.bool true) W := fun W => by rw [eql_cell]; simp
  have hew : ∀ W, (binOp .eql 40 (.agg #[.string co, .string cu, .bool cc, .string wm, .string wn]) (.agg #[.string co, .string cu, .bool cc, .string wm, .string wn])).run Tryz.prog W = .ok (.bool true) W := fun W => by rw [eql_want]; simp
  clear hck hcrs hnds hks hco hcu hcc hwm hwn
  go_wp2_with fail
  refine mix_start (fun W => AlF w W r) (by kernel_rfl) ?_
  have hne : Nonempty (Held (fun W => AlF w W r)) := ⟨⟨_, HN1.out⟩⟩
  have zz0 : ∀ q : Held (fun W => AlF w W r), q.w.cell? ⟨w.heap.size, 0, none⟩ = some (.string r.m) := fun q => q.h.ar.c0
  have zz1 : ∀ q : Held (fun W => AlF w W r), q.w.cell? ⟨w.heap.size, 1, none⟩ = some (.string r.u) := fun q => q.h.ar.c1
  have zz2 : ∀ q : Held (fun W => AlF w W r), q.w.cell? ⟨w.heap.size, 2, none⟩ = some (.string r.o) := fun q => q.h.ar.c2
  have zz3 : ∀ q : Held (fun W => AlF w W r), q.w.cell? ⟨w.heap.size, 3, none⟩ = some (.int .i64 r.mode) := fun q => q.h.ar.c3
  have zz4 : ∀ q : Held (fun W => AlF w W r), q.w.cell? ⟨w.heap.size, 4, none⟩ = some (.bool r.cr) := fun q => q.h.ar.c4
  have zz5 : ∀ q : Held (fun W => AlF w W r), q.w.cell? ⟨w.heap.size, 5, none⟩ = some (.slice r.A r.n r.c) := fun q => q.h.ar.c5
  have zz6 : ∀ q : Held (fun W => AlF w W r), q.w.cell? ⟨w.heap.size, 6, none⟩ = some (.int .i64 r.cl) := fun q => q.h.ar.c6
  have zz7 : ∀ q : Held (fun W => AlF w W r), q.w.cell? ⟨w.heap.size, 7, none⟩ = some (.int .u64 r.tm) := fun q => q.h.ar.c7
  have zz8 : ∀ q : Held (fun W => AlF w W r), q.w.cell? ⟨w.heap.size, 8, none⟩ = some (.int .i64 r.gr) := fun q => q.h.ar.c8
  have zz9 : ∀ q : Held (fun W => AlF w W r), q.w.cell? ⟨w.heap.size, 9, none⟩ = some (.int .i64 r.sg) := fun q => q.h.ar.c9
  obtain ⟨w2, hwd⟩ : ∃ W, W = w1.drew := ⟨_, rfl⟩
  rw [← hwd]
  have hb : Below w1.heap.size w1 w2 := by rw [hwd]; exact (Below.refl _ _).drew
  have HN2 : Hid (AlF w w2 r) := HN1.out.next hb
  clear hb hwd
  refine mix_seg [0, 2] (by kernel_rfl) HN2.out ?_
  simp only [segOf, pickOps, pickOp]
  repeat (go_big_quiet_step (fail))
  refine wpQuiet_nil ?_
  refine mix_run 1 (by kernel_rfl) ?_
  simp only [segOf, pickOps, pickOp]
  go_wp2_with fail
  refine (aCheck_any r _ HN2.out.kr HN2.out.env).mono ?_
  rintro e w3 ⟨rfl, hb⟩
  rw [← HCK.out]
  have HN3 : Hid (AlF w w3 r) := HN2.out.next hb
  clear hb
  go_wp2_with fail
  refine MixPost.normal HN3.out ?_
  refine mix_run 3 (by kernel_rfl) ?_
  simp only [segOf, pickOps, pickOp]
  go_wp2_with fail
  refine (refCheck8_any r _ HN3.out.kr HN3.out.env).mono ?_
  rintro e w4 ⟨rfl, hb⟩
  rw [← HCK.out]
  have HN4 : Hid (AlF w w4 r) := HN3.out.next hb
  clear hb
  go_wp2_with fail
  refine MixPost.normal HN4.out ?_
  refine mix_seg [4, 5, 6, 8] (by kernel_rfl) HN4.out ?_
  simp only [segOf, pickOps, pickOp]
  repeat (go_big_quiet_step (fail))
  refine wpQuiet_nil ?_
  refine mix_run 7 (by kernel_rfl) ?_
  simp only [segOf, pickOps, pickOp]
  go_wp2_with fail
  refine (aNorm_any r _ HN4.out.kr HN4.out.env).mono ?_
  rintro e w5 ⟨y, rfl, hyq, hyk, hb⟩
  have HN5 : Hid (AlF w w5 r) := HN4.out.next hb
  have HYQ := Lib.hid hyq
  have HYK := Lib.hid hyk
  clear hb hyq hyk
  simp only [Rv.v]
  go_wp2_with fail
  refine MixPost.normal HN5.out ?_
  refine mix_run 9 (by kernel_rfl) ?_
  simp only [segOf, pickOps, pickOp]
  go_wp2_with fail
  refine (refNorm8_any r _ HN5.out.kr HN5.out.env).mono ?_
  rintro e w6 ⟨z, rfl, hzq, hzk, hb⟩
  have HN6 : Hid (AlF w w6 r) := HN5.out.next hb
  have HZQ := Lib.hid hzq
  have HZK := Lib.hid hzk
  have HYK2 := Lib.hid (HYK.out.below hb)
  clear hb hzq hzk
  simp only [Rv.v]
  go_wp2_with fail
  refine MixPost.normal HN6.out ?_
  refine mix_run 10 (by kernel_rfl) ?_
  simp only [segOf, pickOps, pickOp]
  go_wp2_with fail
  refine (Req_same y z _ HYK2.out HZK.out (HYQ.out.trans HZQ.out.symm)).mono ?_
  rintro e w7 ⟨rfl, hb⟩
  have HN7 : Hid (AlF w w7 r) := HN6.out.next hb
  clear hb
  go_wp2_with fail
  refine MixPost.normal HN7.out ?_
  refine mix_seg [11, 12, 13, 15] (by kernel_rfl) HN7.out ?_
  simp only [segOf, pickOps, pickOp]
  repeat (go_big_quiet_step (fail))
  refine wpQuiet_nil ?_
  refine mix_run 14 (by kernel_rfl) ?_
  simp only [segOf, pickOps, pickOp]
  go_wp2_with fail
  refine (aCross_any r _ HN7.out.kr HN7.out.env).mono ?_
  rintro e w8 ⟨rfl, hb⟩
  rw [← HCR.out]
  have HN8 : Hid (AlF w w8 r) := HN7.out.next hb
  clear hb
  go_wp2_with fail
  refine MixPost.normal HN8.out ?_
  refine mix_run 16 (by kernel_rfl) ?_
  simp only [segOf, pickOps, pickOp]
  go_wp2_with fail
  refine (refCross8_any r _ HN8.out.kr HN8.out.env).mono ?_
  rintro e w9 ⟨rfl, hb⟩
  rw [← HCR.out]
  have HN9 : Hid (AlF w w9 r) := HN8.out.next hb
  clear hb
  go_wp2_with fail
  refine MixPost.normal HN9.out ?_
  refine mix_seg [17, 18, 19, 20, 22] (by kernel_rfl) HN9.out ?_
  simp only [segOf, pickOps, pickOp]
  repeat (go_big_quiet_step (fail))
  refine wpQuiet_nil ?_
  refine mix_run 21 (by kernel_rfl) ?_
  simp only [segOf, pickOps, pickOp]
  go_wp2_with fail
  refine (aNames_any r _ HN9.out.kr HN9.out.env).mono ?_
  rintro e w10 ⟨v, rfl, hs, hb⟩
  have HN10 : Hid (AlF w w10 r) := HN9.out.next hb
  obtain ⟨N1, n1, c1, rfl, hn1, hp1⟩ := trow_row hs
  have HN1' := Lib.hid hn1
  obtain ⟨wa, hwa⟩ : ∃ W, W = w10 := ⟨_, rfl⟩
  have HPA : Hid (SRow wa wa.heap.size N1 ((namesQ r.q).map mk)) := by rw [hwa]; exact hp1
  have HLW : Hid (Below wa.heap.size wa w10) := by rw [hwa]; exact Below.refl _ _
  clear hb hs hn1 hp1 hwa
  go_wp2_with fail
  refine MixPost.normal HN10.out ?_
  refine mix_run 23 (by kernel_rfl) ?_
  simp only [segOf, pickOps, pickOp]
  go_wp2_with fail
  refine (refNames8_any r _ HN10.out.kr HN10.out.env).mono ?_
  rintro e w11 ⟨v, rfl, hs, hb⟩
  have HN11 : Hid (AlF w w11 r) := HN10.out.next hb
  obtain ⟨N2, n2, c2, rfl, hn2, hp2⟩ := trow_row hs
  have HN2' := Lib.hid hn2
  have HP2 := Lib.hid hp2
  have HLB : Hid (Below wa.heap.size wa w11) := HLW.out.trans (hb.mono HLW.out.size)
  clear hb hs hn2 hp2
  go_wp2_with fail
  refine MixPost.normal HN11.out ?_
  refine mix_run 24 (by kernel_rfl) ?_
  simp only [segOf, pickOps, pickOp]
  go_wp2_with fail
  refine (Texts_same N1 N2 _ _ c1 c2 wa.heap.size w11.heap.size _ _ HN1'.out HN2'.out (texts_len HK.out rfl) (HPA.out.below HLB.out) HP2.out).mono ?_
  rintro e w12 ⟨rfl, nn, hwn⟩
  have hb : Below w11.heap.size w11 w12 := by rw [hwn]; exact below_drewN (Below.refl _ _) _
  have HN12 : Hid (AlF w w12 r) := HN11.out.next hb
  clear hb hwn
  go_wp2_with fail
  refine MixPost.normal HN12.out ?_
  refine mix_seg [25, 26, 27, 29] (by kernel_rfl) HN12.out ?_
  simp only [segOf, pickOps, pickOp]
  repeat (go_big_quiet_step (fail))
  refine wpQuiet_nil ?_
  refine mix_run 28 (by kernel_rfl) ?_
  simp only [segOf, pickOps, pickOp]
  go_wp2_with fail
  refine (aNeeds_any r _ HN12.out.kr HN12.out.env).mono ?_
  rintro e w13 ⟨rfl, hb⟩
  rw [← HNR.out]
  have HN13 : Hid (AlF w w13 r) := HN12.out.next hb
  clear hb
  go_wp2_with fail
  refine MixPost.normal HN13.out ?_
  refine mix_run 30 (by kernel_rfl) ?_
  simp only [segOf, pickOps, pickOp]
  go_wp2_with fail
  refine (refNeeds8_any r _ HN13.out.kr HN13.out.env).mono ?_
  rintro e w14 ⟨rfl, hb⟩
  rw [← HNR.out]
  have HN14 : Hid (AlF w w14 r) := HN13.out.next hb
  clear hb
  go_wp2_with fail
  refine MixPost.normal HN14.out ?_
  refine mix_seg [31, 32, 33, 34, 36] (by kernel_rfl) HN14.out ?_
  simp only [segOf, pickOps, pickOp]
  repeat (go_big_quiet_step (fail))
  refine wpQuiet_nil ?_
  refine mix_run 35 (by kernel_rfl) ?_
  simp only [segOf, pickOps, pickOp]
  go_wp2_with fail
  refine (aKey_any r _ HN14.out.kr HN14.out.env).mono ?_
  rintro e w15 ⟨rfl, hb⟩
  rw [← HKR.out]
  have HN15 : Hid (AlF w w15 r) := HN14.out.next hb
  clear hb
  go_wp2_with fail
  refine MixPost.normal HN15.out ?_
  refine mix_run 37 (by kernel_rfl) ?_
  simp only [segOf, pickOps, pickOp]
  go_wp2_with fail
  refine (refKey8_any r _ HN15.out.kr HN15.out.env).mono ?_
  rintro e w16 ⟨rfl, hb⟩
  rw [← HKR.out]
  have HN16 : Hid (AlF w w16 r) := HN15.out.next hb
  clear hb
  go_wp2_with fail
  refine MixPost.normal HN16.out ?_
  refine mix_seg [38, 39, 40, 41, 43] (by kernel_rfl) HN16.out ?_
  simp only [segOf, pickOps, pickOp]
  repeat (go_big_quiet_step (fail))
  refine wpQuiet_nil ?_
  refine mix_run 42 (by kernel_rfl) ?_
  simp only [segOf, pickOps, pickOp]
  go_wp2_with fail
  refine (aCell_any r _ HN16.out.kr HN16.out.env).mono ?_
  rintro e w17 ⟨rfl, hb⟩
  rw [HCL.out]
  have HN17 : Hid (AlF w w17 r) := HN16.out.next hb
  clear hb
  go_wp2_with fail
  refine MixPost.normal HN17.out ?_
  refine mix_run 44 (by kernel_rfl) ?_
  simp only [segOf, pickOps, pickOp]
  go_wp2_with fail
  refine (refCell8_any r _ HN17.out.kr HN17.out.env).mono ?_
  rintro e w18 ⟨rfl, hb⟩
  rw [HCL.out]
  have HN18 : Hid (AlF w w18 r) := HN17.out.next hb
  clear hb
  go_wp2_with fail
  refine MixPost.normal HN18.out ?_
  refine mix_seg [45, 46, 47, 48, 50] (by kernel_rfl) HN18.out ?_
  simp only [segOf, pickOps, pickOp]
  repeat (go_big_quiet_step (fail))
  refine wpQuiet_nil ?_
  refine mix_run 49 (by kernel_rfl) ?_
  simp only [segOf, pickOps, pickOp]
  go_wp2_with fail
  refine (aWant_any r _ HN18.out.kr HN18.out.env).mono ?_
  rintro e w19 ⟨rfl, hb⟩
  rw [HWV.out]
  have HN19 : Hid (AlF w w19 r) := HN18.out.next hb
  clear hb
  go_wp2_with fail
  refine MixPost.normal HN19.out ?_
  refine mix_run 51 (by kernel_rfl) ?_
  simp only [segOf, pickOps, pickOp]
  go_wp2_with fail
  refine (refWant8_any r _ HN19.out.kr HN19.out.env).mono ?_
  rintro e w20 ⟨rfl, hb⟩
  rw [HWV.out]
  have HN20 : Hid (AlF w w20 r) := HN19.out.next hb
  clear hb
  go_wp2_with fail
  refine MixPost.normal HN20.out ?_
  refine mix_seg [52, 53, 54] (by kernel_rfl) HN20.out ?_
  simp only [segOf, pickOps, pickOp]
  repeat (go_big_quiet_step (fail))
  refine wpQuiet_nil ?_
  refine mix_run 55 (by kernel_rfl) ?_
  simp only [segOf, pickOps, pickOp]
  go_wp2_with fail
  refine (awake8_any _ HN20.out.env).mono ?_
  rintro e w21 ⟨rfl, hb⟩
  have HN21 : Hid (AlF w w21 r) := HN20.out.next hb
  clear hb
  go_wp2_with fail
  refine MixPost.normal HN21.out ?_
  refine mix_seg [56, 57] (by kernel_rfl) HN21.out ?_
  simp only [segOf, pickOps, pickOp]
  repeat (go_big_quiet_step (fail))
  refine wpQuiet_nil ?_
  refine mix_done (by kernel_rfl) ?_
  go_wp2
  go_ret
  exact ⟨rfl, HN21.out.bel⟩
end Go.Proofs.YticedcnmajcgbaaGreatDoor
