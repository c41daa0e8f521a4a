/-
  The contract of the document's own Build of a preflight over this seat's program. Conditions: the request's headers lie where it says and are not too many; the library's variables and the tables of methods are as they are laid.
-/
import Derived.Test.YtlkneapidmdpbaaGreatDoorFBuild
import Derived.Test.YtlkneapidmdpbaaGreatDoorLRef8
import Derived.Deep.Cut
namespace Go.Proofs.YtlkneapidmdpbaaGreatDoor
open Go.RowKit

/-- a request's block, and three cells of its normal form's -/
structure RbF (W : World) (g1 g3 : Nat) (r : Rv) (z : Wq) : Prop where
  r : RqAt W g1 r
  c0 : W.cell? ⟨g3, 0, none⟩ = some (.string (mk z.m))
  c1 : W.cell? ⟨g3, 1, none⟩ = some (.string (mk z.u))
  c2 : W.cell? ⟨g3, 2, none⟩ = some (.string (mk z.o))
theorem RbF.below {W W' : World} {g1 g3 : Nat} {r : Rv} {z : Wq} (o : RbF W g1 g3 r z) (hb : Below W.heap.size W W') : RbF W' g1 g3 r z :=
  ⟨o.r.below hb o.r.lt, (hb.cell (block_of_cell o.c0)).trans o.c0, (hb.cell (block_of_cell o.c1)).trans o.c1, (hb.cell (block_of_cell o.c2)).trans o.c2⟩
def h3F (z : Wq) : List Hd := if z.n = [] then [(accL, anyL), (rmL, z.m)] else [(accL, anyL), (rmL, z.m), (rhL, z.n)]
theorem h3F_hds (z : Wq) : h3F z ++ [(orL, z.o)] = hdsF z := by
  unfold h3F
  by_cases h : z.n = []
  · rw [if_pos h, hdsF_no h]; rfl
  · rw [if_neg h, hdsF_yes h]; rfl
theorem h3F_len (z : Wq) : (h3F z).length ≤ 3 := by unfold h3F; split <;> simp

set_option maxRecDepth 100000 in
set_option maxHeartbeats 4000000 in
theorem rBuild_any (r : Rv) (w : World) (hr : RqOk w r) (he : Env8 w) :
    Calls Tryz.prog 16 #[r.v] w fun e w' => ∃ b : Rv, e = .returned b.v ∧ b.q = buildQ r.q ∧ RqOk w' b ∧ Below w.heap.size w w' := by
  unfold Rv.v
  obtain ⟨W, hW⟩ : ∃ W, W = (w.alloc (Obj.cells #[.string r.m, .string r.u, .string r.o, .int .i64 r.mode, .bool r.cr, .slice r.A r.n r.c, .int .i64 r.cl, .int .u64 r.tm, .int .i64 r.gr, .int .i64 r.sg] 25)).alloc (Obj.cells #[.string ⟨#[]⟩, .string ⟨#[]⟩, .string ⟨#[]⟩, .int .i64 0, .bool false, .slice none 0 0, .int .i64 0, .int .u64 0, .int .i64 0, .int .i64 0] 25) := ⟨_, rfl⟩
  have HP0 : Hid (NmAt w W r) := by rw [hW]; exact NmAt.new he _ _
  have HK := Lib.hid hr
  clear hr he
  go_enter Tryz.func16, Tryz.ntmps16
  go_wp2_with fail
  rw [← hW]
  clear hW
  refine (refNeeds8_any r _ (HK.out.below HP0.out.bel) HP0.out.env).mono ?_
  rintro e w1 ⟨rfl, hb⟩
  have HP1 : Hid (NmAt w w1 r) := HP0.out.next hb
  clear hb
  obtain ⟨nd, hnd⟩ : ∃ b, b = needsQ r.q := ⟨_, rfl⟩
  rw [← hnd]
  have HND := Lib.hid hnd
  clear hnd
  cases nd
  case false =>
    obtain ⟨c0, c1, c2, c3, c4, c5, c6, c7, c8, c9⟩ := HP1.out.res
    have ff := HP1.out.own
    unfold OwnB at ff
    go_wp2
    obtain ⟨q0, q1, q2, q3, q4, q5, q6, q7, q8, q9⟩ := HP1.out.res.put_at Rv.zero
    dsimp only [RqAt.put, Rv.zero] at q0 q1 q2 q3 q4 q5 q6 q7 q8 q9
    refine bodyPost_ret (v := .agg #[.string ⟨#[]⟩, .string ⟨#[]⟩, .string ⟨#[]⟩, .int .i64 0, .bool false, .slice none 0 0, .int .i64 0, .int .u64 0, .int .i64 0, .int .i64 0]) (by simp [results, Tryz.results16, go_sem, q0, q1, q2, q3, q4, q5, q6, q7, q8, q9]) rfl ?_
    exact ⟨Rv.zero, rfl, by rw [build_no HND.out.symm]; rfl, RqOk.zero _, RqAt.put_below HP1.out.bel (Nat.le_succ _) Rv.zero⟩
  case true =>
  obtain ⟨r0, r1, r2, r3, r4, r5, r6, r7, r8, r9⟩ := HP1.out.req
  go_wp2_with fail
  clear r0 r1 r2 r3 r4 r5 r6 r7 r8 r9
  refine (refNorm8_any r _ (HK.out.below HP1.out.bel) HP1.out.env).mono ?_
  rintro e w2 ⟨y, rfl, hyq, _, hb⟩
  have HP2 : Hid (NmAt w w2 r) := HP1.out.next hb
  have HNB := Lib.hid (build_yes HND.out.symm)
  have HOK := Lib.hid (needs_ok HND.out.symm)
  have HSM := Lib.hid (sm_hdsF HOK.out)
  have HSZ : Hid ((mk (wantQ r.q).u).size ≤ maxLen ∧ (mk (wantQ r.q).o).size ≤ maxLen) := by
    have h1 : ((wantQ r.q).u).length ≤ 512 := by rw [want_0 HOK.out]; show (normQ r.q).u.length ≤ 512; rw [norm_is HOK.out]; exact ushow_len _
    have h2 := (want_o_vis HOK.out).2.1
    rw [mk_size, mk_size]
    unfold maxLen
    exact ⟨by omega, by omega⟩
  have hym : y.m = mk (wantQ r.q).m := by rw [← mk_eq y.m]; exact congrArg mk ((congrArg Rq.m hyq).trans (by rw [want_0 HOK.out]))
  have hyu : y.u = mk (wantQ r.q).u := by rw [← mk_eq y.u]; exact congrArg mk ((congrArg Rq.u hyq).trans (by rw [want_0 HOK.out]))
  have hyo : y.o = mk (wantQ r.q).o := by rw [← mk_eq y.o]; exact congrArg mk ((congrArg Rq.o hyq).trans (by rw [want_0 HOK.out]))
  clear hb hyq
  have HPQ : Hid (preQ r.q = ⟨optL, (wantQ r.q).u, (wantQ r.q).o, 3, false, hdsF (wantQ r.q), r.cl, r.tm, r.gr, r.sg⟩) := rfl
  have HNM : Hid ((wantQ r.q).n = comL (namesQ r.q)) := want_nq HOK.out
  have HNE : Hid ((wantQ r.q).n = [] ↔ namesQ r.q = []) := want_n HOK.out
  obtain ⟨z, hz⟩ : ∃ z, z = wantQ r.q := ⟨_, rfl⟩
  rw [← hz] at HSM HSZ HPQ HNM HNE hym hyu hyo
  clear hz
  obtain ⟨w3, hw3⟩ : ∃ W, W = w2.alloc (Obj.cells #[.string y.m, .string y.u, .string y.o, .int .i64 y.mode, .bool y.cr, .slice y.A y.n y.c, .int .i64 y.cl, .int .u64 y.tm, .int .i64 y.gr, .int .i64 y.sg] 25) := ⟨_, rfl⟩
  obtain ⟨g3, hg3⟩ : ∃ g, g = w2.heap.size := ⟨_, rfl⟩
  have hb3 : Below w2.heap.size w2 w3 := by rw [hw3]; exact (Below.refl _ _).alloc (Nat.le_refl _) _
  have hy3 : RqAt w3 g3 y := by rw [hw3, hg3]; exact RqAt.new w2 y _
  have HP3 : Hid (NmAt w w3 r) := HP2.out.next hb3
  have HB3 : Hid (RbF w3 w.heap.size g3 r z) := ⟨HP3.out.req, by rw [← hym]; exact hy3.c0, by rw [← hyu]; exact hy3.c1, by rw [← hyo]; exact hy3.c2⟩
  clear hb3 hy3 hym hyu hyo
  simp only [Rv.v]
  go_upto_region 4 with fail
  rw [← hw3, ← hg3]
  clear hw3 hg3 HP2 HP1 HP0
  obtain ⟨W4, hW4⟩ : ∃ W1, W1 = w3.alloc (Obj.cells #[.string ⟨#[97, 99, 99, 101, 112, 116]⟩, .string ⟨#[42, 47, 42]⟩, .string rmT, .string (mk z.m)] 57) := ⟨_, rfl⟩
  obtain ⟨g4, hg4⟩ : ∃ g, g = w3.heap.size := ⟨_, rfl⟩
  have HB4 : Hid (Below w3.heap.size w3 W4) := by show Below _ _ _; rw [hW4]; exact (Below.refl _ _).alloc (Nat.le_refl _) _
  have HR4 : Hid (HdRow W4 w3.heap.size (.slice (some ⟨g4, 0, none⟩) 2 2) [(accL, anyL), (rmL, z.m)]) := by show HdRow _ _ _ _; rw [hW4, hg4]; exact head_two w3 z.m _ (Nat.le_refl _) _ rfl
  have z0 := HB3.out.c0
  go_upto_region 5 with fail
  rw [← hW4, ← hg4]
  clear hW4 hg4 z0
  obtain ⟨r0, r1, r2, r3, r4, r5, r6, r7, r8, r9⟩ := (HP3.out.next HB4.out).req
  go_wp2_with fail
  clear r0 r1 r2 r3 r4 r5 r6 r7 r8 r9
  refine (refNames8_any r _ (HK.out.below (HP3.out.next HB4.out).bel) (HP3.out.next HB4.out).env).mono ?_
  rintro e w5 ⟨v5, rfl, hs, hb⟩
  obtain ⟨A5, c5, rfl, _, hs5⟩ := trow_of hs
  have HS5 := Lib.hid hs5
  have HR5 := Lib.hid (HR4.out.below hb)
  have HB5 : Hid (Below w3.heap.size w3 w5) := HB4.out.trans (hb.mono HB4.out.size)
  obtain ⟨nn, hnn⟩ : ∃ n, n = (namesQ r.q).length := ⟨_, rfl⟩
  rw [← hnn]
  have HNN := Lib.hid hnn
  have HNC : Hid ((∀ x ∈ namesQ r.q, x.length ≤ 100000) ∧ (namesQ r.q).length ≤ 1000) := namesQ_small HK.out
  clear hs hb hs5 hnn HR4 HB4
  go_upto_if 21 with fail
  go_cut [4] from 19 to 28 (fun s4 W => HdRow W w3.heap.size s4 (h3F z) ∧ Below w3.heap.size w3 W)
  case first =>
    by_cases hp : 0 < nn
    · have hdp : decide ((0 : Int) < (nn : Int)) = true := decide_eq_true (by omega)
      have HZN : Hid (¬ z.n = []) := by
        show ¬ _
        rw [HNE.out]
        intro e
        have := HNN.out
        rw [e] at this
        simp at this
        omega
      go_wp2_with fail
      refine (refCommas_own A5 nn c5 (namesQ r.q) w5 (mk z.n) (by rw [List.length_map]; exact HNN.out) HS5.out HNC.out (by rw [HNM.out])).mono ?_
      rintro e w6 ⟨rfl, hb⟩
      have HR6 := Lib.hid (HR5.out.below hb)
      have HB6 : Hid (Below w3.heap.size w3 w6) := HB5.out.trans (hb.mono HB5.out.size)
      obtain ⟨W7, hW7⟩ : ∃ W, W = w6.alloc (Obj.cells #[.string rhT, .string (mk z.n)] 57) := ⟨_, rfl⟩
      have hb7 : Below w6.heap.size w6 W7 := by rw [hW7]; exact (Below.refl _ _).alloc (Nat.le_refl _) _
      obtain ⟨g7, hg7⟩ : ∃ g, g = w6.heap.size := ⟨_, rfl⟩
      have HN7 : Hid (PRow W7 (g7 + 1) (some ⟨g7, 0, none⟩) [(rhT, mk z.n)]) := by show PRow _ _ _ _; rw [hW7, hg7]; exact PRow.one_at _ _ _ _ _ rfl
      have HB7 : Hid (Below w3.heap.size w3 W7) := HB6.out.trans (hb7.mono HB6.out.size)
      have HR7 : Hid (HdRow W7 w3.heap.size (.slice (some ⟨g4, 0, none⟩) 2 2) [(accL, anyL), (rmL, z.m)]) := HR6.out.below hb7
      clear hb hb7 hdp
      go_wp2_with (at_builtin; rw [← hW7, ← hg7]; refine wpList_append_heads rfl (.tmp 22) (.tmp 26) rfl w3.heap.size (.slice (some ⟨g4, 0, none⟩) 2 2) [(accL, anyL), (rmL, z.m)] rfl HR7.out (some ⟨g7, 0, none⟩) 1 (g7 + 1) [(rhT, mk z.n)] rfl HN7.out (by intro h; cases h) (by simp) HB7.out.size ?_)
      intro v8 w8 hr8 hg8
      rw [← hW7] at hg8
      clear hW7 hg7
      have HB8 : Hid (Below w3.heap.size w3 w8) := HB7.out.grown hg8 HB7.out.size (fun j hj => (World.ownsRow.lt HR7.out j hj).1)
      have HR8 : Hid (HdRow w8 w3.heap.size v8 (h3F z)) := by
        show HdRow _ _ _ _
        unfold h3F
        rw [if_neg HZN.out]
        simp only [hd, mk_data] at hr8
        exact hr8
      clear hr8 hg8
      go_wp2_with fail
      go_meet
      exact ⟨HR8.out, HB8.out⟩
    · have hdp : decide ((0 : Int) < (nn : Int)) = false := decide_eq_false (by omega)
      have HZN : Hid (z.n = []) := by
        show _ = _
        rw [HNE.out]
        exact List.eq_nil_of_length_eq_zero (by have := HNN.out; omega)
      go_wp2_with fail
      go_meet
      exact ⟨by unfold h3F; rw [if_pos HZN.out]; exact HR5.out, HB5.out⟩
  case rest =>
  obtain ⟨hr, hb⟩ := hcut
  have HRc := Lib.hid hr
  have HBc := Lib.hid hb
  clear hr hb HR5 HB5 HS5
  obtain ⟨A6, n6, c6, ys6, e6, hn6, hy6, hc6, hp6⟩ := HRc.out.row
  subst e6
  clear hn6 hy6 hc6 hp6
  obtain ⟨W7, hW7⟩ : ∃ W, W = wc.alloc (Obj.cells #[.string ⟨#[111, 114, 105, 103, 105, 110]⟩, .string (mk z.o)] 57) := ⟨_, rfl⟩
  have hb7 : Below wc.heap.size wc W7 := by rw [hW7]; exact (Below.refl _ _).alloc (Nat.le_refl _) _
  obtain ⟨g7, hg7⟩ : ∃ g, g = wc.heap.size := ⟨_, rfl⟩
  have HN7 : Hid (PRow W7 (g7 + 1) (some ⟨g7, 0, none⟩) [(⟨#[111, 114, 105, 103, 105, 110]⟩, mk z.o)]) := by show PRow _ _ _ _; rw [hW7, hg7]; exact PRow.one_at _ _ _ _ _ rfl
  have HB7 : Hid (Below w3.heap.size w3 W7) := HBc.out.trans (hb7.mono HBc.out.size)
  have HR7 : Hid (HdRow W7 w3.heap.size (.slice A6 n6 c6) (h3F z)) := HRc.out.below hb7
  have z2 := (HB3.out.below HBc.out).c2
  clear hb7
  go_wp2_with (at_builtin; rw [← hW7, ← hg7]; refine wpList_append_heads rfl (.tmp 28) (.tmp 32) rfl w3.heap.size (.slice A6 n6 c6) (h3F z) rfl HR7.out (some ⟨g7, 0, none⟩) 1 (g7 + 1) [(⟨#[111, 114, 105, 103, 105, 110]⟩, mk z.o)] rfl HN7.out (by intro h; cases h) (by have := h3F_len z; simp; omega) HB7.out.size ?_)
  intro v8 w8 hr8 hg8
  rw [← hW7] at hg8
  clear hW7 hg7 z2
  have HB8 : Hid (Below w3.heap.size w3 w8) := HB7.out.grown hg8 HB7.out.size (fun j hj => (World.ownsRow.lt HR7.out j hj).1)
  have HR8 : Hid (HdRow w8 w3.heap.size v8 (hdsF z)) := by
    show HdRow _ _ _ _
    rw [← h3F_hds]
    simp only [hd, mk_data] at hr8
    exact hr8
  clear hr8 hg8
  have HP8 : Hid (NmAt w w8 r) := HP3.out.next HB8.out
  have HZ8 : Hid (w.heap.size + 1 < w3.heap.size) := HP3.out.res.lt
  obtain ⟨N, n8, c8, ys, rfl, hnn, hys, _, _⟩ := HR8.out.row
  have HNY := Lib.hid hnn
  have HYS := Lib.hid hys
  clear hnn hys
  obtain ⟨r0, r1, r2, r3, r4, r5, r6, r7, r8, r9⟩ := HP8.out.req
  obtain ⟨_, z0, z1, z2⟩ := HB3.out.below HB8.out
  obtain ⟨c0, c1, c2, c3, c4, c5, c6, c7, c8', c9⟩ := HP8.out.res
  have ff := HP8.out.own
  unfold OwnB at ff
  go_wp2
  obtain ⟨q0, q1, q2, q3, q4, q5, q6, q7, q8, q9⟩ := HP8.out.res.put_at ⟨optT, mk z.u, mk z.o, 3, false, N, n8, c8, ys, r.cl, r.tm, r.gr, r.sg⟩
  dsimp only [RqAt.put] at q0 q1 q2 q3 q4 q5 q6 q7 q8 q9
  have HZR := Lib.hid (own_rq HR8.out HZ8.out ⟨optT, mk z.u, mk z.o, 3, false, N, n8, c8, ys, r.cl, r.tm, r.gr, r.sg⟩)
  refine bodyPost_ret (v := .agg #[.string optT, .string (mk z.u), .string (mk z.o), .int .i64 3, .bool false, .slice N n8 c8, .int .i64 r.cl, .int .u64 r.tm, .int .i64 r.gr, .int .i64 r.sg]) (by simp [results, Tryz.results16, go_sem, q0, q1, q2, q3, q4, q5, q6, q7, q8, q9]) rfl ?_
  obtain ⟨A', n', c', ys', e', hn', hy', _, hp'⟩ := HdRow.row HZR.out
  injection e' with eA en ec
  have ey : ys' = ys := row_alike (hy'.trans HYS.out.symm)
  subst eA en ec ey
  refine ⟨⟨optT, mk z.u, mk z.o, 3, false, N, n8, c8, ys', r.cl, r.tm, r.gr, r.sg⟩, rfl, ?_, ⟨hp', HNY.out, ?_, opt_size, HSZ.out.1, HSZ.out.2⟩, RqAt.put_below HP8.out.bel (Nat.le_succ _) ⟨optT, mk z.u, mk z.o, 3, false, N, n8, c8, ys', r.cl, r.tm, r.gr, r.sg⟩⟩
  · rw [HNB.out, HPQ.out]
    show (⟨_, (mk z.u).data.toList, (mk z.o).data.toList, _, _, ys'.map hd, _, _, _, _⟩ : Rq) = _
    rw [mk_data, mk_data, HYS.out]
    rfl
  · show Sm (ys'.map hd)
    rw [HYS.out]
    exact HSM.out
end Go.Proofs.YtlkneapidmdpbaaGreatDoor
