/-
  Contracts of the document's own answer of layer 17 over this seat's program. Conditions: those of each statement.
-/
import Derived.Test.YtlkneapidmdpbaaGreatDoorFBuild
import Derived.Test.YtlkneapidmdpbaaGreatDoorLRef8
import Derived.Deep.Cut
import Derived.Test.YtlkneapidmdpbaaGreatDoorFJudge
import Derived.Test.YtlkneapidmdpbaaGreatDoorLRef14
import Derived.Test.YtlkneapidmdpbaaGreatDoorLRef15
import Derived.Test.YtlkneapidmdpbaaGreatDoorFGrants
namespace Go.Proofs.YtlkneapidmdpbaaGreatDoor
open Go.RowKit

/-- a request's block, and three cells of its normal form's -/
structure RbF (W : World) (g1 g3 : Nat) (r : Rv) (z : Wq) : Prop where
  r : RqAt W g1 r
  c0 : W.cell? ⟨g3, 0, none⟩ = some (.string (mk z.m))
  c1 : W.cell? ⟨g3, 1, none⟩ = some (.string (mk z.u))
  c2 : W.cell? ⟨g3, 2, none⟩ = some (.string (mk z.o))
theorem RbF.below {W W' : World} {g1 g3 : Nat} {r : Rv} {z : Wq} (o : RbF W g1 g3 r z) (hb : Below W.heap.size W W') : RbF W' g1 g3 r z :=
  ⟨o.r.below hb o.r.lt, (hb.cell (block_of_cell o.c0)).trans o.c0, (hb.cell (block_of_cell o.c1)).trans o.c1, (hb.cell (block_of_cell o.c2)).trans o.c2⟩
def h3F (z : Wq) : List Hd := if z.n = [] then [(accL, anyL), (rmL, z.m)] else [(accL, anyL), (rmL, z.m), (rhL, z.n)]
theorem h3F_hds (z : Wq) : h3F z ++ [(orL, z.o)] = hdsF z := by
  unfold h3F
  by_cases h : z.n = []
  · rw [if_pos h, hdsF_no h]; rfl
  · rw [if_neg h, hdsF_yes h]; rfl
theorem h3F_len (z : Wq) : (h3F z).length ≤ 3 := by unfold h3F; split <;> simp

set_option maxRecDepth 100000 in
set_option maxHeartbeats 4000000 in
theorem rBuild_any (r : Rv) (w : World) (hr : RqOk w r) (he : Env8 w) :
    Calls Tryz.prog 16 #[r.v] w fun e w' => ∃ b : Rv, e = .returned b.v ∧ b.q = buildQ r.q ∧ RqOk w' b ∧ Below w.heap.size w w' := by
  unfold Rv.v
  obtain ⟨W, hW⟩ : ∃ W, W = (w.alloc (Obj.cells #[.string r.m, .string r.u, .string r.o, .int .i64 r.mode, .bool r.cr, .slice r.A r.n r.c, .int .i64 r.cl, .int .u64 r.tm, .int .i64 r.gr, .int .i64 r.sg] 25)).alloc (Obj.cells #[.string ⟨#[]⟩, .string ⟨#[]⟩, .string ⟨#[]⟩, .int .i64 0, .bool false, .slice none 0 0, .int .i64 0, .int .u64 0, .int .i64 0, .int .i64 0] 25) := ⟨_, rfl⟩
  have HP0 : Hid (NmAt w W r) := by rw [hW]; exact NmAt.new he _ _
  have HK := Lib.hid hr
  clear hr he
  go_enter Tryz.func16, Tryz.ntmps16
  go_wp2_with fail
  rw [← hW]
  clear hW
  refine (refNeeds8_any r _ (HK.out.below HP0.out.bel) HP0.out.env).mono ?_
  rintro e w1 ⟨rfl, hb⟩
  have HP1 : Hid (NmAt w w1 r) := HP0.out.next hb
  clear hb
  obtain ⟨nd, hnd⟩ : ∃ b, b = needsQ r.q := ⟨_, rfl⟩
  rw [← hnd]
  have HND := Lib.hid hnd
  clear hnd
  cases nd
  case false =>
    obtain ⟨c0, c1, c2, c3, c4, c5, c6, c7, c8, c9⟩ := HP1.out.res
    have ff := HP1.out.own
    unfold OwnB at ff
    go_wp2
    obtain ⟨q0, q1, q2, q3, q4, q5, q6, q7, q8, q9⟩ := HP1.out.res.put_at Rv.zero
    dsimp only [RqAt.put, Rv.zero] at q0 q1 q2 q3 q4 q5 q6 q7 q8 q9
    refine bodyPost_ret (v := .agg #[.string ⟨#[]⟩, .string ⟨#[]⟩, .string ⟨#[]⟩, .int .i64 0, .bool false, .slice none 0 0, .int .i64 0, .int .u64 0, .int .i64 0, .int .i64 0]) (by simp [results, Tryz.results16, go_sem, q0, q1, q2, q3, q4, q5, q6, q7, q8, q9]) rfl ?_
    exact ⟨Rv.zero, rfl, by rw [build_no HND.out.symm]; rfl, RqOk.zero _, RqAt.put_below HP1.out.bel (Nat.le_succ _) Rv.zero⟩
  case true =>
  obtain ⟨r0, r1, r2, r3, r4, r5, r6, r7, r8, r9⟩ := HP1.out.req
  go_wp2_with fail
  clear r0 r1 r2 r3 r4 r5 r6 r7 r8 r9
  refine (refNorm8_any r _ (HK.out.below HP1.out.bel) HP1.out.env).mono ?_
  rintro e w2 ⟨y, rfl, hyq, _, hb⟩
  have HP2 : Hid (NmAt w w2 r) := HP1.out.next hb
  have HNB := Lib.hid (build_yes HND.out.symm)
  have HOK := Lib.hid (needs_ok HND.out.symm)
  have HSM := Lib.hid (sm_hdsF HOK.out)
  have HSZ : Hid ((mk (wantQ r.q).u).size ≤ maxLen ∧ (mk (wantQ r.q).o).size ≤ maxLen) := by
    have h1 : ((wantQ r.q).u).length ≤ 512 := by rw [want_0 HOK.out]; show (normQ r.q).u.length ≤ 512; rw [norm_is HOK.out]; exact ushow_len _
    have h2 := (want_o_vis HOK.out).2.1
    rw [mk_size, mk_size]
    unfold maxLen
    exact ⟨by omega, by omega⟩
  have hym : y.m = mk (wantQ r.q).m := by rw [← mk_eq y.m]; exact congrArg mk ((congrArg Rq.m hyq).trans (by rw [want_0 HOK.out]))
  have hyu : y.u = mk (wantQ r.q).u := by rw [← mk_eq y.u]; exact congrArg mk ((congrArg Rq.u hyq).trans (by rw [want_0 HOK.out]))
  have hyo : y.o = mk (wantQ r.q).o := by rw [← mk_eq y.o]; exact congrArg mk ((congrArg Rq.o hyq).trans (by rw [want_0 HOK.out]))
  clear hb hyq
  have HPQ : Hid (preQ r.q = ⟨optL, (wantQ r.q).u, (wantQ r.q).o, 3, false, hdsF (wantQ r.q), r.cl, r.tm, r.gr, r.sg⟩) := rfl
  have HNM : Hid ((wantQ r.q).n = comL (namesQ r.q)) := want_nq HOK.out
  have HNE : Hid ((wantQ r.q).n = [] ↔ namesQ r.q = []) := want_n HOK.out
  obtain ⟨z, hz⟩ : ∃ z, z = wantQ r.q := ⟨_, rfl⟩
  rw [← hz] at HSM HSZ HPQ HNM HNE hym hyu hyo
  clear hz
  obtain ⟨w3, hw3⟩ : ∃ W, W = w2.alloc (Obj.cells #[.string y.m, .string y.u, .string y.o, .int .i64 y.mode, .bool y.cr, .slice y.A y.n y.c, .int .i64 y.cl, .int .u64 y.tm, .int .i64 y.gr, .int .i64 y.sg] 25) := ⟨_, rfl⟩
  obtain ⟨g3, hg3⟩ : ∃ g, g = w2.heap.size := ⟨_, rfl⟩
  have hb3 : Below w2.heap.size w2 w3 := by rw [hw3]; exact (Below.refl _ _).alloc (Nat.le_refl _) _
  have hy3 : RqAt w3 g3 y := by rw [hw3, hg3]; exact RqAt.new w2 y _
  have HP3 : Hid (NmAt w w3 r) := HP2.out.next hb3
  have HB3 : Hid (RbF w3 w.heap.size g3 r z) := ⟨HP3.out.req, by rw [← hym]; exact hy3.c0, by rw [← hyu]; exact hy3.c1, by rw [← hyo]; exact hy3.c2⟩
  clear hb3 hy3 hym hyu hyo
  simp only [Rv.v]
  go_upto_region 4 with fail
  rw [← hw3, ← hg3]
  clear hw3 hg3 HP2 HP1 HP0
  obtain ⟨W4, hW4⟩ : ∃ W1, W1 = w3.alloc (Obj.cells #[.string ⟨#[97, 99, 99, 101, 112, 116]⟩, .string ⟨#[42, 47, 42]⟩, .string rmT, .string (mk z.m)] 57) := ⟨_, rfl⟩
  obtain ⟨g4, hg4⟩ : ∃ g, g = w3.heap.size := ⟨_, rfl⟩
  have HB4 : Hid (Below w3.heap.size w3 W4) := by show Below _ _ _; rw [hW4]; exact (Below.refl _ _).alloc (Nat.le_refl _) _
  have HR4 : Hid (HdRow W4 w3.heap.size (.slice (some ⟨g4, 0, none⟩) 2 2) [(accL, anyL), (rmL, z.m)]) := by show HdRow _ _ _ _; rw [hW4, hg4]; exact head_two w3 z.m _ (Nat.le_refl _) _ rfl
  have z0 := HB3.out.c0
  go_upto_region 5 with fail
  rw [← hW4, ← hg4]
  clear hW4 hg4 z0
  obtain ⟨r0, r1, r2, r3, r4, r5, r6, r7, r8, r9⟩ := (HP3.out.next HB4.out).req
  go_wp2_with fail
  clear r0 r1 r2 r3 r4 r5 r6 r7 r8 r9
  refine (refNames8_any r _ (HK.out.below (HP3.out.next HB4.out).bel) (HP3.out.next HB4.out).env).mono ?_
  rintro e w5 ⟨v5, rfl, hs, hb⟩
  obtain ⟨A5, c5, rfl, _, hs5⟩ := trow_of hs
  have HS5 := Lib.hid hs5
  have HR5 := Lib.hid (HR4.out.below hb)
  have HB5 : Hid (Below w3.heap.size w3 w5) := HB4.out.trans (hb.mono HB4.out.size)
  obtain ⟨nn, hnn⟩ : ∃ n, n = (namesQ r.q).length := ⟨_, rfl⟩
  rw [← hnn]
  have HNN := Lib.hid hnn
  have HNC : Hid ((∀ x ∈ namesQ r.q, x.length ≤ 100000) ∧ (namesQ r.q).length ≤ 1000) := namesQ_small HK.out
  clear hs hb hs5 hnn HR4 HB4
  go_upto_if 21 with fail
  go_cut [4] from 19 to 28 (fun s4 W => HdRow W w3.heap.size s4 (h3F z) ∧ Below w3.heap.size w3 W)
  case first =>
    by_cases hp : 0 < nn
    · have hdp : decide ((0 : Int) < (nn : Int)) = true := decide_eq_true (by omega)
      have HZN : Hid (¬ z.n = []) := by
        show ¬ _
        rw [HNE.out]
        intro e
        have := HNN.out
        rw [e] at this
        simp at this
        omega
      go_wp2_with fail
      refine (refCommas_own A5 nn c5 (namesQ r.q) w5 (mk z.n) (by rw [List.length_map]; exact HNN.out) HS5.out HNC.out (by rw [HNM.out])).mono ?_
      rintro e w6 ⟨rfl, hb⟩
      have HR6 := Lib.hid (HR5.out.below hb)
      have HB6 : Hid (Below w3.heap.size w3 w6) := HB5.out.trans (hb.mono HB5.out.size)
      obtain ⟨W7, hW7⟩ : ∃ W, W = w6.alloc (Obj.cells #[.string rhT, .string (mk z.n)] 57) := ⟨_, rfl⟩
      have hb7 : Below w6.heap.size w6 W7 := by rw [hW7]; exact (Below.refl _ _).alloc (Nat.le_refl _) _
      obtain ⟨g7, hg7⟩ : ∃ g, g = w6.heap.size := ⟨_, rfl⟩
      have HN7 : Hid (PRow W7 (g7 + 1) (some ⟨g7, 0, none⟩) [(rhT, mk z.n)]) := by show PRow _ _ _ _; rw [hW7, hg7]; exact PRow.one_at _ _ _ _ _ rfl
      have HB7 : Hid (Below w3.heap.size w3 W7) := HB6.out.trans (hb7.mono HB6.out.size)
      have HR7 : Hid (HdRow W7 w3.heap.size (.slice (some ⟨g4, 0, none⟩) 2 2) [(accL, anyL), (rmL, z.m)]) := HR6.out.below hb7
      clear hb hb7 hdp
      go_wp2_with (at_builtin; rw [← hW7, ← hg7]; refine wpList_append_heads rfl (.tmp 22) (.tmp 26) rfl w3.heap.size (.slice (some ⟨g4, 0, none⟩) 2 2) [(accL, anyL), (rmL, z.m)] rfl HR7.out (some ⟨g7, 0, none⟩) 1 (g7 + 1) [(rhT, mk z.n)] rfl HN7.out (by intro h; cases h) (by simp) HB7.out.size ?_)
      intro v8 w8 hr8 hg8
      rw [← hW7] at hg8
      clear hW7 hg7
      have HB8 : Hid (Below w3.heap.size w3 w8) := HB7.out.grown hg8 HB7.out.size (fun j hj => (World.ownsRow.lt HR7.out j hj).1)
      have HR8 : Hid (HdRow w8 w3.heap.size v8 (h3F z)) := by
        show HdRow _ _ _ _
        unfold h3F
        rw [if_neg HZN.out]
        simp only [hd, mk_data] at hr8
        exact hr8
      clear hr8 hg8
      go_wp2_with fail
      go_meet
      exact ⟨HR8.out, HB8.out⟩
    · have hdp : decide ((0 : Int) < (nn : Int)) = false := decide_eq_false (by omega)
      have HZN : Hid (z.n = []) := by
        show _ = _
        rw [HNE.out]
        exact List.eq_nil_of_length_eq_zero (by have := HNN.out; omega)
      go_wp2_with fail
      go_meet
      exact ⟨by unfold h3F; rw [if_pos HZN.out]; exact HR5.out, HB5.out⟩
  case rest =>
  obtain ⟨hr, hb⟩ := hcut
  have HRc := Lib.hid hr
  have HBc := Lib.hid hb
  clear hr hb HR5 HB5 HS5
  obtain ⟨A6, n6, c6, ys6, e6, hn6, hy6, hc6, hp6⟩ := HRc.out.row
  subst e6
  clear hn6 hy6 hc6 hp6
  obtain ⟨W7, hW7⟩ : ∃ W, W = wc.alloc (Obj.cells #[.string ⟨#[111, 114, 105, 103, 105, 110]⟩, .string (mk z.o)] 57) := ⟨_, rfl⟩
  have hb7 : Below wc.heap.size wc W7 := by rw [hW7]; exact (Below.refl _ _).alloc (Nat.le_refl _) _
  obtain ⟨g7, hg7⟩ : ∃ g, g = wc.heap.size := ⟨_, rfl⟩
  have HN7 : Hid (PRow W7 (g7 + 1) (some ⟨g7, 0, none⟩) [(⟨#[111, 114, 105, 103, 105, 110]⟩, mk z.o)]) := by show PRow _ _ _ _; rw [hW7, hg7]; exact PRow.one_at _ _ _ _ _ rfl
  have HB7 : Hid (Below w3.heap.size w3 W7) := HBc.out.trans (hb7.mono HBc.out.size)
  have HR7 : Hid (HdRow W7 w3.heap.size (.slice A6 n6 c6) (h3F z)) := HRc.out.below hb7
  have z2 := (HB3.out.below HBc.out).c2
  clear hb7
  go_wp2_with (at_builtin; rw [← hW7, ← hg7]; refine wpList_append_heads rfl (.tmp 28) (.tmp 32) rfl w3.heap.size (.slice A6 n6 c6) (h3F z) rfl HR7.out (some ⟨g7, 0, none⟩) 1 (g7 + 1) [(⟨#[111, 114, 105, 103, 105, 110]⟩, mk z.o)] rfl HN7.out (by intro h; cases h) (by have := h3F_len z; simp; omega) HB7.out.size ?_)
  intro v8 w8 hr8 hg8
  rw [← hW7] at hg8
  clear hW7 hg7 z2
  have HB8 : Hid (Below w3.heap.size w3 w8) := HB7.out.grown hg8 HB7.out.size (fun j hj => (World.ownsRow.lt HR7.out j hj).1)
  have HR8 : Hid (HdRow w8 w3.heap.size v8 (hdsF z)) := by
    show HdRow _ _ _ _
    rw [← h3F_hds]
    simp only [hd, mk_data] at hr8
    exact hr8
  clear hr8 hg8
  have HP8 : Hid (NmAt w w8 r) := HP3.out.next HB8.out
  have HZ8 : Hid (w.heap.size + 1 < w3.heap.size) := HP3.out.res.lt
  obtain ⟨N, n8, c8, ys, rfl, hnn, hys, _, _⟩ := HR8.out.row
  have HNY := Lib.hid hnn
  have HYS := Lib.hid hys
  clear hnn hys
  obtain ⟨r0, r1, r2, r3, r4, r5, r6, r7, r8, r9⟩ := HP8.out.req
  obtain ⟨_, z0, z1, z2⟩ := HB3.out.below HB8.out
  obtain ⟨c0, c1, c2, c3, c4, c5, c6, c7, c8', c9⟩ := HP8.out.res
  have ff := HP8.out.own
  unfold OwnB at ff
  go_wp2
  obtain ⟨q0, q1, q2, q3, q4, q5, q6, q7, q8, q9⟩ := HP8.out.res.put_at ⟨optT, mk z.u, mk z.o, 3, false, N, n8, c8, ys, r.cl, r.tm, r.gr, r.sg⟩
  dsimp only [RqAt.put] at q0 q1 q2 q3 q4 q5 q6 q7 q8 q9
  have HZR := Lib.hid (own_rq HR8.out HZ8.out ⟨optT, mk z.u, mk z.o, 3, false, N, n8, c8, ys, r.cl, r.tm, r.gr, r.sg⟩)
  refine bodyPost_ret (v := .agg #[.string optT, .string (mk z.u), .string (mk z.o), .int .i64 3, .bool false, .slice N n8 c8, .int .i64 r.cl, .int .u64 r.tm, .int .i64 r.gr, .int .i64 r.sg]) (by simp [results, Tryz.results16, go_sem, q0, q1, q2, q3, q4, q5, q6, q7, q8, q9]) rfl ?_
  obtain ⟨A', n', c', ys', e', hn', hy', _, hp'⟩ := HdRow.row HZR.out
  injection e' with eA en ec
  have ey : ys' = ys := row_alike (hy'.trans HYS.out.symm)
  subst eA en ec ey
  refine ⟨⟨optT, mk z.u, mk z.o, 3, false, N, n8, c8, ys', r.cl, r.tm, r.gr, r.sg⟩, rfl, ?_, ⟨hp', HNY.out, ?_, opt_size, HSZ.out.1, HSZ.out.2⟩, RqAt.put_below HP8.out.bel (Nat.le_succ _) ⟨optT, mk z.u, mk z.o, 3, false, N, n8, c8, ys', r.cl, r.tm, r.gr, r.sg⟩⟩
  · rw [HNB.out, HPQ.out]
    show (⟨_, (mk z.u).data.toList, (mk z.o).data.toList, _, _, ys'.map hd, _, _, _, _⟩ : Rq) = _
    rw [mk_data, mk_data, HYS.out]
    rfl
  · show Sm (ys'.map hd)
    rw [HYS.out]
    exact HSM.out
end Go.Proofs.YtlkneapidmdpbaaGreatDoor

namespace Go.Proofs.YtlkneapidmdpbaaGreatDoor
open Go.RowKit

/-- two cells of a request's normal form -/
structure NcF (W : World) (g : Nat) (z : Wq) : Prop where
  c0 : W.cell? ⟨g, 0, none⟩ = some (.string (mk z.m))
  c2 : W.cell? ⟨g, 2, none⟩ = some (.string (mk z.o))
theorem NcF.up {W W' : World} {g : Nat} {z : Wq} (h : NcF W g z) (hb : Below W.heap.size W W') : NcF W' g z := ⟨(hb.cell (block_of_cell h.c0)).trans h.c0, (hb.cell (block_of_cell h.c2)).trans h.c2⟩

set_option maxRecDepth 100000 in
set_option maxHeartbeats 8000000 in
theorem rJudge_any (r : Rv) (st : Int) (A : Option Addr) (len c B : Nat) (xs : List (ByteArray × ByteArray)) (w : World) (hr : RqOk w r) (he : Env8 w) (hlen : len = xs.length) (hB : B ≤ w.heap.size) (hx : PRow w B A xs) (hsm : Sm (xs.map hd)) :
    Calls Tryz.prog 13 #[r.v, .int .i64 st, .slice A len c] w (JPost r.q st (xs.map hd) w) := by
  unfold Rv.v
  obtain ⟨W, hW⟩ : ∃ W, W = (w.alloc (Obj.cells #[.string r.m, .string r.u, .string r.o, .int .i64 r.mode, .bool r.cr, .slice r.A r.n r.c, .int .i64 r.cl, .int .u64 r.tm, .int .i64 r.gr, .int .i64 r.sg] 25)).alloc (Obj.cells #[.slice none 0 0, .slice none 0 0, .int .u64 0] 28) := ⟨_, rfl⟩
  have HP0 : Hid (JdF w W r A xs) := by rw [hW]; exact JdF.new he hr (hx.mono hB) _ _
  have HS := Lib.hid hsm
  have HLen := Lib.hid hlen
  clear hr he hx hsm hlen hB
  go_enter Tryz.func13, Tryz.ntmps13
  go_wp2_with fail
  rw [← hW]
  clear hW
  refine (refNeeds8_any r _ HP0.out.ok HP0.out.env).mono ?_
  rintro e w1 ⟨rfl, hb⟩
  have HP1 : Hid (JdF w w1 r A xs) := HP0.out.next hb
  clear hb HP0
  obtain ⟨nd, hnd⟩ : ∃ b, b = needsQ r.q := ⟨_, rfl⟩
  rw [← hnd]
  have HND := Lib.hid hnd
  clear hnd
  cases nd
  case false =>
    obtain ⟨c0, c1, c2, ff⟩ := HP1.out.res
    dsimp only [Av.zero] at c0 c1 c2
    go_wp2
    obtain ⟨q0, q1, q2, _⟩ := HP1.out.res.put_at Av.zero
    dsimp only [AlAt.put, Av.zero] at q0 q1 q2
    refine bodyPost_ret (v := .tuple #[.agg #[.slice none 0 0, .slice none 0 0, .int .u64 0], .int .i64 2]) (by simp [results, Tryz.results13, go_sem, q0, q1, q2]) rfl ?_
    exact jpost_no (judge_2 HND.out.symm) (by decide) (AlAt.put_below HP1.out.bel (Nat.le_succ _) Av.zero)
  case true =>
  have HNT : Hid (needsQ r.q = true) := HND.out.symm
  have HOK := Lib.hid (needs_ok HNT.out)
  have HSZ := Lib.hid (want_sizes HOK.out)
  obtain ⟨r0, r1, r2, r3, r4, r5, r6, r7, r8, r9⟩ := HP1.out.req
  go_wp2_with fail
  clear r0 r1 r2 r3 r4 r5 r6 r7 r8 r9
  refine (refNorm8_any r _ HP1.out.ok HP1.out.env).mono ?_
  rintro e w2 ⟨y, rfl, hyq, _, hb⟩
  have HP2 : Hid (JdF w w2 r A xs) := HP1.out.next hb
  have hym : y.m = mk (wantQ r.q).m := by rw [← mk_eq y.m]; exact congrArg mk ((congrArg Rq.m hyq).trans (by rw [want_0 HOK.out]))
  have hyo : y.o = mk (wantQ r.q).o := by rw [← mk_eq y.o]; exact congrArg mk ((congrArg Rq.o hyq).trans (by rw [want_0 HOK.out]))
  clear hb HP1 HND hyq
  obtain ⟨z, hz⟩ : ∃ z, z = wantQ r.q := ⟨_, rfl⟩
  rw [← hz] at HSZ hym hyo
  have HZ := Lib.hid hz
  clear hz
  obtain ⟨w3, hw3⟩ : ∃ W, W = w2.alloc (Obj.cells #[.string y.m, .string y.u, .string y.o, .int .i64 y.mode, .bool y.cr, .slice y.A y.n y.c, .int .i64 y.cl, .int .u64 y.tm, .int .i64 y.gr, .int .i64 y.sg] 25) := ⟨_, rfl⟩
  obtain ⟨g3, hg3⟩ : ∃ g, g = w2.heap.size := ⟨_, rfl⟩
  have hb3 : Below w2.heap.size w2 w3 := by rw [hw3]; exact (Below.refl _ _).alloc (Nat.le_refl _) _
  have hy3 : RqAt w3 g3 y := by rw [hw3, hg3]; exact RqAt.new w2 y _
  have HP3 : Hid (JdF w w3 r A xs) := HP2.out.next hb3
  have HW3 : Hid (NcF w3 g3 z) := ⟨by rw [← hym]; exact hy3.c0, by rw [← hyo]; exact hy3.c2⟩
  clear hb3 hy3 hym hyo
  simp only [Rv.v]
  go_upto_region 4 with fail
  rw [← hw3, ← hg3]
  clear hw3 hg3 HP2
  obtain ⟨c0, c2⟩ := HW3.out
  obtain ⟨r0, r1, r2, r3, r4, r5, r6, r7, r8, r9⟩ := HP3.out.req
  go_wp2_with fail
  clear c0 c2 r0 r1 r2 r3 r4 r5 r6 r7 r8 r9
  refine (refCCheck_any (mk z.o) r.cr A len c w.heap.size xs _ HLen.out HP3.out.bel.size HP3.out.row HS.out).mono ?_
  rintro e w4 ⟨rfl, hb⟩
  rw [mk_data]
  have HP4 : Hid (JdF w w4 r A xs) := HP3.out.next hb
  have HW4 : Hid (NcF w4 g3 z) := HW3.out.up hb
  clear hb HP3 HW3
  obtain ⟨k, hk⟩ : ∃ k, k = chkH z.o r.cr (xs.map hd) := ⟨_, rfl⟩
  rw [← hk]
  have HC : Hid (chkH (wantQ r.q).o r.q.cr (xs.map hd) = k) := by show _ = _; rw [← HZ.out, hk]; rfl
  clear hk
  by_cases hk0 : k = 0
  case neg =>
    have HJ : Hid (judgeI r.q st (xs.map hd) = k) := judge_c HNT.out HC.out hk0
    obtain ⟨c0, c1, c2, ff⟩ := HP4.out.res
    dsimp only [Av.zero] at c0 c1 c2
    go_wp2
    obtain ⟨q0, q1, q2, _⟩ := HP4.out.res.put_at Av.zero
    dsimp only [AlAt.put, Av.zero] at q0 q1 q2
    refine bodyPost_ret (v := .tuple #[.agg #[.slice none 0 0, .slice none 0 0, .int .u64 0], .int .i64 k]) (by simp [results, Tryz.results13, go_sem, q0, q1, q2]) rfl ?_
    exact jpost_no HJ.out hk0 (AlAt.put_below HP4.out.bel (Nat.le_succ _) Av.zero)
  subst hk0
  by_cases hs1 : st < 200
  case pos =>
    have HJ : Hid (judgeI r.q st (xs.map hd) = 14) := judge_14 HNT.out HC.out (.inl hs1)
    obtain ⟨c0, c1, c2, ff⟩ := HP4.out.res
    dsimp only [Av.zero] at c0 c1 c2
    go_wp2
    obtain ⟨q0, q1, q2, _⟩ := HP4.out.res.put_at Av.zero
    dsimp only [AlAt.put, Av.zero] at q0 q1 q2
    refine bodyPost_ret (v := .tuple #[.agg #[.slice none 0 0, .slice none 0 0, .int .u64 0], .int .i64 14]) (by simp [results, Tryz.results13, go_sem, q0, q1, q2]) rfl ?_
    exact jpost_no HJ.out (by decide) (AlAt.put_below HP4.out.bel (Nat.le_succ _) Av.zero)
  by_cases hs2 : 299 < st
  case pos =>
    have HJ : Hid (judgeI r.q st (xs.map hd) = 14) := judge_14 HNT.out HC.out (.inr hs2)
    obtain ⟨c0, c1, c2, ff⟩ := HP4.out.res
    dsimp only [Av.zero] at c0 c1 c2
    go_wp2
    obtain ⟨q0, q1, q2, _⟩ := HP4.out.res.put_at Av.zero
    dsimp only [AlAt.put, Av.zero] at q0 q1 q2
    refine bodyPost_ret (v := .tuple #[.agg #[.slice none 0 0, .slice none 0 0, .int .u64 0], .int .i64 14]) (by simp [results, Tryz.results13, go_sem, q0, q1, q2]) rfl ?_
    exact jpost_no HJ.out (by decide) (AlAt.put_below HP4.out.bel (Nat.le_succ _) Av.zero)
  have HST : Hid (¬ (st < 200 ∨ 299 < st)) := fun h => h.elim hs1 hs2
  go_wp2_with fail
  refine (refARead_any A len c w.heap.size xs _ HLen.out HP4.out.bel.size HP4.out.row HS.out).mono ?_
  rintro e w5 ⟨a, rfl, ha, hb⟩
  have HP5 : Hid (JdF w w5 r A xs) := HP4.out.next hb
  have HW5 : Hid (NcF w5 g3 z) := HW4.out.up hb
  have HA5 := Lib.hid ha
  clear hb HP4 HW4 ha hs1 hs2
  obtain ⟨k, hk⟩ : ∃ k, k = readI (xs.map hd) := ⟨_, rfl⟩
  rw [← hk]
  have HRI : Hid (readI (xs.map hd) = k) := hk.symm
  clear hk
  obtain ⟨A1, n1, d1, A2, n2, d2, ag⟩ := a
  obtain ⟨w6, hw6⟩ : ∃ W, W = w5.alloc (Obj.cells #[.slice A1 n1 d1, .slice A2 n2 d2, .int .u64 ag] 28) := ⟨_, rfl⟩
  obtain ⟨g4, hg4⟩ : ∃ g, g = w5.heap.size := ⟨_, rfl⟩
  have hb6 : Below w5.heap.size w5 w6 := by rw [hw6]; exact (Below.refl _ _).alloc (Nat.le_refl _) _
  have HP6 : Hid (JdF w w6 r A xs) := HP5.out.next hb6
  have HW6 : Hid (NcF w6 g3 z) := HW5.out.up hb6
  have HA6 : Hid (AvIs w6 ⟨A1, n1, d1, A2, n2, d2, ag⟩ (readA (xs.map hd))) := HA5.out.below hb6
  have HL6 : Hid (AlAt w6 g4 ⟨A1, n1, d1, A2, n2, d2, ag⟩) := by show AlAt _ _ _; rw [hw6, hg4]; exact AlAt.new w5 ⟨A1, n1, d1, A2, n2, d2, ag⟩ _
  have HG4 : Hid (w.heap.size + 1 ≠ g4) := by show _ ≠ _; rw [hg4]; have := HP5.out.res.lt; omega
  clear hb6
  unfold Av.v
  dsimp only
  go_upto_region 10 with fail
  rw [← hw6, ← hg4]
  clear hw6 hg4 HP5 HW5 HA5
  by_cases hk0 : k = 0
  case neg =>
    have HJ : Hid (judgeI r.q st (xs.map hd) = k) := judge_r HNT.out HC.out HST.out HRI.out hk0
    obtain ⟨c0, c1, c2, ff⟩ := HP6.out.res
    dsimp only [Av.zero] at c0 c1 c2
    go_wp2
    obtain ⟨q0, q1, q2, _⟩ := HP6.out.res.put_at Av.zero
    dsimp only [AlAt.put, Av.zero] at q0 q1 q2
    refine bodyPost_ret (v := .tuple #[.agg #[.slice none 0 0, .slice none 0 0, .int .u64 0], .int .i64 k]) (by simp [results, Tryz.results13, go_sem, q0, q1, q2]) rfl ?_
    exact jpost_no HJ.out hk0 (AlAt.put_below HP6.out.bel (Nat.le_succ _) Av.zero)
  subst hk0
  obtain ⟨c0, c2⟩ := HW6.out
  obtain ⟨r0, r1, r2, r3, r4, r5, r6, r7, r8, r9⟩ := HP6.out.req
  obtain ⟨p0, p1, p2, _⟩ := HL6.out
  dsimp only at p0 p1 p2
  go_wp2_with fail
  clear c0 c2 r0 r1 r2 r3 r4 r5 r6 r7 r8 r9 p0 p1 p2
  refine (refHas_any ⟨A1, n1, d1, A2, n2, d2, ag⟩ _ (mk z.m) r.cr _ HA6.out HSZ.out.2).mono ?_
  rintro e w7 ⟨rfl, hb⟩
  rw [mk_data]
  have HP7 : Hid (JdF w w7 r A xs) := HP6.out.next hb
  have HA7 : Hid (AvIs w7 ⟨A1, n1, d1, A2, n2, d2, ag⟩ (readA (xs.map hd))) := HA6.out.below hb
  have HL7 := Lib.hid (HL6.out.up hb)
  clear hb HP6 HA6 HL6 HW6
  obtain ⟨hv, hhv⟩ : ∃ b, b = hasA (readA (xs.map hd)).ms z.m r.cr := ⟨_, rfl⟩
  rw [← hhv]
  have HHV : Hid (hasA (readA (xs.map hd)).ms (wantQ r.q).m r.q.cr = hv) := by show _ = _; rw [← HZ.out, hhv]; rfl
  clear hhv
  cases hv
  case false =>
    have HJ : Hid (judgeI r.q st (xs.map hd) = 5) := judge_5 HNT.out HC.out HST.out HRI.out HHV.out
    obtain ⟨c0, c1, c2, ff⟩ := HP7.out.res
    dsimp only [Av.zero] at c0 c1 c2
    go_wp2
    obtain ⟨q0, q1, q2, _⟩ := HP7.out.res.put_at Av.zero
    dsimp only [AlAt.put, Av.zero] at q0 q1 q2
    refine bodyPost_ret (v := .tuple #[.agg #[.slice none 0 0, .slice none 0 0, .int .u64 0], .int .i64 5]) (by simp [results, Tryz.results13, go_sem, q0, q1, q2]) rfl ?_
    exact jpost_no HJ.out (by decide) (AlAt.put_below HP7.out.bel (Nat.le_succ _) Av.zero)
  case true =>
  have HB7 : Hid (JgF w7 w.heap.size g4 r ⟨A1, n1, d1, A2, n2, d2, ag⟩) := ⟨HP7.out.req, HL7.out⟩
  obtain ⟨r0, r1, r2, r3, r4, r5, r6, r7, r8, r9⟩ := HP7.out.req
  go_wp2_with fail
  clear r0 r1 r2 r3 r4 r5 r6 r7 r8 r9
  refine (refNames8_any r _ HP7.out.ok HP7.out.env).mono ?_
  rintro e w9 ⟨v, rfl, hs, hb⟩
  have HP9 : Hid (JdF w w9 r A xs) := HP7.out.next hb
  have HB9 := Lib.hid (HB7.out.below hb)
  have HA9 : Hid (AvIs w9 ⟨A1, n1, d1, A2, n2, d2, ag⟩ (readA (xs.map hd))) := HA7.out.below hb
  obtain ⟨A9, c9, rfl, _, hs9⟩ := trow_of hs
  have HS9 := Lib.hid hs9
  obtain ⟨nn, hnn⟩ : ∃ n, n = (namesQ r.q).length := ⟨_, rfl⟩
  rw [← hnn]
  have HNN := Lib.hid hnn
  have hnl : nn ≤ 9223372036854775807 := by rw [hnn]; have := names_len_ok (q := r.q).2; unfold maxLen at this; omega
  have HNL := Lib.hid hnl
  clear hb hs hs9 hnn HP7 HB7 HA7 HL7
  go_wp2_with fail
  go_loopw [13] (fun i wr => ∃ k : Nat, k ≤ nn ∧ i = .int .i64 k ∧ ((namesQ r.q).take k).all (fun s => covA (readA (xs.map hd)).hs s r.cr) = true ∧ Below w9.heap.size w9 wr) (fun i _ => nn - (intOf i).toNat)
  case atStart => exact ⟨0, Nat.zero_le _, rfl, rfl, Below.refl _ _⟩
  case round =>
    obtain ⟨k, hk, rfl, hall, hb⟩ := hrel
    have HALL := Lib.hid hall
    have HP10 : Hid (JdF w wr r A xs) := HP9.out.next hb
    have HB10 := Lib.hid (HB9.out.below hb)
    have HA10 : Hid (AvIs wr ⟨A1, n1, d1, A2, n2, d2, ag⟩ (readA (xs.map hd))) := HA9.out.below hb
    have HS10 := Lib.hid (HS9.out.below hb)
    have HBR := Lib.hid hb
    clear hall hb
    by_cases hlt : k < nn
    · have hkl : k < (namesQ r.q).length := by rw [← HNN.out]; exact hlt
      obtain ⟨a1, e1, hab, hc1⟩ := HS10.out k (mk (namesQ r.q)[k]) (by rw [List.getElem?_map, List.getElem?_eq_getElem hkl]; rfl)
      have HAB : Hid (a1.block < wr.heap.size) := Nat.lt_of_lt_of_le hab HBR.out.size
      have HXS : Hid ((mk (namesQ r.q)[k]).size ≤ maxLen) := by show _ ≤ _; rw [mk_size]; exact names_len_ok.1 _ (List.getElem_mem hkl)
      obtain ⟨cv, hcv⟩ : ∃ cv, cv = covA (readA (xs.map hd)).hs (mk (namesQ r.q)[k]).data.toList r.cr := ⟨_, rfl⟩
      have HCV := Lib.hid hcv
      have HCL : Hid (covA (readA (xs.map hd)).hs (namesQ r.q)[k] r.cr = cv) := by show _ = _; rw [hcv, mk_data]
      clear hcv hab
      generalize mk (namesQ r.q)[k] = x at *
      subst e1
      have HC1 : Hid (wr.cell? (a1.add k) = some (.string x)) := hc1
      obtain ⟨F, hF⟩ : ∃ F : World → Prop, ∀ W, F W ↔ (JgF W w.heap.size g4 r ⟨A1, n1, d1, A2, n2, d2, ag⟩ ∧ W.cell? (a1.add k) = some (.string x)) := ⟨_, fun _ => Iff.rfl⟩
      have za0 : ∀ p : Held F, p.w.cell? ⟨g4, 0, none⟩ = some (.slice A1 n1 d1) := fun p => ((hF _).1 p.h).1.a.c0
      have za1 : ∀ p : Held F, p.w.cell? ⟨g4, 1, none⟩ = some (.slice A2 n2 d2) := fun p => ((hF _).1 p.h).1.a.c1
      have za2 : ∀ p : Held F, p.w.cell? ⟨g4, 2, none⟩ = some (.int .u64 ag) := fun p => ((hF _).1 p.h).1.a.c2
      have zr4 : ∀ p : Held F, p.w.cell? ⟨w.heap.size, 4, none⟩ = some (.bool r.cr) := fun p => ((hF _).1 p.h).1.r.c4
      have zc : ∀ p : Held F, p.w.cell? (a1.add k) = some (.string x) := fun p => ((hF _).1 p.h).2
      have HFW : Hid (∀ W, Below wr.heap.size wr W → F W) := fun W h => (hF W).2 ⟨HB10.out.below h, (h.cell (by rw [block_add]; exact HAB.out)).trans HC1.out⟩
      clear hF hc1
      go_wp2_with fail
      refine mix_start F (by kernel_rfl) ?_
      obtain ⟨wd, hwd⟩ : ∃ W, W = wr.drew := ⟨_, rfl⟩
      rw [← hwd]
      have HBD : Hid (Below wr.heap.size wr wd) := by show Below _ _ _; rw [hwd]; exact (Below.refl _ _).drew
      have hne : Nonempty (Held F) := ⟨⟨wd, HFW.out _ HBD.out⟩⟩
      clear hwd
      refine mix_seg [0, 1, 2, 3, 4, 5, 6] (by kernel_rfl) (HFW.out _ HBD.out) ?_
      simp only [segOf, pickOps, pickOp]
      repeat (go_big_quiet_step (fail))
      refine wpQuiet_nil ?_
      refine mix_run 7 (by kernel_rfl) ?_
      simp only [segOf, pickOps, pickOp]
      go_wp2_with fail
      refine (refCovers_any ⟨A1, n1, d1, A2, n2, d2, ag⟩ _ x r.cr _ (HA10.out.below HBD.out) HXS.out).mono ?_
      rintro e w11 ⟨rfl, hb⟩
      rw [← HCV.out]
      have HB11 : Hid (Below wr.heap.size wr w11) := HBD.out.trans (hb.mono HBD.out.size)
      clear hb
      go_wp2_with fail
      refine MixPost.normal (HFW.out _ HB11.out) ?_
      refine mix_seg [8] (by kernel_rfl) (HFW.out _ HB11.out) ?_
      simp only [segOf, pickOps, pickOp]
      repeat (go_big_quiet_step (fail))
      refine wpQuiet_nil ?_
      refine mix_done (by kernel_rfl) ?_
      clear za0 za1 za2 zr4 zc hne
      cases cv
      case false =>
        have HJ : Hid (judgeI r.q st (xs.map hd) = 6) := judge_6 HNT.out HC.out HST.out HRI.out HHV.out (by
          rw [List.all_eq_false]
          exact ⟨_, List.getElem_mem hkl, by rw [show r.q.cr = r.cr from rfl, HCL.out]; simp⟩)
        have HP11 : Hid (JdF w w11 r A xs) := HP10.out.next HB11.out
        obtain ⟨c0, c1, c2, ff⟩ := HP11.out.res
        dsimp only [Av.zero] at c0 c1 c2
        go_wp2
        obtain ⟨q0, q1, q2, _⟩ := HP11.out.res.put_at Av.zero
        dsimp only [AlAt.put, Av.zero] at q0 q1 q2
        refine bodyPost_ret (v := .tuple #[.agg #[.slice none 0 0, .slice none 0 0, .int .u64 0], .int .i64 6]) (by simp [results, Tryz.results13, go_sem, q0, q1, q2]) rfl ?_
        exact jpost_no HJ.out (by decide) (AlAt.put_below HP11.out.bel (Nat.le_succ _) Av.zero)
      case true =>
        have HV : Hid (((namesQ r.q).take (k + 1)).all (fun s => covA (readA (xs.map hd)).hs s r.cr) = true) := by
          show _ = _
          rw [List.take_succ_eq_append_getElem hkl, List.all_append, HALL.out]
          simp [HCL.out]
        go_wp2_with fail
        go_roundw
        case rel => exact ⟨k + 1, by omega, by go_num, HV.out, HBR.out.trans (HB11.out.mono HBR.out.size)⟩
        case measure => simp [intOf]; omega
    · have HV : Hid ((namesQ r.q).all (fun s => covA (readA (xs.map hd)).hs s r.cr) = true) := by
        have h := HALL.out
        rwa [List.take_of_length_le (by have := HNN.out; omega)] at h
      have HJ : Hid (judgeI r.q st (xs.map hd) = 0) := judge_0 HNT.out HC.out HST.out HRI.out HHV.out HV.out
      obtain ⟨c0, c1, c2, ff⟩ := HP10.out.res
      obtain ⟨p0, p1, p2, _⟩ := HB10.out.a
      dsimp only [Av.zero] at c0 c1 c2
      dsimp only at p0 p1 p2
      go_wp2
      obtain ⟨q0, q1, q2, _⟩ := HP10.out.res.put_at ⟨A1, n1, d1, A2, n2, d2, ag⟩
      dsimp only [AlAt.put] at q0 q1 q2
      refine bodyPost_ret (v := .tuple #[.agg #[.slice A1 n1 d1, .slice A2 n2 d2, .int .u64 ag], .int .i64 0]) (by simp [results, Tryz.results13, go_sem, q0, q1, q2]) rfl ?_
      exact ⟨⟨A1, n1, d1, A2, n2, d2, ag⟩, by rw [HJ.out]; rfl, by rw [judgeA_yes HJ.out]; exact HA10.out.put HP10.out.res ⟨A1, n1, d1, A2, n2, d2, ag⟩, AlAt.put_below HP10.out.bel (Nat.le_succ _) ⟨A1, n1, d1, A2, n2, d2, ag⟩⟩
end Go.Proofs.YtlkneapidmdpbaaGreatDoor

namespace Go.Proofs.YtlkneapidmdpbaaGreatDoor
open Go.RowKit Go.Maps Go.WideMaps

theorem beq_mkx (l : List UInt8) (x : ByteArray) : ((mk l).toList == x.toList) = (l == x.data.toList) := by rw [ByteArray.toList_eq, ByteArray.toList_eq, mk_data]
theorem memS_take {M : List (List UInt8)} {j : Nat} (h : j < M.length) (s : List UInt8) : memS (M.take (j + 1)) s = (memS (M.take j) s || (M[j] == s)) := by
  rw [List.take_succ_eq_append_getElem h, memS_snoc]

set_option maxHeartbeats 4000000 in
theorem ronce_any (A : Option Addr) (n c B : Nat) (l : List (List UInt8)) (w : World) (hn : n = l.length) (hB : B ≤ w.heap.size) (hx : SRow w B A (l.map mk)) (hl : l.length ≤ 100000) :
    Calls Tryz.prog 54 #[.slice A n c] w fun e w' => ∃ v, e = .returned v ∧ sown w' w.heap.size v (onceL l) ∧ Below w.heap.size w w' := by
  obtain ⟨i0, hi, hz0, hz1, hz2⟩ := info_parts infoS
  have HX := Lib.hid hx
  have HN := Lib.hid hn
  have HL : Hid (n ≤ 100000) := by show _ ≤ _; omega
  have HBB := Lib.hid hB
  clear hx hn hl hB
  go_enter Tryz.func54, Tryz.ntmps54
  have hln := HL.out
  go_wp2_with fail
  go_loopw [3, 4] (fun v i wr => ∃ (k : Nat) (M : List (List UInt8)) (v3 : Value), v3 = v ∧ k ≤ n ∧ i = .int .i64 k ∧ M.length ≤ k ∧ M = onceL (l.take k) ∧ sown wr w.heap.size v3 M ∧ Below w.heap.size w wr) (fun _ i _ => n - (intOf i).toNat)
  case atStart => exact ⟨0, [], _, rfl, Nat.zero_le _, rfl, Nat.le_refl _, rfl, World.ownsRow_nil _ _ _ _, Below.refl _ _⟩
  case round =>
    obtain ⟨k, M, v3, hv3, hk, rfl, hml, hmm, ho, hb⟩ := hrel
    subst hv3
    have HMM := Lib.hid hmm
    have HBR := Lib.hid hb
    have HML := Lib.hid hml
    obtain ⟨W1, hW1⟩ : ∃ W, W = wr := ⟨_, rfl⟩
    subst hW1
    by_cases hlt : k < n
    · have hkl : k < l.length := by rw [← HN.out]; exact hlt
      obtain ⟨a1, e1, _, hc1⟩ := (HX.out.below (HBR.out.mono HBB.out)) k (mk l[k]) (by rw [List.getElem?_map, List.getElem?_eq_getElem hkl]; rfl)
      have HT : Hid (onceL (l.take (k + 1)) = addO M (mk l[k]).data.toList) := by show _ = _; rw [onceL_take hkl, HMM.out, mk_data]
      generalize mk l[k] = x at *
      subst e1
      have HC1 := Lib.hid hc1
      obtain ⟨A3, c3, e3, _, hs3⟩ := trow_of ho
      obtain ⟨N, hN⟩ : ∃ N, N = M.length := ⟨_, rfl⟩
      rw [← hN] at e3 hml
      subst e3
      have HO := Lib.hid ho
      have HS3 := Lib.hid hs3
      have HNN := Lib.hid hN
      have hN5 : N ≤ 100000 := by have := HL.out; omega
      have HN5 := Lib.hid hN5
      clear hc1 ho hb hml hmm hs3 hN
      go_wp2_with fail
      go_loopw [5, 6] (fun th i wr => ∃ (j q : Nat), j ≤ N ∧ i = .int .i64 j ∧ th = .bool (memS (M.take j) x.data.toList) ∧ wr = W1.drewN q) (fun _ i _ => N - (intOf i).toNat)
      case atStart => exact ⟨0, 0, Nat.zero_le _, rfl, rfl, rfl⟩
      case round =>
        obtain ⟨j, q, hj, rfl, rfl, hw⟩ := hrel
        have HW := Lib.hid hw
        by_cases hlt2 : j < N
        · have hjm : j < M.length := by rw [← HNN.out]; exact hlt2
          obtain ⟨a2, e2, _, hc2⟩ := HS3.out j (mk M[j]) (by rw [List.getElem?_map, List.getElem?_eq_getElem hjm]; rfl)
          have hcmp := beq_mkx M[j] x
          have hnx := memS_take hjm x.data.toList
          generalize mk M[j] = y at *
          obtain ⟨f, hf⟩ : ∃ f, f = memS (M.take j) x.data.toList := ⟨_, rfl⟩
          obtain ⟨d, hd⟩ : ∃ d, d = (M[j] == x.data.toList) := ⟨_, rfl⟩
          rw [← hd] at hcmp
          rw [← hf, ← hd] at hnx
          rw [← hf]
          have HNX := Lib.hid hnx
          have hd1 : wr.cell? (a1.add k) = some (.string x) := by rw [hw]; exact HC1.out
          have hd2 : wr.cell? (a2.add j) = some (.string y) := by rw [hw]; exact hc2
          subst e2
          have hjN : (j : Int) < (N : Int) := by omega
          have hkN : (k : Int) < (n : Int) := by omega
          clear hf hd hnx hw hc2
          cases f
          · go_wp2_with fail
            go_quiet (fail)
            go_wp2
            go_roundw
            case rel => exact ⟨j + 1, _, by omega, by go_num, by rw [HNX.out]; simp, by rw [HW.out, World.drewN_drewN]⟩
            case measure => simp [intOf]; omega
          · go_wp2_with fail
            go_quiet (fail)
            go_wp2
            go_roundw
            case rel => exact ⟨j + 1, _, by omega, by go_num, by rw [HNX.out]; simp, by rw [HW.out, World.drewN_drewN]⟩
            case measure => simp [intOf]; omega
        · obtain rfl : j = N := by omega
          have HMT : Hid (M.take j = M) := List.take_of_length_le (by have := HNN.out; omega)
          rw [HMT.out]
          have HBQ : Hid (Below W1.heap.size W1 wr) := by show Below _ _ _; rw [hw]; exact below_drewN (Below.refl _ _) _
          have HOQ : Hid (sown wr w.heap.size (.slice A3 j c3) M) := ownsRow_below HO.out HBQ.out
          have HB2 : Hid (Below w.heap.size w wr) := HBR.out.trans (HBQ.out.mono HBR.out.size)
          have hd1 : wr.cell? (a1.add k) = some (.string x) := by rw [hw]; exact HC1.out
          obtain ⟨st, hst⟩ : ∃ st, st = memS M x.data.toList := ⟨_, rfl⟩
          rw [← hst]
          have HST := Lib.hid hst
          clear hst hw
          cases st
          case true =>
            have HT2 : Hid (onceL (l.take (k + 1)) = M) := by show _ = _; rw [HT.out, addO, ← HST.out]; rfl
            go_wp2
            go_roundw
            case rel => exact ⟨k + 1, M, _, rfl, by omega, by go_num, by have := HML.out; omega, HT2.out.symm, HOQ.out, HB2.out⟩
            case measure => simp [intOf]; omega
          case false =>
          have HT2 : Hid (onceL (l.take (k + 1)) = M ++ [x.data.toList]) := by show _ = _; rw [HT.out, addO, ← HST.out]; rfl
          go_wp2_with (at_builtin; refine wpList_append_own _ rfl (.tmp 33) (.tmp 38) 26 rfl w.heap.size 9 i0 (.string ⟨#[]⟩) 1 16 Tryz.underlying26 hi hz0 hz1 hz2 rfl (by decide) _ _ _ rfl (World.ownsRow.alloc (w := wr) HOQ.out _) ⟨wr.heap.size, 0, none⟩ 1 1 [.string x] rfl rfl ?c1 ?c2 ?c3 ?c4 ?c5 ?_)
          case c1 => exact cell_one_new _ _ _
          case c2 => intro u hu; simp at hu; subst hu; rfl
          case c3 => have := HML.out; have := HL.out; unfold maxLen; omega
          case c4 => have := HML.out; have := HL.out; omega
          case c5 => have := HB2.out.size; simp; omega
          intro v' w5 hown' hgrow _
          have hbn : Below w.heap.size wr w5 := ((Below.refl _ _).alloc HB2.out.size _).grown hgrow (by have := HB2.out.size; simp; omega) (fun g hg => (HOQ.out.lt g hg).1)
          have HB5 : Hid (Below w.heap.size w w5) := HB2.out.trans hbn
          have HR5 : Hid (sown w5 w.heap.size v' (M ++ [x.data.toList])) := by
            show sown _ _ _ _
            unfold sown
            rw [List.length_append, List.map_append, List.map_cons, List.map_nil, sv_mk, mk_eq]
            exact hown'
          clear hown' hgrow hbn
          go_wp2
          go_roundw
          case rel => exact ⟨k + 1, _, v', rfl, by omega, by go_num, by rw [List.length_append]; have := HML.out; simp; omega, HT2.out.symm, HR5.out, HB5.out⟩
          case measure => simp [intOf]; omega
    · have HT : Hid (M = onceL l) := by show _ = _; rw [HMM.out, List.take_of_length_le (by have := HN.out; omega)]
      have HO := Lib.hid ho
      clear ho hb hml hmm
      go_wp2
      go_ret
      exact ⟨_, rfl, by rw [← HT.out]; exact HO.out, HBR.out⟩

theorem field_rg0 (a b c : ByteArray) (m : Int) (cr : Bool) (A : Option Addr) (n cp : Nat) (x y g s : Int) (w : World) : (Instr.field 25 (.agg #[.string a, .string b, .string c, .int .i64 m, .bool cr, .slice A n cp, .int .i64 x, .int .u64 y, .int .i64 g, .int .i64 s]) 0).run Tryz.prog w = .ok (.string a) w := by kernel_rfl

set_option maxRecDepth 100000 in
set_option maxHeartbeats 8000000 in
theorem rGrants_any (r : Rv) (a : Av) (z : Al) (now : Nat) (w : World) (hr : RqOk w r) (he : Env8 w) (ha : AvIs w a z) (hm : z.ms.length + z.hs.length ≤ 50000) (hz : (∀ x ∈ z.ms, x.length ≤ maxLen) ∧ ∀ x ∈ z.hs, x.length ≤ maxLen) (hn : now ≤ 18446744073709551615) (hg : z.age ≤ 18446744073709551615) :
    Calls Tryz.prog 20 #[r.v, a.v, .int .u64 (now : Int)] w (GrPost r.q z now w) := by
  obtain ⟨A1, n1, d1, A2, n2, d2, ag⟩ := a
  unfold Rv.v Av.v
  dsimp only
  obtain ⟨W, hW⟩ : ∃ W, W = (w.alloc (Obj.cells #[.string r.m, .string r.u, .string r.o, .int .i64 r.mode, .bool r.cr, .slice r.A r.n r.c, .int .i64 r.cl, .int .u64 r.tm, .int .i64 r.gr, .int .i64 r.sg] 25)).alloc (Obj.cells #[.slice A1 n1 d1, .slice A2 n2 d2, .int .u64 ag] 28) := ⟨_, rfl⟩
  have HP0 : Hid (GrF w W r ⟨A1, n1, d1, A2, n2, d2, ag⟩ z) := by rw [hW]; exact GrF.new he hr ha _ _
  have HAG : Hid (ag = (z.age : Int)) := ha.g
  have HM := Lib.hid hm
  have HZ := Lib.hid hz
  have HNW := Lib.hid hn
  have HGA := Lib.hid hg
  have HE1 : Hid (n1 = z.ms.length) := ha.e1
  have HE2 : Hid (n2 = z.hs.length) := ha.e2
  clear hr he ha hm hz hn hg
  go_enter Tryz.func20, Tryz.ntmps20
  go_wp2_with fail
  rw [← hW]
  clear hW
  refine (refNeeds8_any r _ HP0.out.ok HP0.out.env).mono ?_
  rintro e w1 ⟨rfl, hb⟩
  have HP1 : Hid (GrF w w1 r ⟨A1, n1, d1, A2, n2, d2, ag⟩ z) := HP0.out.next hb
  clear hb HP0
  obtain ⟨nd, hnd⟩ : ∃ b, b = needsQ r.q := ⟨_, rfl⟩
  rw [← hnd]
  have HND := Lib.hid hnd
  clear hnd
  cases nd
  case false =>
    go_wp2
    go_ret
    exact grpost_no (.inl HND.out.symm) HP1.out.bel
  case true =>
  have HNT : Hid (needsQ r.q = true) := HND.out.symm
  obtain ⟨p0, p1, p2, _⟩ := HP1.out.al
  dsimp only at p0 p1 p2
  by_cases hag : ag = 0
  case pos =>
    subst hag
    go_wp2
    go_ret
    exact grpost_no (.inr (by have := HAG.out; omega)) HP1.out.bel
  have HNA : Hid (¬ z.age = 0) := by show ¬ _; intro h; exact hag (by rw [HAG.out, h]; rfl)
  obtain ⟨r0, r1, r2, r3, r4, r5, r6, r7, r8, r9⟩ := HP1.out.req
  go_wp2_with fail
  clear r0 r1 r2 r3 r4 r5 r6 r7 r8 r9 p0 p1 p2 hag
  refine (refCell8_any r _ HP1.out.ok HP1.out.env).mono ?_
  rintro e w2 ⟨rfl, hb⟩
  have HP2 : Hid (GrF w w2 r ⟨A1, n1, d1, A2, n2, d2, ag⟩ z) := HP1.out.next hb
  have HGY : Hid (grantsQ r.q z now = entsF (wantQ r.q) z (untilF now z)) := grants_yes HNT.out HNA.out
  have HOK := Lib.hid (needs_ok HNT.out)
  have HNMM : Hid ((normQ r.q).m = (wantQ r.q).m) := by show _ = _; rw [want_0 HOK.out]
  clear hb HP1 HND
  obtain ⟨q, hq⟩ : ∃ q, q = wantQ r.q := ⟨_, rfl⟩
  obtain ⟨t, ht⟩ : ∃ t, t = untilF now z := ⟨_, rfl⟩
  rw [← hq, ← ht] at HGY
  rw [← hq] at HNMM ⊢
  have HT : Hid (Lk.addT (now : Int) ag = (t : Int)) := by
    show _ = _
    rw [ht, HAG.out, untilF]
    have := Lk.addT_ge (now : Int) (z.age : Int) (by omega) (by omega)
    omega
  clear hq ht
  obtain ⟨w3, hw3⟩ : ∃ W, W = w2.alloc (Obj.cells #[.string (mk q.o), .string (mk q.u), .bool q.cr] 45) := ⟨_, rfl⟩
  obtain ⟨g3, hg3⟩ : ∃ g, g = w2.heap.size := ⟨_, rfl⟩
  have hb3 : Below w2.heap.size w2 w3 := by rw [hw3]; exact (Below.refl _ _).alloc (Nat.le_refl _) _
  have HP3 : Hid (GrF w w3 r ⟨A1, n1, d1, A2, n2, d2, ag⟩ z) := HP2.out.next hb3
  have HW3 : Hid (ClBox w3 g3 (clF q)) := by show ClBox _ _ _; rw [hw3, hg3]; exact ClBox.new w2 (clF q) _
  clear hb3
  go_upto_region 4 with fail
  rw [← hw3, ← hg3]
  clear hw3 hg3 HP2
  obtain ⟨p0, p1, p2, _⟩ := HP3.out.al
  dsimp only at p0 p1 p2
  go_wp2_with fail
  refine (ronce_any A1 n1 d1 _ z.ms _ HE1.out (Nat.le_refl _) (srow_up HP3.out.av0.r1 HP3.out.bel HP3.out.bel.size) (by have := HM.out; omega)).mono ?_
  rintro e w4 ⟨v4, rfl, hs, hb⟩
  obtain ⟨A4, c4, rfl, _, hs4⟩ := trow_of hs
  have HS4 := Lib.hid hs4
  have HP4 : Hid (GrF w w4 r ⟨A1, n1, d1, A2, n2, d2, ag⟩ z) := HP3.out.next hb
  have HW4 : Hid (ClBox w4 g3 (clF q)) := HW3.out.old (Only.of_below hb [])
  clear hb hs hs4 HP3 HW3 p0 p1 p2
  obtain ⟨N, hN⟩ : ∃ N, N = (onceL z.ms).length := ⟨_, rfl⟩
  have HN := Lib.hid hN
  rw [← hN]
  have hN2 : N ≤ 50000 := by rw [hN]; have := onceL_len z.ms; have := HM.out; omega
  clear hN
  go_upto_if 29 with fail
  go_cut [8] from 14 to 34 (fun s8 W => ∃ (A : Option Addr) (c : Nat), s8 = .slice A (metsF q z).length c ∧ SRow W W.heap.size A ((metsF q z).map mk) ∧ GrF w W r ⟨A1, n1, d1, A2, n2, d2, ag⟩ z ∧ ClBox W g3 (clF q))
  case first =>
    by_cases hN0 : N = 0
    · subst hN0
      have HMT : Hid (metsF q z = [q.m]) := by show _ = _; unfold metsF; rw [if_pos (List.length_eq_zero_iff.1 HN.out.symm)]
      obtain ⟨r0, r1, r2, r3, r4, r5, r6, r7, r8, r9⟩ := HP4.out.req
      go_wp2_with fail
      clear r0 r1 r2 r3 r4 r5 r6 r7 r8 r9
      refine (refNorm8_any r _ HP4.out.ok HP4.out.env).mono ?_
      rintro e w6 ⟨y, rfl, hyq, _, hb⟩
      have hym : y.m = mk q.m := by rw [← mk_eq y.m]; exact congrArg mk ((congrArg Rq.m hyq).trans HNMM.out)
      have HP6 : Hid (GrF w w6 r ⟨A1, n1, d1, A2, n2, d2, ag⟩ z) := HP4.out.next hb
      have HW6 : Hid (ClBox w6 g3 (clF q)) := HW4.out.old (Only.of_below hb [])
      simp only [Rv.v]
      rw [hym]
      have hfd := fun W => field_rg0 (mk q.m) y.u y.o y.mode y.cr y.A y.n y.c y.cl y.tm y.gr y.sg W
      obtain ⟨w5, hw5⟩ : ∃ W, W = w6.alloc (Obj.cells #[.string (mk q.m)] 9) := ⟨_, rfl⟩
      obtain ⟨g5, hg5⟩ : ∃ g, g = w6.heap.size := ⟨_, rfl⟩
      have hb5 : Below w6.heap.size w6 w5 := by rw [hw5]; exact (Below.refl _ _).alloc (Nat.le_refl _) _
      have HS5 : Hid (SRow w5 w5.heap.size (some ⟨g5, 0, none⟩) [mk q.m]) := by
        have h := SRow.one_at w6 (mk q.m) 9 g5 hg5
        rw [← hw5] at h
        exact h.up (by rw [hw5, hg5]; simp)
      have HP5 : Hid (GrF w w5 r ⟨A1, n1, d1, A2, n2, d2, ag⟩ z) := HP6.out.next hb5
      have HW5 : Hid (ClBox w5 g3 (clF q)) := HW6.out.old (Only.of_below hb5 [])
      clear hb hb5 hym hyq
      go_wp2_with fail
      rw [← hw5, ← hg5]
      clear hw5 hg5 hfd
      go_meet
      case rel => exact ⟨_, _, by rw [HMT.out]; rfl, by rw [HMT.out]; exact HS5.out, HP5.out, HW5.out⟩
    · have HMT : Hid (metsF q z = onceL z.ms) := by show _ = _; unfold metsF; rw [if_neg]; intro h; exact hN0 (by rw [HN.out, h]; rfl)
      have hN3 : ¬ (N : Int) = 0 := by omega
      go_wp2_with fail
      go_meet
      case rel => exact ⟨_, _, by rw [HMT.out, ← HN.out], by rw [HMT.out]; exact HS4.out, HP4.out, HW4.out⟩
  case rest =>
  clear HN hN2 N
  obtain ⟨A9, c9, rfl, hs9, hp9, hw9⟩ := hcut
  have HP5 := Lib.hid hp9
  have HW5 := Lib.hid hw9
  have HS5 := Lib.hid hs9
  clear hs9 hp9 hw9 HP4 HW4 HS4
  have HGE : Hid (grantsQ r.q z now = (metsF q z).map (entM q t) ++ (onceL z.hs).map (entH q t)) := HGY.out
  obtain ⟨M, hM⟩ : ∃ M, M = metsF q z := ⟨_, rfl⟩
  have HML0 : Hid (M.length ≤ z.ms.length + 1) := by rw [hM]; exact metsF_len q z
  rw [← hM] at HS5 HGE ⊢
  clear hM HGY
  obtain ⟨N, hN⟩ : ∃ N, N = M.length := ⟨_, rfl⟩
  have HN := Lib.hid hN
  rw [← hN]
  have hN2 : N ≤ 50001 := by rw [hN]; have := HML0.out; have := HM.out; omega
  have HN2 := Lib.hid hN2
  clear hN
  obtain ⟨p0, p1, p2, _⟩ := HP5.out.al
  dsimp only at p0 p1 p2
  go_wp2_with fail
  refine (ronce_any A2 n2 d2 _ z.hs _ HE2.out (Nat.le_refl _) (srow_up HP5.out.av0.r2 HP5.out.bel HP5.out.bel.size) (by have := HM.out; omega)).mono ?_
  rintro e wb ⟨v7, rfl, hs, hb⟩
  obtain ⟨A7, c7, rfl, _, hs7⟩ := trow_of hs
  have HP7 : Hid (GrF w wb r ⟨A1, n1, d1, A2, n2, d2, ag⟩ z) := HP5.out.next hb
  have HW7 : Hid (ClBox wb g3 (clF q)) := HW5.out.old (Only.of_below hb [])
  have HS7 := Lib.hid hs7
  have HS5b : Hid (SRow wb wb.heap.size A9 (M.map mk)) := srow_up HS5.out hb hb.size
  clear hb hs hs7 HP5 HW5 HS5 p0 p1 p2
  have HLH : Hid ((onceL z.hs).length ≤ z.hs.length) := onceL_len z.hs
  obtain ⟨Hs, hHs⟩ : ∃ H, H = onceL z.hs := ⟨_, rfl⟩
  rw [← hHs] at HS7 HLH HGE ⊢
  obtain ⟨K, hK⟩ : ∃ K, K = Hs.length := ⟨_, rfl⟩
  have HKK := Lib.hid hK
  rw [← hK]
  have hK2 : K ≤ 50000 := by rw [hK]; have := HLH.out; have := HM.out; omega
  have HK2 := Lib.hid hK2
  clear hHs hK
  obtain ⟨p0, p1, p2, _⟩ := HP7.out.al
  dsimp only at p0 p1 p2
  go_wp2_with fail
  refine (rtickAdd_any (now : Int) ag _ (by omega) (by have := HNW.out; omega) (by have := HAG.out; omega) (by have := HAG.out; have := HGA.out; omega)).mono ?_
  rintro e w' ⟨rfl, rfl⟩
  rw [HT.out]
  clear p0 p1 p2
  have HG3 : Hid (g3 < wb.heap.size) := HW7.out.lt
  have HWB : Hid (w.heap.size ≤ wb.heap.size) := HP7.out.bel.size
  go_wp2_with fail
  go_loopw [11, 12] (fun v i wr => ∃ (k : Nat) (vc : Value), vc = v ∧ k ≤ N ∧ i = .int .i64 k ∧ EnRow wr vc ((M.take k).map (entM q t)) ∧ NewL wb.heap.size vc ∧ Only [] wb wr) (fun _ i _ => N - (intOf i).toNat)
  case atStart => exact ⟨0, _, rfl, Nat.zero_le _, rfl, EnRow.nil, (by intro x hx; simp [ownL, Value.ownBlock] at hx), Only.refl _ _⟩
  case round =>
    obtain ⟨k, vc, hvc, hk, rfl, hr, hn, ho⟩ := hrel
    subst hvc
    have HR := Lib.hid hr
    have HV := Lib.hid hn
    have HO := Lib.hid ho
    clear hr hn ho
    by_cases hlt : k < N
    · have hkm : k < M.length := by rw [← HN.out]; exact hlt
      obtain ⟨a1, e1, hab, hc1⟩ := HS5b.out k (mk M[k]) (by rw [List.getElem?_map, List.getElem?_eq_getElem hkm]; rfl)
      have HT2 : Hid ((M.take (k + 1)).map (entM q t) = (M.take k).map (entM q t) ++ [entM q t M[k]]) := map_take1 hkm
      have HLN : Hid (((M.take k).map (entM q t)).length ≤ 100000) := by show _ ≤ _; rw [List.length_map, List.length_take]; omega
      obtain ⟨L, hL⟩ : ∃ L, L = (M.take k).map (entM q t) := ⟨_, rfl⟩
      rw [← hL] at HR HT2 HLN
      clear hL
      have HC1 := Lib.hid hc1
      have HAB := Lib.hid hab
      subst e1
      clear hc1 hab
      generalize M[k] = x at *
      obtain ⟨F, hF⟩ : ∃ F : World → Prop, ∀ W, F W ↔ (ClBox W g3 (clF q) ∧ W.cell? (a1.add k) = some (.string (mk x))) := ⟨_, fun _ => Iff.rfl⟩
      have zk0 : ∀ p : Held F, p.w.cell? ⟨g3, 0, none⟩ = some (.string (mk q.o)) := fun p => ((hF _).1 p.h).1.c0
      have zk1 : ∀ p : Held F, p.w.cell? ⟨g3, 1, none⟩ = some (.string (mk q.u)) := fun p => ((hF _).1 p.h).1.c1
      have zk2 : ∀ p : Held F, p.w.cell? ⟨g3, 2, none⟩ = some (.bool q.cr) := fun p => ((hF _).1 p.h).1.c2
      have zc : ∀ p : Held F, p.w.cell? (a1.add k) = some (.string (mk x)) := fun p => ((hF _).1 p.h).2
      have HFW : Hid (∀ W, Only [] wb W → F W) := fun W h => (hF W).2 ⟨HW7.out.old h, (h.cell (p := a1.add k) (by rw [block_add]; exact HAB.out) (by simp)).trans HC1.out⟩
      clear hF
      have hiN : (k : Int) < (N : Int) := by omega
      obtain ⟨W1, hW1⟩ : ∃ W, W = wr := ⟨_, rfl⟩
      subst hW1
      go_wp2_with fail
      refine mix_start F (by kernel_rfl) ?_
      obtain ⟨wd, hwd⟩ : ∃ W, W = W1.drew := ⟨_, rfl⟩
      have HOd : Hid (Only [] W1 wd) := by show Only _ _ _; rw [hwd]; exact (Only.refl _ _).drew
      have HO2 : Hid (Only [] wb wd) := HO.out.trans HOd.out
      have hne : Nonempty (Held F) := ⟨⟨wd, HFW.out _ HO2.out⟩⟩
      rw [← hwd]
      clear hwd
      refine mix_seg [0, 1, 2, 3, 4, 5, 6, 7] (by kernel_rfl) (HFW.out _ HO2.out) ?_
      simp only [segOf, pickOps, pickOp]
      repeat (go_big_quiet_step (fail))
      refine wpQuiet_nil ?_
      refine mix_run 8 (by kernel_rfl) ?_
      simp only [segOf, pickOps, pickOp]
      obtain ⟨W3, hW3⟩ : ∃ W, W = wd.alloc (.cells #[.string (mk q.o), .string (mk q.u), .bool q.cr, .string (mk x), .string ⟨#[]⟩, .int .u64 (t : Int)] 64) := ⟨_, rfl⟩
      obtain ⟨B2, hB2⟩ : ∃ B2, B2 = wd.heap.size := ⟨_, rfl⟩
      have HO1 : Hid (Only [] W1 W3) := by show Only _ _ _; rw [hW3]; exact HOd.out.alloc _
      have HO3 : Hid (Only [] wb W3) := HO.out.trans HO1.out
      have HB2 : Hid (EnBox W3 B2 (entM q t x)) := by show EnBox _ _ _; rw [hW3, hB2]; exact EnBox.new wd (entM q t x) _
      have HR1 := Lib.hid (HR.out.old HO1.out)
      go_wp2_with fail
      rw [← hW3, ← hB2]
      clear hW3 hB2
      refine MixPost.normal (HFW.out _ HO3.out) ?_
      refine mix_run 9 (by kernel_rfl) ?_
      simp only [segOf, pickOps, pickOp]
      obtain ⟨Ac, capc, hce, _⟩ := HR1.out.slice
      subst hce
      refine wpList_append_ent rfl (.tmp 47) (.tmp 55) rfl _ L rfl HR1.out B2 (entM q t x) rfl HB2.out HLN.out ?_
      intro g2 cap2 w6 hr6 ho6 hg6
      have HO6 : Hid (Only [] wb w6) := HO3.out.next ho6.out (fun y hy => .inr (HV.out y hy))
      have HV6 : Hid (wb.heap.size ≤ g2) := by
        show _ ≤ _
        rcases hg6.out with h1 | h1
        · exact HV.out g2 h1
        · have h2 := HO3.out.size; omega
      have HR6 := Lib.hid hr6.out
      clear ho6 hg6 hr6
      go_wp2_with fail
      refine MixPost.normal (HFW.out _ HO6.out) ?_
      refine mix_seg [10] (by kernel_rfl) (HFW.out _ HO6.out) ?_
      simp only [segOf, pickOps, pickOp]
      repeat (go_big_quiet_step (fail))
      refine wpQuiet_nil ?_
      refine mix_done (by kernel_rfl) ?_
      clear zk0 zk1 zk2 zc hne
      have hi9 : k ≤ 100000 := by have := HN2.out; omega
      go_wp2_with fail
      go_roundw
      case rel =>
        refine ⟨k + 1, _, rfl, by omega, by go_num, by rw [HT2.out]; exact HR6.out, ?_, HO6.out⟩
        intro y hy
        simp [ownL, Value.ownBlock] at hy
        subst hy; exact HV6.out
      case measure => simp [intOf]; omega
    · have HMK : Hid (M.take k = M) := List.take_of_length_le (by have := HN.out; omega)
      rw [HMK.out] at HR
      go_wp2_with fail
      go_loopw [11, 13] (fun v i wr => ∃ (j : Nat) (vd : Value), vd = v ∧ j ≤ K ∧ i = .int .i64 j ∧ EnRow wr vd (M.map (entM q t) ++ (Hs.take j).map (entH q t)) ∧ NewL wb.heap.size vd ∧ Only [] wb wr) (fun _ i _ => K - (intOf i).toNat)
      case atStart => exact ⟨0, _, rfl, Nat.zero_le _, rfl, by rw [List.take_zero, List.map_nil, List.append_nil]; exact HR.out, HV.out, HO.out⟩
      case round =>
        clear HR HV HO
        obtain ⟨j, vd, hvd, hj, rfl, hr, hn, ho⟩ := hrel
        subst hvd
        have HR := Lib.hid hr
        have HV := Lib.hid hn
        have HO := Lib.hid ho
        clear hr hn ho
        by_cases hlt : j < K
        · have hkm : j < Hs.length := by rw [← HKK.out]; exact hlt
          obtain ⟨a1, e1, hab, hc1⟩ := HS7.out j (mk Hs[j]) (by rw [List.getElem?_map, List.getElem?_eq_getElem hkm]; rfl)
          have HT2 : Hid ((M.map (entM q t) ++ (Hs.take (j + 1)).map (entH q t)) = (M.map (entM q t) ++ (Hs.take j).map (entH q t)) ++ [entH q t Hs[j]]) := by show _ = _; rw [map_take1 hkm, List.append_assoc]
          have HLN : Hid ((M.map (entM q t) ++ (Hs.take j).map (entH q t)).length ≤ 100000) := by show _ ≤ _; rw [List.length_append, List.length_map, List.length_map, List.length_take]; have := HML0.out; have := HM.out; have := HLH.out; omega
          obtain ⟨L, hL⟩ : ∃ L, L = M.map (entM q t) ++ (Hs.take j).map (entH q t) := ⟨_, rfl⟩
          rw [← hL] at HR HT2 HLN
          clear hL
          have HC1 := Lib.hid hc1
          have HAB := Lib.hid hab
          subst e1
          clear hc1 hab
          generalize Hs[j] = x at *
          obtain ⟨F, hF⟩ : ∃ F : World → Prop, ∀ W, F W ↔ (ClBox W g3 (clF q) ∧ W.cell? (a1.add j) = some (.string (mk x))) := ⟨_, fun _ => Iff.rfl⟩
          have zk0 : ∀ p : Held F, p.w.cell? ⟨g3, 0, none⟩ = some (.string (mk q.o)) := fun p => ((hF _).1 p.h).1.c0
          have zk1 : ∀ p : Held F, p.w.cell? ⟨g3, 1, none⟩ = some (.string (mk q.u)) := fun p => ((hF _).1 p.h).1.c1
          have zk2 : ∀ p : Held F, p.w.cell? ⟨g3, 2, none⟩ = some (.bool q.cr) := fun p => ((hF _).1 p.h).1.c2
          have zc : ∀ p : Held F, p.w.cell? (a1.add j) = some (.string (mk x)) := fun p => ((hF _).1 p.h).2
          have HFW : Hid (∀ W, Only [] wb W → F W) := fun W h => (hF W).2 ⟨HW7.out.old h, (h.cell (p := a1.add j) (by rw [block_add]; exact HAB.out) (by simp)).trans HC1.out⟩
          clear hF
          have hiN : (j : Int) < (K : Int) := by omega
          obtain ⟨W1, hW1⟩ : ∃ W, W = wr := ⟨_, rfl⟩
          subst hW1
          go_wp2_with fail
          refine mix_start F (by kernel_rfl) ?_
          obtain ⟨wd, hwd⟩ : ∃ W, W = W1.drew := ⟨_, rfl⟩
          have HOd : Hid (Only [] W1 wd) := by show Only _ _ _; rw [hwd]; exact (Only.refl _ _).drew
          have HO2 : Hid (Only [] wb wd) := HO.out.trans HOd.out
          have hne : Nonempty (Held F) := ⟨⟨wd, HFW.out _ HO2.out⟩⟩
          rw [← hwd]
          clear hwd
          refine mix_seg [0, 1, 2, 3, 4, 5, 6, 7] (by kernel_rfl) (HFW.out _ HO2.out) ?_
          simp only [segOf, pickOps, pickOp]
          repeat (go_big_quiet_step (fail))
          refine wpQuiet_nil ?_
          refine mix_run 8 (by kernel_rfl) ?_
          simp only [segOf, pickOps, pickOp]
          obtain ⟨W3, hW3⟩ : ∃ W, W = wd.alloc (.cells #[.string (mk q.o), .string (mk q.u), .bool q.cr, .string ⟨#[]⟩, .string (mk x), .int .u64 (t : Int)] 64) := ⟨_, rfl⟩
          obtain ⟨B2, hB2⟩ : ∃ B2, B2 = wd.heap.size := ⟨_, rfl⟩
          have HO1 : Hid (Only [] W1 W3) := by show Only _ _ _; rw [hW3]; exact HOd.out.alloc _
          have HO3 : Hid (Only [] wb W3) := HO.out.trans HO1.out
          have HB2 : Hid (EnBox W3 B2 (entH q t x)) := by show EnBox _ _ _; rw [hW3, hB2]; exact EnBox.new wd (entH q t x) _
          have HR1 := Lib.hid (HR.out.old HO1.out)
          go_wp2_with fail
          rw [← hW3, ← hB2]
          clear hW3 hB2
          refine MixPost.normal (HFW.out _ HO3.out) ?_
          refine mix_run 9 (by kernel_rfl) ?_
          simp only [segOf, pickOps, pickOp]
          obtain ⟨Ac, capc, hce, _⟩ := HR1.out.slice
          subst hce
          refine wpList_append_ent rfl (.tmp 63) (.tmp 71) rfl _ L rfl HR1.out B2 (entH q t x) rfl HB2.out HLN.out ?_
          intro g2 cap2 w6 hr6 ho6 hg6
          have HO6 : Hid (Only [] wb w6) := HO3.out.next ho6.out (fun y hy => .inr (HV.out y hy))
          have HV6 : Hid (wb.heap.size ≤ g2) := by
            show _ ≤ _
            rcases hg6.out with h1 | h1
            · exact HV.out g2 h1
            · have h2 := HO3.out.size; omega
          have HR6 := Lib.hid hr6.out
          clear ho6 hg6 hr6
          go_wp2_with fail
          refine MixPost.normal (HFW.out _ HO6.out) ?_
          refine mix_seg [10] (by kernel_rfl) (HFW.out _ HO6.out) ?_
          simp only [segOf, pickOps, pickOp]
          repeat (go_big_quiet_step (fail))
          refine wpQuiet_nil ?_
          refine mix_done (by kernel_rfl) ?_
          clear zk0 zk1 zk2 zc hne
          have hi9 : j ≤ 100000 := by have := HK2.out; omega
          go_wp2_with fail
          go_roundw
          case rel =>
            refine ⟨j + 1, _, rfl, by omega, by go_num, by rw [HT2.out]; exact HR6.out, ?_, HO6.out⟩
            intro y hy
            simp [ownL, Value.ownBlock] at hy
            subst hy; exact HV6.out
          case measure => simp [intOf]; omega
        · have HMJ : Hid (Hs.take j = Hs) := List.take_of_length_le (by have := HKK.out; omega)
          rw [HMJ.out] at HR
          go_wp2
          go_ret
          refine ⟨_, rfl, by rw [HGE.out]; exact HR.out, ?_, ?_⟩
          · intro y hy
            have := HV.out y hy; have := HWB.out; omega
          · exact HP7.out.bel.trans ((HO.out.to_below (by simp)).mono HWB.out)
end Go.Proofs.YtlkneapidmdpbaaGreatDoor
