/-
  The contract of flight's Build over this seat's program. Conditions: the request's headers lie where it says and are not too many; the library's variables and the tables of methods are as they are laid.
-/
import Derived.Test.YtlkneapidmdpbaaGreatDoorFHead
import Derived.Test.YtlkneapidmdpbaaGreatDoorFMath2
namespace Go.Proofs.YtlkneapidmdpbaaGreatDoor
open Go.RowKit

/-- a request and what a preflight of it wants, in their blocks -/
structure BdF (W : World) (g1 g3 : Nat) (r : Rv) (z : Wv) : Prop where
  r : RqAt W g1 r
  z : WtAt W g3 z
theorem BdF.below {W W' : World} {g1 g3 : Nat} {r : Rv} {z : Wv} (o : BdF W g1 g3 r z) (hb : Below W.heap.size W W') : BdF W' g1 g3 r z := ⟨o.r.below hb o.r.lt, o.z.below hb o.z.lt⟩
theorem BdF.put {W : World} {g1 g3 g : Nat} {r : Rv} {z : Wv} (o : BdF W g1 g3 r z) (h1 : g1 ≠ g) (h3 : g3 ≠ g) (q : Rv) : BdF (RqAt.put W g q) g1 g3 r z :=
  ⟨(((((((((o.r.other h1).other h1).other h1).other h1).other h1).other h1).other h1).other h1).other h1).other h1,
   (((((((((o.z.other h3).other h3).other h3).other h3).other h3).other h3).other h3).other h3).other h3).other h3⟩
abbrev optT : ByteArray := ⟨#[79, 80, 84, 73, 79, 78, 83]⟩
theorem opt_size : optT.size ≤ maxLen := by unfold maxLen; decide
theorem sm_hdsF {q : Rq} (h : askI q = 0) : Sm (hdsF (wantQ q)) := by
  have h1 := (want_tok h).2
  have h2 : (wantQ q).n.length ≤ 2080 := by rw [want_nq h]; exact coml_len
  have h3 := (want_o_vis h).2.1
  by_cases h0 : (wantQ q).n = []
  · rw [hdsF_no h0]
    refine ⟨by simp, ?_⟩
    intro g hg
    simp only [List.mem_cons, List.not_mem_nil, or_false] at hg
    rcases hg with rfl | rfl | rfl <;> exact ⟨by simp [accL, rmL, orL], by simp [anyL]; try omega⟩
  · rw [hdsF_yes h0]
    refine ⟨by simp, ?_⟩
    intro g hg
    simp only [List.mem_cons, List.not_mem_nil, or_false] at hg
    rcases hg with rfl | rfl | rfl | rfl <;> exact ⟨by simp [accL, rmL, rhL, orL], by simp [anyL]; try omega⟩

set_option maxRecDepth 100000 in
set_option maxHeartbeats 4000000 in
theorem fBuild_any (r : Rv) (w : World) (hr : RqOk w r) (he : Env8 w) :
    Calls Tryz.prog 15 #[r.v] w fun e w' => ∃ b : Rv, e = .returned b.v ∧ b.q = buildQ r.q ∧ RqOk w' b ∧ Below w.heap.size w w' := by
  unfold Rv.v
  obtain ⟨W, hW⟩ : ∃ W, W = (w.alloc (Obj.cells #[.string r.m, .string r.u, .string r.o, .int .i64 r.mode, .bool r.cr, .slice r.A r.n r.c, .int .i64 r.cl, .int .u64 r.tm, .int .i64 r.gr, .int .i64 r.sg] 25)).alloc (Obj.cells #[.string ⟨#[]⟩, .string ⟨#[]⟩, .string ⟨#[]⟩, .int .i64 0, .bool false, .slice none 0 0, .int .i64 0, .int .u64 0, .int .i64 0, .int .i64 0] 25) := ⟨_, rfl⟩
  have HP0 : Hid (NmAt w W r) := by rw [hW]; exact NmAt.new he _ _
  have HK := Lib.hid hr
  clear hr he
  go_enter Tryz.func15, Tryz.ntmps15
  go_wp2_with fail
  rw [← hW]
  clear hW
  refine (aNeeds_any r _ (HK.out.below HP0.out.bel) HP0.out.env).mono ?_
  rintro e w1 ⟨rfl, hb⟩
  have HP1 : Hid (NmAt w w1 r) := HP0.out.next hb
  clear hb
  obtain ⟨nd, hnd⟩ : ∃ b, b = needsQ r.q := ⟨_, rfl⟩
  rw [← hnd]
  have HND := Lib.hid hnd
  clear hnd
  cases nd
  case false =>
    obtain ⟨c0, c1, c2, c3, c4, c5, c6, c7, c8, c9⟩ := HP1.out.res
    have ff := HP1.out.own
    unfold OwnB at ff
    go_wp2
    obtain ⟨q0, q1, q2, q3, q4, q5, q6, q7, q8, q9⟩ := HP1.out.res.put_at Rv.zero
    dsimp only [RqAt.put, Rv.zero] at q0 q1 q2 q3 q4 q5 q6 q7 q8 q9
    refine bodyPost_ret (v := .agg #[.string ⟨#[]⟩, .string ⟨#[]⟩, .string ⟨#[]⟩, .int .i64 0, .bool false, .slice none 0 0, .int .i64 0, .int .u64 0, .int .i64 0, .int .i64 0]) (by simp [results, Tryz.results15, go_sem, q0, q1, q2, q3, q4, q5, q6, q7, q8, q9]) rfl ?_
    exact ⟨Rv.zero, rfl, by rw [build_no HND.out.symm]; rfl, RqOk.zero _, RqAt.put_below HP1.out.bel (Nat.le_succ _) Rv.zero⟩
  case true =>
  obtain ⟨r0, r1, r2, r3, r4, r5, r6, r7, r8, r9⟩ := HP1.out.req
  go_wp2_with fail
  clear r0 r1 r2 r3 r4 r5 r6 r7 r8 r9
  refine (aWant_any r _ (HK.out.below HP1.out.bel) HP1.out.env).mono ?_
  rintro e w2 ⟨rfl, hb⟩
  have HP2 : Hid (NmAt w w2 r) := HP1.out.next hb
  have HNB := Lib.hid (build_yes HND.out.symm)
  have HOK := Lib.hid (needs_ok HND.out.symm)
  have HSM := Lib.hid (sm_hdsF HOK.out)
  have HSZ : Hid ((mk (wantQ r.q).u).size ≤ maxLen ∧ (mk (wantQ r.q).o).size ≤ maxLen) := by
    have h1 : ((wantQ r.q).u).length ≤ 512 := by rw [want_0 HOK.out]; show (normQ r.q).u.length ≤ 512; rw [norm_is HOK.out]; exact ushow_len _
    have h2 := (want_o_vis HOK.out).2.1
    have e1 : (mk (wantQ r.q).u).data.toList.length = (wantQ r.q).u.length := by rw [mk_data]
    have e2 : (mk (wantQ r.q).o).data.toList.length = (wantQ r.q).o.length := by rw [mk_data]
    simp at e1 e2
    unfold maxLen
    exact ⟨by omega, by omega⟩
  clear hb
  have HPQ : Hid (preQ r.q = ⟨optL, (wantQ r.q).u, (wantQ r.q).o, 3, false, hdsF (wantQ r.q), r.cl, r.tm, r.gr, r.sg⟩) := rfl
  obtain ⟨z, hz⟩ : ∃ z, z = wantQ r.q := ⟨_, rfl⟩
  rw [← hz] at HSM HSZ HPQ ⊢
  clear hz
  obtain ⟨w3, hw3⟩ : ∃ W, W = w2.alloc (Obj.cells #[.string (mk z.o), .string (mk z.u), .bool z.cr, .string (mk z.m), .string (mk z.n)] 52) := ⟨_, rfl⟩
  obtain ⟨g3, hg3⟩ : ∃ g, g = w2.heap.size := ⟨_, rfl⟩
  have hb3 : Below w2.heap.size w2 w3 := by rw [hw3]; exact (Below.refl _ _).alloc (Nat.le_refl _) _
  have HP3 : Hid (NmAt w w3 r) := HP2.out.next hb3
  have HB3 : Hid (BdF w3 w.heap.size g3 r (wvOf z)) := by
    refine ⟨HP3.out.req, ?_⟩
    rw [hw3, hg3]; exact WtAt.new w2 (wvOf z) _
  have hn3 : w.heap.size + 1 ≠ g3 := by rw [hg3]; have := HP2.out.res.lt; omega
  have HN3 := Lib.hid hn3
  clear hb3 hn3
  unfold wvOf Wv.v
  dsimp only
  go_upto_region 4 with fail
  rw [← hw3, ← hg3]
  clear hw3 hg3 HP2 HP1 HP0
  refine mix_start (fun W => BdF W w.heap.size g3 r (wvOf z)) (by kernel_rfl) ?_
  have hne : Nonempty (Held (fun W => BdF W w.heap.size g3 r (wvOf z))) := ⟨⟨_, HB3.out⟩⟩
  have zz0 : ∀ q : Held (fun W => BdF W w.heap.size g3 r (wvOf z)), q.w.cell? ⟨g3, 0, none⟩ = some (.string (mk z.o)) := fun q => q.h.z.c0
  have zz1 : ∀ q : Held (fun W => BdF W w.heap.size g3 r (wvOf z)), q.w.cell? ⟨g3, 1, none⟩ = some (.string (mk z.u)) := fun q => q.h.z.c1
  have zz2 : ∀ q : Held (fun W => BdF W w.heap.size g3 r (wvOf z)), q.w.cell? ⟨g3, 2, none⟩ = some (.bool z.cr) := fun q => q.h.z.c2
  have zz3 : ∀ q : Held (fun W => BdF W w.heap.size g3 r (wvOf z)), q.w.cell? ⟨g3, 3, none⟩ = some (.string (mk z.m)) := fun q => q.h.z.c3
  have zz4 : ∀ q : Held (fun W => BdF W w.heap.size g3 r (wvOf z)), q.w.cell? ⟨g3, 4, none⟩ = some (.string (mk z.n)) := fun q => q.h.z.c4
  have zr6 : ∀ q : Held (fun W => BdF W w.heap.size g3 r (wvOf z)), q.w.cell? ⟨w.heap.size, 6, none⟩ = some (.int .i64 r.cl) := fun q => q.h.r.c6
  have zr7 : ∀ q : Held (fun W => BdF W w.heap.size g3 r (wvOf z)), q.w.cell? ⟨w.heap.size, 7, none⟩ = some (.int .u64 r.tm) := fun q => q.h.r.c7
  have zr8 : ∀ q : Held (fun W => BdF W w.heap.size g3 r (wvOf z)), q.w.cell? ⟨w.heap.size, 8, none⟩ = some (.int .i64 r.gr) := fun q => q.h.r.c8
  have zr9 : ∀ q : Held (fun W => BdF W w.heap.size g3 r (wvOf z)), q.w.cell? ⟨w.heap.size, 9, none⟩ = some (.int .i64 r.sg) := fun q => q.h.r.c9
  obtain ⟨w4, hw4⟩ : ∃ W, W = w3.drew := ⟨_, rfl⟩
  rw [← hw4]
  have hb : Below w3.heap.size w3 w4 := by rw [hw4]; exact (Below.refl _ _).drew
  have HP4 : Hid (NmAt w w4 r) := HP3.out.next hb
  have HB4 : Hid (BdF w4 w.heap.size g3 r (wvOf z)) := HB3.out.below hb
  clear hb hw4
  refine mix_seg [0, 1, 2, 3, 4, 5, 6, 8, 9, 10, 11, 12, 13, 14, 15] (by kernel_rfl) HB4.out ?_
  simp only [segOf, pickOps, pickOp]
  repeat (go_big_quiet_step (fail))
  refine wpQuiet_nil ?_
  refine mix_run 7 (by kernel_rfl) ?_
  simp only [segOf, pickOps, pickOp]
  go_wp2_with fail
  refine (fheaders_any z _).mono ?_
  rintro e w5 ⟨v, rfl, hrow, hb⟩
  have HP5 : Hid (NmAt w w5 r) := HP4.out.next hb
  have HB5 : Hid (BdF w5 w.heap.size g3 r (wvOf z)) := HB4.out.below hb
  have HZ5 : Hid (w.heap.size + 1 < w4.heap.size) := HP4.out.res.lt
  obtain ⟨N, nn, cn, ys, rfl, hnn, hys, _, _⟩ := hrow.row
  have HROW := Lib.hid hrow
  have HNN := Lib.hid hnn
  have HYS := Lib.hid hys
  clear hb hrow hnn hys
  go_wp2_with fail
  refine MixPost.normal HB5.out ?_
  refine mix_seg [16] (by kernel_rfl) HB5.out ?_
  simp only [segOf, pickOps, pickOp]
  repeat (go_big_quiet_step (fail))
  refine wpQuiet_nil ?_
  refine mix_run 17 (by kernel_rfl) ?_
  simp only [segOf, pickOps, pickOp]
  obtain ⟨c0, c1, c2, c3, c4, c5, c6, c7, c8, c9⟩ := HP5.out.res
  have ff := HP5.out.own
  unfold OwnB at ff
  go_wp2_with fail
  have HB6 : Hid (BdF (RqAt.put w5 (w.heap.size + 1) ⟨optT, mk z.u, mk z.o, 3, false, N, nn, cn, ys, r.cl, r.tm, r.gr, r.sg⟩) w.heap.size g3 r (wvOf z)) := HB5.out.put (by omega) (fun e => HN3.out e.symm) _
  refine MixPost.normal HB6.out ?_
  refine mix_done (by kernel_rfl) ?_
  obtain ⟨q0, q1, q2, q3, q4, q5, q6, q7, q8, q9⟩ := HP5.out.res.put_at ⟨optT, mk z.u, mk z.o, 3, false, N, nn, cn, ys, r.cl, r.tm, r.gr, r.sg⟩
  dsimp only [RqAt.put] at q0 q1 q2 q3 q4 q5 q6 q7 q8 q9
  have HZR := Lib.hid (own_rq HROW.out HZ5.out ⟨optT, mk z.u, mk z.o, 3, false, N, nn, cn, ys, r.cl, r.tm, r.gr, r.sg⟩)
  go_wp2
  refine bodyPost_ret (v := .agg #[.string optT, .string (mk z.u), .string (mk z.o), .int .i64 3, .bool false, .slice N nn cn, .int .i64 r.cl, .int .u64 r.tm, .int .i64 r.gr, .int .i64 r.sg]) (by simp [results, Tryz.results15, go_sem, q0, q1, q2, q3, q4, q5, q6, q7, q8, q9]) rfl ?_
  obtain ⟨A', n', c', ys', e', hn', hy', _, hp'⟩ := HdRow.row HZR.out
  injection e' with eA en ec
  have ey : ys' = ys := row_alike (hy'.trans HYS.out.symm)
  subst eA en ec ey
  refine ⟨⟨optT, mk z.u, mk z.o, 3, false, N, nn, cn, ys', r.cl, r.tm, r.gr, r.sg⟩, rfl, ?_, ⟨hp', HNN.out, ?_, opt_size, HSZ.out.1, HSZ.out.2⟩, RqAt.put_below HP5.out.bel (Nat.le_succ _) ⟨optT, mk z.u, mk z.o, 3, false, N, nn, cn, ys', r.cl, r.tm, r.gr, r.sg⟩⟩
  · rw [HNB.out, HPQ.out]
    show (⟨_, (mk z.u).data.toList, (mk z.o).data.toList, _, _, ys'.map hd, _, _, _, _⟩ : Rq) = _
    rw [mk_data, mk_data, HYS.out]
    rfl
  · show Sm (ys'.map hd)
    rw [HYS.out]
    exact HSM.out
end Go.Proofs.YtlkneapidmdpbaaGreatDoor
