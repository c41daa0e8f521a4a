/-
  The contract of the document's own Judge of a preflight's answer over this seat's program. Conditions: the request's headers and the answer's lie where they say and are not too many; the library's variables and the tables of methods are as they are laid.
-/
import Derived.Test.YtlkneapidmdpbaaGreatDoorFJudge
import Derived.Test.YtlkneapidmdpbaaGreatDoorLRef8
import Derived.Test.YtlkneapidmdpbaaGreatDoorLRef14
import Derived.Test.YtlkneapidmdpbaaGreatDoorLRef15
namespace Go.Proofs.YtlkneapidmdpbaaGreatDoor
open Go.RowKit

/-- two cells of a request's normal form -/
structure NcF (W : World) (g : Nat) (z : Wq) : Prop where
  c0 : W.cell? ⟨g, 0, none⟩ = some (.string (mk z.m))
  c2 : W.cell? ⟨g, 2, none⟩ = some (.string (mk z.o))
theorem NcF.up {W W' : World} {g : Nat} {z : Wq} (h : NcF W g z) (hb : Below W.heap.size W W') : NcF W' g z := ⟨(hb.cell (block_of_cell h.c0)).trans h.c0, (hb.cell (block_of_cell h.c2)).trans h.c2⟩

set_option maxRecDepth 100000 in
set_option maxHeartbeats 8000000 in
theorem rJudge_any (r : Rv) (st : Int) (A : Option Addr) (len c B : Nat) (xs : List (ByteArray × ByteArray)) (w : World) (hr : RqOk w r) (he : Env8 w) (hlen : len = xs.length) (hB : B ≤ w.heap.size) (hx : PRow w B A xs) (hsm : Sm (xs.map hd)) :
    Calls Tryz.prog 13 #[r.v, .int .i64 st, .slice A len c] w (JPost r.q st (xs.map hd) w) := by
  unfold Rv.v
  obtain ⟨W, hW⟩ : ∃ W, W = (w.alloc (Obj.cells #[.string r.m, .string r.u, .string r.o, .int .i64 r.mode, .bool r.cr, .slice r.A r.n r.c, .int .i64 r.cl, .int .u64 r.tm, .int .i64 r.gr, .int .i64 r.sg] 25)).alloc (Obj.cells #[.slice none 0 0, .slice none 0 0, .int .u64 0] 28) := ⟨_, rfl⟩
  have HP0 : Hid (JdF w W r A xs) := by rw [hW]; exact JdF.new he hr (hx.mono hB) _ _
  have HS := Lib.hid hsm
  have HLen := Lib.hid hlen
  clear hr he hx hsm hlen hB
  go_enter Tryz.func13, Tryz.ntmps13
  go_wp2_with fail
  rw [← hW]
  clear hW
  refine (refNeeds8_any r _ HP0.out.ok HP0.out.env).mono ?_
  rintro e w1 ⟨rfl, hb⟩
  have HP1 : Hid (JdF w w1 r A xs) := HP0.out.next hb
  clear hb HP0
  obtain ⟨nd, hnd⟩ : ∃ b, b = needsQ r.q := ⟨_, rfl⟩
  rw [← hnd]
  have HND := Lib.hid hnd
  clear hnd
  cases nd
  case false =>
    obtain ⟨c0, c1, c2, ff⟩ := HP1.out.res
    dsimp only [Av.zero] at c0 c1 c2
    go_wp2
    obtain ⟨q0, q1, q2, _⟩ := HP1.out.res.put_at Av.zero
    dsimp only [AlAt.put, Av.zero] at q0 q1 q2
    refine bodyPost_ret (v := .tuple #[.agg #[.slice none 0 0, .slice none 0 0, .int .u64 0], .int .i64 2]) (by simp [results, Tryz.results13, go_sem, q0, q1, q2]) rfl ?_
    exact jpost_no (judge_2 HND.out.symm) (by decide) (AlAt.put_below HP1.out.bel (Nat.le_succ _) Av.zero)
  case true =>
  have HNT : Hid (needsQ r.q = true) := HND.out.symm
  have HOK := Lib.hid (needs_ok HNT.out)
  have HSZ := Lib.hid (want_sizes HOK.out)
  obtain ⟨r0, r1, r2, r3, r4, r5, r6, r7, r8, r9⟩ := HP1.out.req
  go_wp2_with fail
  clear r0 r1 r2 r3 r4 r5 r6 r7 r8 r9
  refine (refNorm8_any r _ HP1.out.ok HP1.out.env).mono ?_
  rintro e w2 ⟨y, rfl, hyq, _, hb⟩
  have HP2 : Hid (JdF w w2 r A xs) := HP1.out.next hb
  have hym : y.m = mk (wantQ r.q).m := by rw [← mk_eq y.m]; exact congrArg mk ((congrArg Rq.m hyq).trans (by rw [want_0 HOK.out]))
  have hyo : y.o = mk (wantQ r.q).o := by rw [← mk_eq y.o]; exact congrArg mk ((congrArg Rq.o hyq).trans (by rw [want_0 HOK.out]))
  clear hb HP1 HND hyq
  obtain ⟨z, hz⟩ : ∃ z, z = wantQ r.q := ⟨_, rfl⟩
  rw [← hz] at HSZ hym hyo
  have HZ := Lib.hid hz
  clear hz
  obtain ⟨w3, hw3⟩ : ∃ W, W = w2.alloc (Obj.cells #[.string y.m, .string y.u, .string y.o, .int .i64 y.mode, .bool y.cr, .slice y.A y.n y.c, .int .i64 y.cl, .int .u64 y.tm, .int .i64 y.gr, .int .i64 y.sg] 25) := ⟨_, rfl⟩
  obtain ⟨g3, hg3⟩ : ∃ g, g = w2.heap.size := ⟨_, rfl⟩
  have hb3 : Below w2.heap.size w2 w3 := by rw [hw3]; exact (Below.refl _ _).alloc (Nat.le_refl _) _
  have hy3 : RqAt w3 g3 y := by rw [hw3, hg3]; exact RqAt.new w2 y _
  have HP3 : Hid (JdF w w3 r A xs) := HP2.out.next hb3
  have HW3 : Hid (NcF w3 g3 z) := ⟨by rw [← hym]; exact hy3.c0, by rw [← hyo]; exact hy3.c2⟩
  clear hb3 hy3 hym hyo
  simp only [Rv.v]
  go_upto_region 4 with fail
  rw [← hw3, ← hg3]
  clear hw3 hg3 HP2
  obtain ⟨c0, c2⟩ := HW3.out
  obtain ⟨r0, r1, r2, r3, r4, r5, r6, r7, r8, r9⟩ := HP3.out.req
  go_wp2_with fail
  clear c0 c2 r0 r1 r2 r3 r4 r5 r6 r7 r8 r9
  refine (refCCheck_any (mk z.o) r.cr A len c w.heap.size xs _ HLen.out HP3.out.bel.size HP3.out.row HS.out).mono ?_
  rintro e w4 ⟨rfl, hb⟩
  rw [mk_data]
  have HP4 : Hid (JdF w w4 r A xs) := HP3.out.next hb
  have HW4 : Hid (NcF w4 g3 z) := HW3.out.up hb
  clear hb HP3 HW3
  obtain ⟨k, hk⟩ : ∃ k, k = chkH z.o r.cr (xs.map hd) := ⟨_, rfl⟩
  rw [← hk]
  have HC : Hid (chkH (wantQ r.q).o r.q.cr (xs.map hd) = k) := by show _ = _; rw [← HZ.out, hk]; rfl
  clear hk
  by_cases hk0 : k = 0
  case neg =>
    have HJ : Hid (judgeI r.q st (xs.map hd) = k) := judge_c HNT.out HC.out hk0
    obtain ⟨c0, c1, c2, ff⟩ := HP4.out.res
    dsimp only [Av.zero] at c0 c1 c2
    go_wp2
    obtain ⟨q0, q1, q2, _⟩ := HP4.out.res.put_at Av.zero
    dsimp only [AlAt.put, Av.zero] at q0 q1 q2
    refine bodyPost_ret (v := .tuple #[.agg #[.slice none 0 0, .slice none 0 0, .int .u64 0], .int .i64 k]) (by simp [results, Tryz.results13, go_sem, q0, q1, q2]) rfl ?_
    exact jpost_no HJ.out hk0 (AlAt.put_below HP4.out.bel (Nat.le_succ _) Av.zero)
  subst hk0
  by_cases hs1 : st < 200
  case pos =>
    have HJ : Hid (judgeI r.q st (xs.map hd) = 14) := judge_14 HNT.out HC.out (.inl hs1)
    obtain ⟨c0, c1, c2, ff⟩ := HP4.out.res
    dsimp only [Av.zero] at c0 c1 c2
    go_wp2
    obtain ⟨q0, q1, q2, _⟩ := HP4.out.res.put_at Av.zero
    dsimp only [AlAt.put, Av.zero] at q0 q1 q2
    refine bodyPost_ret (v := .tuple #[.agg #[.slice none 0 0, .slice none 0 0, .int .u64 0], .int .i64 14]) (by simp [results, Tryz.results13, go_sem, q0, q1, q2]) rfl ?_
    exact jpost_no HJ.out (by decide) (AlAt.put_below HP4.out.bel (Nat.le_succ _) Av.zero)
  by_cases hs2 : 299 < st
  case pos =>
    have HJ : Hid (judgeI r.q st (xs.map hd) = 14) := judge_14 HNT.out HC.out (.inr hs2)
    obtain ⟨c0, c1, c2, ff⟩ := HP4.out.res
    dsimp only [Av.zero] at c0 c1 c2
    go_wp2
    obtain ⟨q0, q1, q2, _⟩ := HP4.out.res.put_at Av.zero
    dsimp only [AlAt.put, Av.zero] at q0 q1 q2
    refine bodyPost_ret (v := .tuple #[.agg #[.slice none 0 0, .slice none 0 0, .int .u64 0], .int .i64 14]) (by simp [results, Tryz.results13, go_sem, q0, q1, q2]) rfl ?_
    exact jpost_no HJ.out (by decide) (AlAt.put_below HP4.out.bel (Nat.le_succ _) Av.zero)
  have HST : Hid (¬ (st < 200 ∨ 299 < st)) := fun h => h.elim hs1 hs2
  go_wp2_with fail
  refine (refARead_any A len c w.heap.size xs _ HLen.out HP4.out.bel.size HP4.out.row HS.out).mono ?_
  rintro e w5 ⟨a, rfl, ha, hb⟩
  have HP5 : Hid (JdF w w5 r A xs) := HP4.out.next hb
  have HW5 : Hid (NcF w5 g3 z) := HW4.out.up hb
  have HA5 := Lib.hid ha
  clear hb HP4 HW4 ha hs1 hs2
  obtain ⟨k, hk⟩ : ∃ k, k = readI (xs.map hd) := ⟨_, rfl⟩
  rw [← hk]
  have HRI : Hid (readI (xs.map hd) = k) := hk.symm
  clear hk
  obtain ⟨A1, n1, d1, A2, n2, d2, ag⟩ := a
  obtain ⟨w6, hw6⟩ : ∃ W, W = w5.alloc (Obj.cells #[.slice A1 n1 d1, .slice A2 n2 d2, .int .u64 ag] 28) := ⟨_, rfl⟩
  obtain ⟨g4, hg4⟩ : ∃ g, g = w5.heap.size := ⟨_, rfl⟩
  have hb6 : Below w5.heap.size w5 w6 := by rw [hw6]; exact (Below.refl _ _).alloc (Nat.le_refl _) _
  have HP6 : Hid (JdF w w6 r A xs) := HP5.out.next hb6
  have HW6 : Hid (NcF w6 g3 z) := HW5.out.up hb6
  have HA6 : Hid (AvIs w6 ⟨A1, n1, d1, A2, n2, d2, ag⟩ (readA (xs.map hd))) := HA5.out.below hb6
  have HL6 : Hid (AlAt w6 g4 ⟨A1, n1, d1, A2, n2, d2, ag⟩) := by show AlAt _ _ _; rw [hw6, hg4]; exact AlAt.new w5 ⟨A1, n1, d1, A2, n2, d2, ag⟩ _
  have HG4 : Hid (w.heap.size + 1 ≠ g4) := by show _ ≠ _; rw [hg4]; have := HP5.out.res.lt; omega
  clear hb6
  unfold Av.v
  dsimp only
  go_upto_region 10 with fail
  rw [← hw6, ← hg4]
  clear hw6 hg4 HP5 HW5 HA5
  by_cases hk0 : k = 0
  case neg =>
    have HJ : Hid (judgeI r.q st (xs.map hd) = k) := judge_r HNT.out HC.out HST.out HRI.out hk0
    obtain ⟨c0, c1, c2, ff⟩ := HP6.out.res
    dsimp only [Av.zero] at c0 c1 c2
    go_wp2
    obtain ⟨q0, q1, q2, _⟩ := HP6.out.res.put_at Av.zero
    dsimp only [AlAt.put, Av.zero] at q0 q1 q2
    refine bodyPost_ret (v := .tuple #[.agg #[.slice none 0 0, .slice none 0 0, .int .u64 0], .int .i64 k]) (by simp [results, Tryz.results13, go_sem, q0, q1, q2]) rfl ?_
    exact jpost_no HJ.out hk0 (AlAt.put_below HP6.out.bel (Nat.le_succ _) Av.zero)
  subst hk0
  obtain ⟨c0, c2⟩ := HW6.out
  obtain ⟨r0, r1, r2, r3, r4, r5, r6, r7, r8, r9⟩ := HP6.out.req
  obtain ⟨p0, p1, p2, _⟩ := HL6.out
  dsimp only at p0 p1 p2
  go_wp2_with fail
  clear c0 c2 r0 r1 r2 r3 r4 r5 r6 r7 r8 r9 p0 p1 p2
  refine (refHas_any ⟨A1, n1, d1, A2, n2, d2, ag⟩ _ (mk z.m) r.cr _ HA6.out HSZ.out.2).mono ?_
  rintro e w7 ⟨rfl, hb⟩
  rw [mk_data]
  have HP7 : Hid (JdF w w7 r A xs) := HP6.out.next hb
  have HA7 : Hid (AvIs w7 ⟨A1, n1, d1, A2, n2, d2, ag⟩ (readA (xs.map hd))) := HA6.out.below hb
  have HL7 := Lib.hid (HL6.out.up hb)
  clear hb HP6 HA6 HL6 HW6
  obtain ⟨hv, hhv⟩ : ∃ b, b = hasA (readA (xs.map hd)).ms z.m r.cr := ⟨_, rfl⟩
  rw [← hhv]
  have HHV : Hid (hasA (readA (xs.map hd)).ms (wantQ r.q).m r.q.cr = hv) := by show _ = _; rw [← HZ.out, hhv]; rfl
  clear hhv
  cases hv
  case false =>
    have HJ : Hid (judgeI r.q st (xs.map hd) = 5) := judge_5 HNT.out HC.out HST.out HRI.out HHV.out
    obtain ⟨c0, c1, c2, ff⟩ := HP7.out.res
    dsimp only [Av.zero] at c0 c1 c2
    go_wp2
    obtain ⟨q0, q1, q2, _⟩ := HP7.out.res.put_at Av.zero
    dsimp only [AlAt.put, Av.zero] at q0 q1 q2
    refine bodyPost_ret (v := .tuple #[.agg #[.slice none 0 0, .slice none 0 0, .int .u64 0], .int .i64 5]) (by simp [results, Tryz.results13, go_sem, q0, q1, q2]) rfl ?_
    exact jpost_no HJ.out (by decide) (AlAt.put_below HP7.out.bel (Nat.le_succ _) Av.zero)
  case true =>
  have HB7 : Hid (JgF w7 w.heap.size g4 r ⟨A1, n1, d1, A2, n2, d2, ag⟩) := ⟨HP7.out.req, HL7.out⟩
  obtain ⟨r0, r1, r2, r3, r4, r5, r6, r7, r8, r9⟩ := HP7.out.req
  go_wp2_with fail
  clear r0 r1 r2 r3 r4 r5 r6 r7 r8 r9
  refine (refNames8_any r _ HP7.out.ok HP7.out.env).mono ?_
  rintro e w9 ⟨v, rfl, hs, hb⟩
  have HP9 : Hid (JdF w w9 r A xs) := HP7.out.next hb
  have HB9 := Lib.hid (HB7.out.below hb)
  have HA9 : Hid (AvIs w9 ⟨A1, n1, d1, A2, n2, d2, ag⟩ (readA (xs.map hd))) := HA7.out.below hb
  obtain ⟨A9, c9, rfl, _, hs9⟩ := trow_of hs
  have HS9 := Lib.hid hs9
  obtain ⟨nn, hnn⟩ : ∃ n, n = (namesQ r.q).length := ⟨_, rfl⟩
  rw [← hnn]
  have HNN := Lib.hid hnn
  have hnl : nn ≤ 9223372036854775807 := by rw [hnn]; have := names_len_ok (q := r.q).2; unfold maxLen at this; omega
  have HNL := Lib.hid hnl
  clear hb hs hs9 hnn HP7 HB7 HA7 HL7
  go_wp2_with fail
  go_loopw [13] (fun i wr => ∃ k : Nat, k ≤ nn ∧ i = .int .i64 k ∧ ((namesQ r.q).take k).all (fun s => covA (readA (xs.map hd)).hs s r.cr) = true ∧ Below w9.heap.size w9 wr) (fun i _ => nn - (intOf i).toNat)
  case atStart => exact ⟨0, Nat.zero_le _, rfl, rfl, Below.refl _ _⟩
  case round =>
    obtain ⟨k, hk, rfl, hall, hb⟩ := hrel
    have HALL := Lib.hid hall
    have HP10 : Hid (JdF w wr r A xs) := HP9.out.next hb
    have HB10 := Lib.hid (HB9.out.below hb)
    have HA10 : Hid (AvIs wr ⟨A1, n1, d1, A2, n2, d2, ag⟩ (readA (xs.map hd))) := HA9.out.below hb
    have HS10 := Lib.hid (HS9.out.below hb)
    have HBR := Lib.hid hb
    clear hall hb
    by_cases hlt : k < nn
    · have hkl : k < (namesQ r.q).length := by rw [← HNN.out]; exact hlt
      obtain ⟨a1, e1, hab, hc1⟩ := HS10.out k (mk (namesQ r.q)[k]) (by rw [List.getElem?_map, List.getElem?_eq_getElem hkl]; rfl)
      have HAB : Hid (a1.block < wr.heap.size) := Nat.lt_of_lt_of_le hab HBR.out.size
      have HXS : Hid ((mk (namesQ r.q)[k]).size ≤ maxLen) := by show _ ≤ _; rw [mk_size]; exact names_len_ok.1 _ (List.getElem_mem hkl)
      obtain ⟨cv, hcv⟩ : ∃ cv, cv = covA (readA (xs.map hd)).hs (mk (namesQ r.q)[k]).data.toList r.cr := ⟨_, rfl⟩
      have HCV := Lib.hid hcv
      have HCL : Hid (covA (readA (xs.map hd)).hs (namesQ r.q)[k] r.cr = cv) := by show _ = _; rw [hcv, mk_data]
      clear hcv hab
      generalize mk (namesQ r.q)[k] = x at *
      subst e1
      have HC1 : Hid (wr.cell? (a1.add k) = some (.string x)) := hc1
      obtain ⟨F, hF⟩ : ∃ F : World → Prop, ∀ W, F W ↔ (JgF W w.heap.size g4 r ⟨A1, n1, d1, A2, n2, d2, ag⟩ ∧ W.cell? (a1.add k) = some (.string x)) := ⟨_, fun _ => Iff.rfl⟩
      have za0 : ∀ p : Held F, p.w.cell? ⟨g4, 0, none⟩ = some (.slice A1 n1 d1) := fun p => ((hF _).1 p.h).1.a.c0
      have za1 : ∀ p : Held F, p.w.cell? ⟨g4, 1, none⟩ = some (.slice A2 n2 d2) := fun p => ((hF _).1 p.h).1.a.c1
      have za2 : ∀ p : Held F, p.w.cell? ⟨g4, 2, none⟩ = some (.int .u64 ag) := fun p => ((hF _).1 p.h).1.a.c2
      have zr4 : ∀ p : Held F, p.w.cell? ⟨w.heap.size, 4, none⟩ = some (.bool r.cr) := fun p => ((hF _).1 p.h).1.r.c4
      have zc : ∀ p : Held F, p.w.cell? (a1.add k) = some (.string x) := fun p => ((hF _).1 p.h).2
      have HFW : Hid (∀ W, Below wr.heap.size wr W → F W) := fun W h => (hF W).2 ⟨HB10.out.below h, (h.cell (by rw [block_add]; exact HAB.out)).trans HC1.out⟩
      clear hF hc1
      go_wp2_with fail
      refine mix_start F (by kernel_rfl) ?_
      obtain ⟨wd, hwd⟩ : ∃ W, W = wr.drew := ⟨_, rfl⟩
      rw [← hwd]
      have HBD : Hid (Below wr.heap.size wr wd) := by show Below _ _ _; rw [hwd]; exact (Below.refl _ _).drew
      have hne : Nonempty (Held F) := ⟨⟨wd, HFW.out _ HBD.out⟩⟩
      clear hwd
      refine mix_seg [0, 1, 2, 3, 4, 5, 6] (by kernel_rfl) (HFW.out _ HBD.out) ?_
      simp only [segOf, pickOps, pickOp]
      repeat (go_big_quiet_step (fail))
      refine wpQuiet_nil ?_
      refine mix_run 7 (by kernel_rfl) ?_
      simp only [segOf, pickOps, pickOp]
      go_wp2_with fail
      refine (refCovers_any ⟨A1, n1, d1, A2, n2, d2, ag⟩ _ x r.cr _ (HA10.out.below HBD.out) HXS.out).mono ?_
      rintro e w11 ⟨rfl, hb⟩
      rw [← HCV.out]
      have HB11 : Hid (Below wr.heap.size wr w11) := HBD.out.trans (hb.mono HBD.out.size)
      clear hb
      go_wp2_with fail
      refine MixPost.normal (HFW.out _ HB11.out) ?_
      refine mix_seg [8] (by kernel_rfl) (HFW.out _ HB11.out) ?_
      simp only [segOf, pickOps, pickOp]
      repeat (go_big_quiet_step (fail))
      refine wpQuiet_nil ?_
      refine mix_done (by kernel_rfl) ?_
      clear za0 za1 za2 zr4 zc hne
      cases cv
      case false =>
        have HJ : Hid (judgeI r.q st (xs.map hd) = 6) := judge_6 HNT.out HC.out HST.out HRI.out HHV.out (by
          rw [List.all_eq_false]
          exact ⟨_, List.getElem_mem hkl, by rw [show r.q.cr = r.cr from rfl, HCL.out]; simp⟩)
        have HP11 : Hid (JdF w w11 r A xs) := HP10.out.next HB11.out
        obtain ⟨c0, c1, c2, ff⟩ := HP11.out.res
        dsimp only [Av.zero] at c0 c1 c2
        go_wp2
        obtain ⟨q0, q1, q2, _⟩ := HP11.out.res.put_at Av.zero
        dsimp only [AlAt.put, Av.zero] at q0 q1 q2
        refine bodyPost_ret (v := .tuple #[.agg #[.slice none 0 0, .slice none 0 0, .int .u64 0], .int .i64 6]) (by simp [results, Tryz.results13, go_sem, q0, q1, q2]) rfl ?_
        exact jpost_no HJ.out (by decide) (AlAt.put_below HP11.out.bel (Nat.le_succ _) Av.zero)
      case true =>
        have HV : Hid (((namesQ r.q).take (k + 1)).all (fun s => covA (readA (xs.map hd)).hs s r.cr) = true) := by
          show _ = _
          rw [List.take_succ_eq_append_getElem hkl, List.all_append, HALL.out]
          simp [HCL.out]
        go_wp2_with fail
        go_roundw
        case rel => exact ⟨k + 1, by omega, by go_num, HV.out, HBR.out.trans (HB11.out.mono HBR.out.size)⟩
        case measure => simp [intOf]; omega
    · have HV : Hid ((namesQ r.q).all (fun s => covA (readA (xs.map hd)).hs s r.cr) = true) := by
        have h := HALL.out
        rwa [List.take_of_length_le (by have := HNN.out; omega)] at h
      have HJ : Hid (judgeI r.q st (xs.map hd) = 0) := judge_0 HNT.out HC.out HST.out HRI.out HHV.out HV.out
      obtain ⟨c0, c1, c2, ff⟩ := HP10.out.res
      obtain ⟨p0, p1, p2, _⟩ := HB10.out.a
      dsimp only [Av.zero] at c0 c1 c2
      dsimp only at p0 p1 p2
      go_wp2
      obtain ⟨q0, q1, q2, _⟩ := HP10.out.res.put_at ⟨A1, n1, d1, A2, n2, d2, ag⟩
      dsimp only [AlAt.put] at q0 q1 q2
      refine bodyPost_ret (v := .tuple #[.agg #[.slice A1 n1 d1, .slice A2 n2 d2, .int .u64 ag], .int .i64 0]) (by simp [results, Tryz.results13, go_sem, q0, q1, q2]) rfl ?_
      exact ⟨⟨A1, n1, d1, A2, n2, d2, ag⟩, by rw [HJ.out]; rfl, by rw [judgeA_yes HJ.out]; exact HA10.out.put HP10.out.res ⟨A1, n1, d1, A2, n2, d2, ag⟩, AlAt.put_below HP10.out.bel (Nat.le_succ _) ⟨A1, n1, d1, A2, n2, d2, ag⟩⟩
end Go.Proofs.YtlkneapidmdpbaaGreatDoor
