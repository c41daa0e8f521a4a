/-
  The contract of ask's Norm over this seat's program. Conditions: the request's headers lie where it says and are not too many; the library's variables and the tables of methods are as they are laid.
-/
import Derived.Test.YticedcnmajcgbaaGreatDoorAWant
namespace Go.Proofs.YticedcnmajcgbaaGreatDoor
open Go.RowKit

/-- what holds all through: a request in the first block, which may be written; nothing in the second, which is the result's -/
structure NmAt (w W : World) (r : Rv) : Prop where
  bel : Below w.heap.size w W
  env0 : Env8 w
  req : RqAt W w.heap.size r
  own1 : OwnB W w.heap.size
  res : RqAt W (w.heap.size + 1) Rv.zero
  own : OwnB W (w.heap.size + 1)
theorem NmAt.env {w W : World} {r : Rv} (h : NmAt w W r) : Env8 W := h.env0.below h.bel
theorem NmAt.next {w W W' : World} {r : Rv} (h : NmAt w W r) (hb : Below W.heap.size W W') : NmAt w W' r :=
  ⟨h.bel.trans (hb.mono h.bel.size), h.env0, h.req.below hb h.req.lt, h.own1.below hb h.req.lt, h.res.below hb h.res.lt, h.own.below hb h.res.lt⟩
theorem NmAt.new {w : World} {r : Rv} (he : Env8 w) (t t' : TypeId) : NmAt w ((w.alloc (.cells #[.string r.m, .string r.u, .string r.o, .int .i64 r.mode, .bool r.cr, .slice r.A r.n r.c, .int .i64 r.cl, .int .u64 r.tm, .int .i64 r.gr, .int .i64 r.sg] t)).alloc (.cells #[.string ⟨#[]⟩, .string ⟨#[]⟩, .string ⟨#[]⟩, .int .i64 0, .bool false, .slice none 0 0, .int .i64 0, .int .u64 0, .int .i64 0, .int .i64 0] t')) r := by
  have e : (w.alloc (.cells #[.string r.m, .string r.u, .string r.o, .int .i64 r.mode, .bool r.cr, .slice r.A r.n r.c, .int .i64 r.cl, .int .u64 r.tm, .int .i64 r.gr, .int .i64 r.sg] t)).heap.size = w.heap.size + 1 := by simp
  have h1 := RqAt.new w r t
  have h2 := RqAt.new (w.alloc (.cells #[.string r.m, .string r.u, .string r.o, .int .i64 r.mode, .bool r.cr, .slice r.A r.n r.c, .int .i64 r.cl, .int .u64 r.tm, .int .i64 r.gr, .int .i64 r.sg] t)) Rv.zero t'
  have h3 := OwnB.new (w.alloc (.cells #[.string r.m, .string r.u, .string r.o, .int .i64 r.mode, .bool r.cr, .slice r.A r.n r.c, .int .i64 r.cl, .int .u64 r.tm, .int .i64 r.gr, .int .i64 r.sg] t)) #[.string ⟨#[]⟩, .string ⟨#[]⟩, .string ⟨#[]⟩, .int .i64 0, .bool false, .slice none 0 0, .int .i64 0, .int .u64 0, .int .i64 0, .int .i64 0] t'
  have h4 := OwnB.new w #[.string r.m, .string r.u, .string r.o, .int .i64 r.mode, .bool r.cr, .slice r.A r.n r.c, .int .i64 r.cl, .int .u64 r.tm, .int .i64 r.gr, .int .i64 r.sg] t
  rw [e] at h2 h3
  exact ⟨((Below.refl _ _).alloc (Nat.le_refl _) _).alloc (by rw [e]; omega) _, he, h1.below ((Below.refl _ _).alloc (Nat.le_refl _) _) h1.lt, h4.below ((Below.refl _ _).alloc (Nat.le_refl _) _) h1.lt, h2, h3⟩
theorem NmAt.set0 {w W : World} {r : Rv} (h : NmAt w W r) (x : ByteArray) : NmAt w (W.setCell ⟨w.heap.size, 0, none⟩ (.string x)) { r with m := x } :=
  ⟨h.bel.setCell (Nat.le_refl _) _, h.env0, h.req.set0 x, h.own1.set _ _, h.res.other (by omega), h.own.set _ _⟩
theorem NmAt.set1 {w W : World} {r : Rv} (h : NmAt w W r) (x : ByteArray) : NmAt w (W.setCell ⟨w.heap.size, 1, none⟩ (.string x)) { r with u := x } :=
  ⟨h.bel.setCell (Nat.le_refl _) _, h.env0, h.req.set1 x, h.own1.set _ _, h.res.other (by omega), h.own.set _ _⟩
theorem NmAt.set2 {w W : World} {r : Rv} (h : NmAt w W r) (x : ByteArray) : NmAt w (W.setCell ⟨w.heap.size, 2, none⟩ (.string x)) { r with o := x } :=
  ⟨h.bel.setCell (Nat.le_refl _) _, h.env0, h.req.set2 x, h.own1.set _ _, h.res.other (by omega), h.own.set _ _⟩
theorem NmAt.set5 {w W : World} {r : Rv} (h : NmAt w W r) (A : Option Addr) (n c : Nat) (xs : List (ByteArray × ByteArray)) : NmAt w (W.setCell ⟨w.heap.size, 5, none⟩ (.slice A n c)) { r with A := A, n := n, c := c, xs := xs } :=
  ⟨h.bel.setCell (Nat.le_refl _) _, h.env0, h.req.set5 A n c xs, h.own1.set _ _, h.res.other (by omega), h.own.set _ _⟩

theorem sm_norm {l : List Hd} (h : Sm l) : Sm (normL l) := by
  refine ⟨by simpa [normL] using h.1, fun g hg => ?_⟩
  unfold normL at hg
  obtain ⟨x, hx, rfl⟩ := List.mem_map.1 hg
  have h1 := h.2 x hx
  refine ⟨by simpa [normH, Lk.lower_len] using h1.1, ?_⟩
  have := Lk.trim_len x.2
  simp only [normH]; omega

set_option maxRecDepth 100000 in
set_option maxHeartbeats 4000000 in
theorem aNorm_any (r : Rv) (w : World) (hr : RqOk w r) (he : Env8 w) :
    Calls Tryz.prog 13 #[r.v] w fun e w' => ∃ z : Rv, e = .returned z.v ∧ z.q = normQ r.q ∧ RqOk w' z ∧ Below w.heap.size w w' := by
  unfold Rv.v
  obtain ⟨W, hW⟩ : ∃ W, W = (w.alloc (Obj.cells #[.string r.m, .string r.u, .string r.o, .int .i64 r.mode, .bool r.cr, .slice r.A r.n r.c, .int .i64 r.cl, .int .u64 r.tm, .int .i64 r.gr, .int .i64 r.sg] 25)).alloc (Obj.cells #[.string ⟨#[]⟩, .string ⟨#[]⟩, .string ⟨#[]⟩, .int .i64 0, .bool false, .slice none 0 0, .int .i64 0, .int .u64 0, .int .i64 0, .int .i64 0] 25) := ⟨_, rfl⟩
  have HP0 : Hid (NmAt w W r) := by rw [hW]; exact NmAt.new he _ _
  have HK := Lib.hid hr
  clear hr he
  go_enter Tryz.func13, Tryz.ntmps13
  go_wp2_with fail
  rw [← hW]
  clear hW
  refine (read_any r _ (HK.out.below HP0.out.bel) HP0.out.env).mono ?_
  rintro e w1 ⟨p, rfl, hp, _, hb⟩
  have HPV := Lib.hid hp
  have HP1 : Hid (NmAt w w1 r) := HP0.out.next hb
  clear hp hb
  simp only [Pv.v]
  have HA := Lib.hid ((Below.refl w1.heap.size w1).alloc (Nat.le_refl _) (Obj.cells #[.string p.a, .string p.b, .int .i64 p.n, .string p.c, .string p.d, .string p.s, .string p.h, .int .i64 p.k, .slice p.N p.nn p.cn, .bool p.x, .bool p.y] 54))
  have HP2' := Lib.hid (HP1.out.next HA.out)
  have HT2' := Lib.hid (PtAt.new w1 p 54)
  obtain ⟨c, hc⟩ : ∃ c, c = askI r.q := ⟨_, rfl⟩
  rw [← hc]
  have HC := Lib.hid hc
  clear hc
  by_cases h0 : c = 0
  case neg =>
    have HV : Hid (normQ r.q = Rq.zero) := norm_zero (by rw [← HC.out]; exact h0)
    obtain ⟨c0, c1, c2, c3, c4, c5, c6, c7, c8, c9⟩ := HP2'.out.res
    have ff := HP2'.out.own
    unfold OwnB at ff
    go_wp2
    obtain ⟨q0, q1, q2, q3, q4, q5, q6, q7, q8, q9⟩ := HP2'.out.res.put_at Rv.zero
    dsimp only [RqAt.put, Rv.zero] at q0 q1 q2 q3 q4 q5 q6 q7 q8 q9
    refine bodyPost_ret (v := .agg #[.string ⟨#[]⟩, .string ⟨#[]⟩, .string ⟨#[]⟩, .int .i64 0, .bool false, .slice none 0 0, .int .i64 0, .int .u64 0, .int .i64 0, .int .i64 0]) (by simp [results, Tryz.results13, go_sem, q0, q1, q2, q3, q4, q5, q6, q7, q8, q9]) rfl ?_
    exact ⟨Rv.zero, rfl, by rw [HV.out]; rfl, RqOk.zero _, RqAt.put_below HP2'.out.bel (Nat.le_succ _) Rv.zero⟩
  subst h0
  have HU : Hid (urlOf p.a p.b p.n p.c p.d = (tgtL r.q.u).1) := by show _ = _; rw [HPV.out.url, urlQ, if_pos HC.out.symm]
  have HO : Hid ((p.s.data.toList, p.h.data.toList, p.k) = orgO r.q.o) := by show _ = _; rw [HPV.out.org, fromQ, if_pos HC.out.symm]
  have HNQ := Lib.hid (norm_is HC.out.symm)
  obtain ⟨so, hso⟩ : ∃ t, t = mk (showL p.s.data.toList p.h.data.toList p.k) := ⟨_, rfl⟩
  have HSO := Lib.hid hso
  have hsoz : so.size ≤ maxLen := by rw [hso, mk_size]; have := show_len (sc := p.s.data.toList) (h := p.h.data.toList) (p := p.k); unfold maxLen; omega
  obtain ⟨su, hsu⟩ : ∃ t, t = mk (urlOf p.a p.b p.n p.c p.d).show_ := ⟨_, rfl⟩
  have HSU := Lib.hid hsu
  have hsuz : su.size ≤ maxLen := by rw [hsu, mk_size]; have := ushow_len (urlOf p.a p.b p.n p.c p.d); unfold maxLen; omega
  obtain ⟨sm, hsm⟩ : ∃ t, t = mk (Lk.normL r.m.data.toList) := ⟨_, rfl⟩
  have HSM := Lib.hid hsm
  have hsmz : sm.size ≤ maxLen := by rw [hsm, mk_size, Lk.norm_len]; have := HK.out.hm; simpa using this
  have HZ : Hid (so.size ≤ maxLen ∧ su.size ≤ maxLen ∧ sm.size ≤ maxLen) := ⟨hsoz, hsuz, hsmz⟩
  clear hso hsu hsm hsoz hsuz hsmz
  obtain ⟨r0, r1, r2, r3, r4, r5, r6, r7, r8, r9⟩ := HP2'.out.req
  go_wp2_with fail
  refine (MNorm_any r.m _ HK.out.hm HP2'.out.env.m).mono ?_
  rintro e w3 ⟨rfl, n3, hw3⟩
  rw [← HSM.out]
  obtain ⟨g3, hg3⟩ : ∃ g, g = w1.heap.size := ⟨_, rfl⟩
  have hb : Below (w1.alloc (Obj.cells #[.string p.a, .string p.b, .int .i64 p.n, .string p.c, .string p.d, .string p.s, .string p.h, .int .i64 p.k, .slice p.N p.nn p.cn, .bool p.x, .bool p.y] 54)).heap.size (w1.alloc (Obj.cells #[.string p.a, .string p.b, .int .i64 p.n, .string p.c, .string p.d, .string p.s, .string p.h, .int .i64 p.k, .slice p.N p.nn p.cn, .bool p.x, .bool p.y] 54)) w3 := by rw [hw3]; exact below_drewN (Below.refl _ _) _
  have HP3 : Hid (NmAt w w3 r) := HP2'.out.next hb
  have HT3 : Hid (PtAt w3 g3 p) := by rw [hg3]; exact HT2'.out.below hb HT2'.out.lt
  have hn3 : g3 ≠ w.heap.size := by rw [hg3]; have := HP1.out.res.lt; omega
  rw [← hg3]
  clear hb hw3 hg3 HP2' HT2' HA HP1 r0 r1 r2 r3 r4 r5 r6 r7 r8 r9
  obtain ⟨a1, ha1⟩ : ∃ a, a = { r with m := sm } := ⟨_, rfl⟩
  have HP4 : Hid (NmAt w (w3.setCell ⟨w.heap.size, 0, none⟩ (.string sm)) a1) := by rw [ha1]; exact HP3.out.set0 sm
  have HT4 : Hid (PtAt (w3.setCell ⟨w.heap.size, 0, none⟩ (.string sm)) g3 p) := HT3.out.other hn3
  have HA1 := Lib.hid ha1
  clear ha1
  obtain ⟨r0, r1, r2, r3, r4, r5, r6, r7, r8, r9⟩ := HP3.out.req
  have ff := HP3.out.own1
  unfold OwnB at ff
  obtain ⟨p0, p1, p2, p3, p4, p5, p6, p7, p8, p9, p10⟩ := HT4.out
  go_wp2_with fail
  refine (tShow_any p.a p.b p.n p.c p.d _ (by have := HPV.out.hb; unfold maxLen; omega) (by have := HPV.out.hc; omega) (by have := HPV.out.hd; omega) HP4.out.env.e).mono ?_
  rintro e w5 ⟨rfl, hb⟩
  rw [← HSU.out]
  have HP5 : Hid (NmAt w w5 a1) := HP4.out.next hb
  have HT5 : Hid (PtAt w5 g3 p) := HT4.out.below hb HT4.out.lt
  clear hb ff HP4 HT4 HP3 HT3 r0 r1 r2 r3 r4 r5 r6 r7 r8 r9 p0 p1 p2 p3 p4 p5 p6 p7 p8 p9 p10
  obtain ⟨a2, ha2⟩ : ∃ a, a = { a1 with u := su } := ⟨_, rfl⟩
  have HP6 : Hid (NmAt w (w5.setCell ⟨w.heap.size, 1, none⟩ (.string su)) a2) := by rw [ha2]; exact HP5.out.set1 su
  have HT6 : Hid (PtAt (w5.setCell ⟨w.heap.size, 1, none⟩ (.string su)) g3 p) := HT5.out.other hn3
  have HA2 := Lib.hid ha2
  clear ha2
  obtain ⟨r0, r1, r2, r3, r4, r5, r6, r7, r8, r9⟩ := HP5.out.req
  have ff := HP5.out.own1
  unfold OwnB at ff
  obtain ⟨p0, p1, p2, p3, p4, p5, p6, p7, p8, p9, p10⟩ := HT6.out
  go_wp2_with fail
  refine (Show_as p.s p.h p.k so _ (by have := HPV.out.hh; unfold maxLen; omega) HP6.out.env.e HSO.out).mono ?_
  rintro e w7 ⟨rfl, hb⟩
  have HP7 : Hid (NmAt w w7 a2) := HP6.out.next hb
  clear hb ff HP6 HT6 HP5 HT5 r0 r1 r2 r3 r4 r5 r6 r7 r8 r9 p0 p1 p2 p3 p4 p5 p6 p7 p8 p9 p10
  obtain ⟨a3, ha3⟩ : ∃ a, a = { a2 with o := so } := ⟨_, rfl⟩
  have HP8 : Hid (NmAt w (w7.setCell ⟨w.heap.size, 2, none⟩ (.string so)) a3) := by rw [ha3]; exact HP7.out.set2 so
  have HA3 : Hid (a3 = { r with m := sm, u := su, o := so }) := by rw [ha3, HA2.out, HA1.out]; rfl
  have HX3 : Hid (a3.A = r.A ∧ a3.n = r.n ∧ a3.c = r.c) := by rw [HA3.out]; exact ⟨rfl, rfl, rfl⟩
  clear ha3
  have hok := HK.out.below HP8.out.bel
  have HKR := Lib.hid hok.row
  obtain ⟨r0, r1, r2, r3, r4, r5, r6, r7, r8, r9⟩ := HP7.out.req
  have ff := HP7.out.own1
  unfold OwnB at ff
  have s5 := HP8.out.req.c5
  rw [HX3.out.1, HX3.out.2.1, HX3.out.2.2] at s5
  clear hok
  go_wp2_with fail
  refine (HNorm_any r.A r.n r.c _ r.xs _ HK.out.len (Nat.le_refl _) HKR.out (by have := HK.out.sm.1; simp at this; omega) (fun x hx => by have := HK.out.sm.sizes.2 x hx; unfold maxLen; omega)).mono ?_
  rintro e w9 ⟨v, rfl, hrow, hb⟩
  have HP9 : Hid (NmAt w w9 a3) := HP8.out.next hb
  have hsz : w.heap.size + 1 < (w7.setCell ⟨w.heap.size, 2, none⟩ (.string so)).heap.size := HP8.out.res.lt
  have HROW := Lib.hid hrow
  obtain ⟨N, nn, cn, ys, rfl, hnn, hys, _, _⟩ := hrow.row
  have HNN := Lib.hid hnn
  have HYS := Lib.hid hys
  clear hb ff s5 HP8 hrow hnn hys r0 r1 r2 r3 r4 r5 r6 r7 r8 r9
  obtain ⟨a4, ha4⟩ : ∃ a, a = { a3 with A := N, n := nn, c := cn, xs := ys } := ⟨_, rfl⟩
  have HPA : Hid (NmAt w (w9.setCell ⟨w.heap.size, 5, none⟩ (.slice N nn cn)) a4) := by rw [ha4]; exact HP9.out.set5 N nn cn ys
  have HA4 : Hid (a4 = { r with m := sm, u := su, o := so, A := N, n := nn, c := cn, xs := ys }) := by rw [ha4, HA3.out]; rfl
  have HRA : Hid (HdRow (w9.setCell ⟨w.heap.size, 5, none⟩ (.slice N nn cn)) (w7.setCell ⟨w.heap.size, 2, none⟩ (.string so)).heap.size (.slice N nn cn) (normL (r.xs.map hd))) := own_set HROW.out (by omega)
  have HX4 : Hid (a4.A = N ∧ a4.n = nn ∧ a4.c = cn) := by rw [HA4.out]; exact ⟨rfl, rfl, rfl⟩
  clear ha4
  have s9 := HP9.out.req.c5
  have f9 := HP9.out.own1
  unfold OwnB at f9
  obtain ⟨r0, r1, r2, r3, r4, r5, r6, r7, r8, r9⟩ := HPA.out.req
  rw [HX4.out.1, HX4.out.2.1, HX4.out.2.2] at r5
  obtain ⟨c0, c1, c2, c3, c4, c5, c6, c7, c8, c9⟩ := HPA.out.res
  have ff := HPA.out.own
  unfold OwnB at ff
  go_wp2
  obtain ⟨q0, q1, q2, q3, q4, q5, q6, q7, q8, q9⟩ := HPA.out.res.put_at a4
  dsimp only [RqAt.put] at q0 q1 q2 q3 q4 q5 q6 q7 q8 q9
  rw [HX4.out.1, HX4.out.2.1, HX4.out.2.2] at q0 q1 q2 q3 q4 q5 q6 q7 q8 q9
  refine bodyPost_ret (v := .agg #[.string a4.m, .string a4.u, .string a4.o, .int .i64 a4.mode, .bool a4.cr, .slice N nn cn, .int .i64 a4.cl, .int .u64 a4.tm, .int .i64 a4.gr, .int .i64 a4.sg]) (by simp [results, Tryz.results13, go_sem, q0, q1, q2, q3, q4, q5, q6, q7, q8, q9]) rfl ?_
  have e4 := HA4.out
  subst e4
  have e1 : sm.data.toList = Lk.normL r.m.data.toList := by rw [HSM.out, mk_data]
  have e2 : su.data.toList = (tgtL r.q.u).1.show_ := by rw [HSU.out, mk_data, HU.out]
  have e3 : so.data.toList = showL (orgO r.q.o).1 (orgO r.q.o).2.1 (orgO r.q.o).2.2 := by rw [HSO.out, mk_data, ← HO.out]
  have h5 := own_rq HRA.out hsz { r with m := sm, u := su, o := so, A := N, n := nn, c := cn, xs := ys }
  obtain ⟨A', n', c', ys', e', hn', hy', _, hp'⟩ := HdRow.row h5
  injection e' with eA en ec
  have ey : ys' = ys := row_alike (hy'.trans HYS.out.symm)
  subst eA en ec ey
  refine ⟨{ r with m := sm, u := su, o := so, A := N, n := nn, c := cn, xs := ys' }, rfl, ?_, ⟨hp', HNN.out, ?_, HZ.out.2.2, HZ.out.2.1, HZ.out.1⟩, RqAt.put_below HPA.out.bel (Nat.le_succ _) { r with m := sm, u := su, o := so, A := N, n := nn, c := cn, xs := ys' }⟩
  · rw [HNQ.out]
    show (⟨sm.data.toList, su.data.toList, so.data.toList, r.mode, r.cr, ys'.map hd, r.cl, r.tm, r.gr, r.sg⟩ : Rq) = _
    rw [e1, e2, e3, HYS.out]
    rfl
  · show Sm (ys'.map hd)
    rw [HYS.out]
    exact sm_norm HK.out.sm

end Go.Proofs.YticedcnmajcgbaaGreatDoor
