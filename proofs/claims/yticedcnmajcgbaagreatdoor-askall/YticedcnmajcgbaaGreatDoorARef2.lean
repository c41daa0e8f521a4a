/-
  Contracts of the document's own Norm and Cell of layer 8 over this seat's program. Conditions: the request's headers lie where it says and are not too many; the library's variables and the tables of methods are as they are laid.
-/
import Derived.Test.YticedcnmajcgbaaGreatDoorARef
import Derived.Test.YticedcnmajcgbaaGreatDoorANorm
namespace Go.Proofs.YticedcnmajcgbaaGreatDoor
open Go.RowKit

/-- what holds all through: the request in the first block, nothing in the second, which is the result's; its URL, its origin, and what is made of it, which may be written -/
structure NrAt (w W : World) (r z : Rv) (g4 g6 g7 : Nat) (A B : ByteArray) (n : Int) (C D s h : ByteArray) (k : Int) : Prop where
  bel : Below w.heap.size w W
  env0 : Env8 w
  req : RqAt W w.heap.size r
  res : RqAt W (w.heap.size + 1) Rv.zero
  own : OwnB W (w.heap.size + 1)
  u : UrlAt W g4 A B n C D
  o : OrgAt W g6 s h k
  z : RqAt W g7 z
  ownz : OwnB W g7
  n4 : g4 ≠ g7
  n6 : g6 ≠ g7
  lt7 : w.heap.size + 1 < g7
theorem NrAt.env {w W : World} {r z : Rv} {g4 g6 g7 : Nat} {A B : ByteArray} {n : Int} {C D s h : ByteArray} {k : Int} (H : NrAt w W r z g4 g6 g7 A B n C D s h k) : Env8 W := H.env0.below H.bel
theorem NrAt.next {w W W' : World} {r z : Rv} {g4 g6 g7 : Nat} {A B : ByteArray} {n : Int} {C D s h : ByteArray} {k : Int} (H : NrAt w W r z g4 g6 g7 A B n C D s h k) (hb : Below W.heap.size W W') : NrAt w W' r z g4 g6 g7 A B n C D s h k :=
  ⟨H.bel.trans (hb.mono H.bel.size), H.env0, H.req.below hb H.req.lt, H.res.below hb H.res.lt, H.own.below hb H.res.lt, H.u.below hb H.u.lt, H.o.below hb H.o.lt, H.z.below hb H.z.lt, H.ownz.below hb H.z.lt, H.n4, H.n6, H.lt7⟩
theorem NrAt.set0 {w W : World} {r z : Rv} {g4 g6 g7 : Nat} {A B : ByteArray} {n : Int} {C D s h : ByteArray} {k : Int} (H : NrAt w W r z g4 g6 g7 A B n C D s h k) (x : ByteArray) : NrAt w (W.setCell ⟨g7, 0, none⟩ (.string x)) r { z with m := x } g4 g6 g7 A B n C D s h k :=
  ⟨H.bel.setCell (show w.heap.size ≤ g7 by have := H.lt7; omega) _, H.env0, H.req.other (by have := H.lt7; omega), H.res.other (by have := H.lt7; omega), H.own.set _ _, H.u.other H.n4, H.o.other H.n6, H.z.set0 x, H.ownz.set _ _, H.n4, H.n6, H.lt7⟩
theorem NrAt.set1 {w W : World} {r z : Rv} {g4 g6 g7 : Nat} {A B : ByteArray} {n : Int} {C D s h : ByteArray} {k : Int} (H : NrAt w W r z g4 g6 g7 A B n C D s h k) (x : ByteArray) : NrAt w (W.setCell ⟨g7, 1, none⟩ (.string x)) r { z with u := x } g4 g6 g7 A B n C D s h k :=
  ⟨H.bel.setCell (show w.heap.size ≤ g7 by have := H.lt7; omega) _, H.env0, H.req.other (by have := H.lt7; omega), H.res.other (by have := H.lt7; omega), H.own.set _ _, H.u.other H.n4, H.o.other H.n6, H.z.set1 x, H.ownz.set _ _, H.n4, H.n6, H.lt7⟩
theorem NrAt.set2 {w W : World} {r z : Rv} {g4 g6 g7 : Nat} {A B : ByteArray} {n : Int} {C D s h : ByteArray} {k : Int} (H : NrAt w W r z g4 g6 g7 A B n C D s h k) (x : ByteArray) : NrAt w (W.setCell ⟨g7, 2, none⟩ (.string x)) r { z with o := x } g4 g6 g7 A B n C D s h k :=
  ⟨H.bel.setCell (show w.heap.size ≤ g7 by have := H.lt7; omega) _, H.env0, H.req.other (by have := H.lt7; omega), H.res.other (by have := H.lt7; omega), H.own.set _ _, H.u.other H.n4, H.o.other H.n6, H.z.set2 x, H.ownz.set _ _, H.n4, H.n6, H.lt7⟩
theorem NrAt.set5 {w W : World} {r z : Rv} {g4 g6 g7 : Nat} {A B : ByteArray} {n : Int} {C D s h : ByteArray} {k : Int} (H : NrAt w W r z g4 g6 g7 A B n C D s h k) (N : Option Addr) (nn cn : Nat) (xs : List (ByteArray × ByteArray)) : NrAt w (W.setCell ⟨g7, 5, none⟩ (.slice N nn cn)) r { z with A := N, n := nn, c := cn, xs := xs } g4 g6 g7 A B n C D s h k :=
  ⟨H.bel.setCell (show w.heap.size ≤ g7 by have := H.lt7; omega) _, H.env0, H.req.other (by have := H.lt7; omega), H.res.other (by have := H.lt7; omega), H.own.set _ _, H.u.other H.n4, H.o.other H.n6, H.z.set5 N nn cn xs, H.ownz.set _ _, H.n4, H.n6, H.lt7⟩

set_option maxRecDepth 100000 in
set_option maxHeartbeats 8000000 in
theorem refNorm8_any (r : Rv) (w : World) (hr : RqOk w r) (he : Env8 w) :
    Calls Tryz.prog 14 #[r.v] w fun e w' => ∃ z : Rv, e = .returned z.v ∧ z.q = normQ r.q ∧ RqOk w' z ∧ Below w.heap.size w w' := by
  unfold Rv.v
  obtain ⟨A, B, n, C, D, k0, hv, htl, hok, b1, b2, b3⟩ := tgt_view r.u.data.toList
  have HV := Lib.hid hv
  have HTC : Hid ((tgtL r.q.u).2 = k0) := by show (tgtL r.u.data.toList).2 = _; rw [htl]
  have HTU : Hid ((tgtL r.q.u).1 = urlOf A B n C D) := by show (tgtL r.u.data.toList).1 = _; rw [htl]
  clear hv htl hok
  obtain ⟨W, hW⟩ : ∃ W, W = (w.alloc (Obj.cells #[.string r.m, .string r.u, .string r.o, .int .i64 r.mode, .bool r.cr, .slice r.A r.n r.c, .int .i64 r.cl, .int .u64 r.tm, .int .i64 r.gr, .int .i64 r.sg] 25)).alloc (Obj.cells #[.string ⟨#[]⟩, .string ⟨#[]⟩, .string ⟨#[]⟩, .int .i64 0, .bool false, .slice none 0 0, .int .i64 0, .int .u64 0, .int .i64 0, .int .i64 0] 25) := ⟨_, rfl⟩
  have HP0 : Hid (NmAt w W r) := by rw [hW]; exact NmAt.new he _ _
  have HK := Lib.hid hr
  clear hr he
  go_enter Tryz.func14, Tryz.ntmps14
  go_wp2_with fail
  rw [← hW]
  clear hW
  refine (refCheck8_any r _ (HK.out.below HP0.out.bel) HP0.out.env).mono ?_
  rintro e w1 ⟨rfl, hb⟩
  have HP1 : Hid (NmAt w w1 r) := HP0.out.next hb
  clear hb HP0
  obtain ⟨ac, hac⟩ : ∃ c, c = askI r.q := ⟨_, rfl⟩
  rw [← hac]
  by_cases h0 : ac = 0
  case neg =>
    have HA : Hid (normQ r.q = Rq.zero) := norm_zero (by rw [← hac]; exact h0)
    clear hac
    obtain ⟨c0, c1, c2, c3, c4, c5, c6, c7, c8, c9⟩ := HP1.out.res
    have ff := HP1.out.own
    unfold OwnB at ff
    go_wp2
    obtain ⟨q0, q1, q2, q3, q4, q5, q6, q7, q8, q9⟩ := HP1.out.res.put_at Rv.zero
    dsimp only [RqAt.put, Rv.zero] at q0 q1 q2 q3 q4 q5 q6 q7 q8 q9
    refine bodyPost_ret (v := .agg #[.string ⟨#[]⟩, .string ⟨#[]⟩, .string ⟨#[]⟩, .int .i64 0, .bool false, .slice none 0 0, .int .i64 0, .int .u64 0, .int .i64 0, .int .i64 0]) (by simp [results, Tryz.results14, go_sem, q0, q1, q2, q3, q4, q5, q6, q7, q8, q9]) rfl ?_
    exact ⟨Rv.zero, rfl, by rw [HA.out]; rfl, RqOk.zero _, RqAt.put_below HP1.out.bel (Nat.le_succ _) Rv.zero⟩
  have HC : Hid (askI r.q = 0) := by show _ = _; rw [← hac, h0]
  subst h0
  clear hac
  have HNQ := Lib.hid (norm_is HC.out)
  obtain ⟨r0, r1, r2, r3, r4, r5, r6, r7, r8, r9⟩ := HP1.out.req
  go_wp2_with fail
  refine (refTParse_any r.u _ HK.out.hu HP1.out.env.e).mono ?_
  rintro e w2 ⟨rfl, hb⟩
  rw [HV.out]
  have HP2 : Hid (NmAt w w2 r) := HP1.out.next hb
  clear hb HV HP1 r0 r1 r2 r3 r4 r5 r6 r7 r8 r9
  have HA3 := Lib.hid ((Below.refl w2.heap.size w2).alloc (Nat.le_refl _) (Obj.cells #[.string A, .string B, .int .i64 n, .string C, .string D] 52))
  have HP3 := Lib.hid (HP2.out.next HA3.out)
  have HU3 := Lib.hid (UrlAt.new w2 A B n C D 52)
  obtain ⟨s, h, k, c, hv, hor, hoc, b4⟩ := org_view r.o.data.toList
  have HV := Lib.hid hv
  have HOO := Lib.hid hor
  have HOC := Lib.hid hoc
  clear hv hor hoc
  obtain ⟨r0, r1, r2, r3, r4, r5, r6, r7, r8, r9⟩ := HP3.out.req
  go_wp2_with fail
  refine (refParse_any r.o _ HK.out.ho).mono ?_
  rintro e w4 ⟨rfl, hb⟩
  rw [HV.out]
  obtain ⟨g4, hg4⟩ : ∃ g, g = w2.heap.size := ⟨_, rfl⟩
  have HP4 : Hid (NmAt w w4 r) := HP3.out.next hb
  have HU4 : Hid (UrlAt w4 g4 A B n C D) := by rw [hg4]; exact HU3.out.below hb HU3.out.lt
  rw [← hg4]
  clear hb hg4 HP2 HP3 HU3 HA3 HV r0 r1 r2 r3 r4 r5 r6 r7 r8 r9
  have HA5 := Lib.hid ((Below.refl w4.heap.size w4).alloc (Nat.le_refl _) (Obj.cells #[.string s, .string h, .int .i64 k] 50))
  have HP5 := Lib.hid (HP4.out.next HA5.out)
  have HU5 := Lib.hid (HU4.out.below HA5.out HU4.out.lt)
  have HO5 := Lib.hid (OrgAt.new w4 s h k 50)
  have HA6 := Lib.hid ((Below.refl (w4.alloc (Obj.cells #[.string s, .string h, .int .i64 k] 50)).heap.size (w4.alloc (Obj.cells #[.string s, .string h, .int .i64 k] 50))).alloc (Nat.le_refl _) (Obj.cells #[.string r.m, .string r.u, .string r.o, .int .i64 r.mode, .bool r.cr, .slice r.A r.n r.c, .int .i64 r.cl, .int .u64 r.tm, .int .i64 r.gr, .int .i64 r.sg] 25))
  have HP6 := Lib.hid (HP5.out.next HA6.out)
  have HU6 := Lib.hid (HU5.out.below HA6.out HU5.out.lt)
  have HO6 := Lib.hid (HO5.out.below HA6.out HO5.out.lt)
  have HZ6 := Lib.hid (RqAt.new (w4.alloc (Obj.cells #[.string s, .string h, .int .i64 k] 50)) r 25)
  have HW6 := Lib.hid (OwnB.new (w4.alloc (Obj.cells #[.string s, .string h, .int .i64 k] 50)) #[.string r.m, .string r.u, .string r.o, .int .i64 r.mode, .bool r.cr, .slice r.A r.n r.c, .int .i64 r.cl, .int .u64 r.tm, .int .i64 r.gr, .int .i64 r.sg] 25)
  have he1 : (w4.alloc (Obj.cells #[.string s, .string h, .int .i64 k] 50)).heap.size = w4.heap.size + 1 := by simp
  rw [he1] at HZ6 HW6
  have hlt4 : g4 < w4.heap.size := HU4.out.lt
  have hltz : w.heap.size + 1 < w4.heap.size := HP4.out.res.lt
  obtain ⟨so, hso⟩ : ∃ t, t = mk (showL s.data.toList h.data.toList k) := ⟨_, rfl⟩
  have HSO := Lib.hid hso
  have hsoz : so.size ≤ maxLen := by rw [hso, mk_size]; have := show_len (sc := s.data.toList) (h := h.data.toList) (p := k); unfold maxLen; omega
  obtain ⟨su, hsu⟩ : ∃ t, t = mk (urlOf A B n C D).show_ := ⟨_, rfl⟩
  have HSU := Lib.hid hsu
  have hsuz : su.size ≤ maxLen := by rw [hsu, mk_size]; have := ushow_len (urlOf A B n C D); unfold maxLen; omega
  obtain ⟨sm, hsm⟩ : ∃ t, t = mk (Lk.normL r.m.data.toList) := ⟨_, rfl⟩
  have HSM := Lib.hid hsm
  have hsmz : sm.size ≤ maxLen := by rw [hsm, mk_size, Lk.norm_len]; have := HK.out.hm; simpa using this
  have HZ : Hid (so.size ≤ maxLen ∧ su.size ≤ maxLen ∧ sm.size ≤ maxLen) := ⟨hsoz, hsuz, hsmz⟩
  have HBS : Hid (B.size ≤ maxLen ∧ C.size ≤ 100000 ∧ D.size ≤ 100000 ∧ h.size ≤ maxLen) := ⟨by unfold maxLen; omega, by omega, by omega, by unfold maxLen; omega⟩
  clear hso hsu hsm hsoz hsuz hsmz b1 b2 b3 b4
  obtain ⟨r0, r1, r2, r3, r4, r5, r6, r7, r8, r9⟩ := HP5.out.req
  obtain ⟨t0, t1, t2, t3, t4, t5, t6, t7, t8, t9⟩ := HP6.out.req
  go_wp2_with fail
  refine (refMNorm_any r.m _ HK.out.hm).mono ?_
  rintro e w7 ⟨rfl, hb⟩
  rw [← HSM.out]
  have HN7 : Hid (NrAt w w7 r r g4 w4.heap.size (w4.heap.size + 1) A B n C D s h k) :=
    NrAt.next ⟨HP6.out.bel, HP6.out.env0, HP6.out.req, HP6.out.res, HP6.out.own, HU6.out, HO6.out, HZ6.out, HW6.out, by omega, by omega, by omega⟩ hb
  obtain ⟨g6, hg6⟩ : ∃ g, g = w4.heap.size := ⟨_, rfl⟩
  rw [← hg6] at HN7 ⊢
  clear hb hg6 hltz hlt4 he1 HW6 HZ6 HO6 HU6 HP6 HA6 HO5 HU5 HP5 HA5 HP4 HU4 r0 r1 r2 r3 r4 r5 r6 r7 r8 r9 t0 t1 t2 t3 t4 t5 t6 t7 t8 t9
  obtain ⟨a1, ha1⟩ : ∃ a, a = { r with m := sm } := ⟨_, rfl⟩
  have HN8 : Hid (NrAt w (w7.setCell ⟨g6 + 1, 0, none⟩ (.string sm)) r a1 g4 g6 (g6 + 1) A B n C D s h k) := by rw [ha1]; exact HN7.out.set0 sm
  have HA1 := Lib.hid ha1
  clear ha1
  have s0 := HN7.out.z.c0
  have ff := HN7.out.ownz
  unfold OwnB at ff
  obtain ⟨u0, u1, u2, u3, u4⟩ := HN8.out.u
  go_wp2_with fail
  refine (refTShow_any A B n C D _ HBS.out.1 HBS.out.2.1 HBS.out.2.2.1).mono ?_
  rintro e w9 ⟨rfl, hb⟩
  rw [← HSU.out]
  have HN9 : Hid (NrAt w w9 r a1 g4 g6 (g6 + 1) A B n C D s h k) := HN8.out.next hb
  clear hb ff s0 u0 u1 u2 u3 u4 HN7 HN8
  obtain ⟨a2, ha2⟩ : ∃ a, a = { a1 with u := su } := ⟨_, rfl⟩
  have HN10 : Hid (NrAt w (w9.setCell ⟨g6 + 1, 1, none⟩ (.string su)) r a2 g4 g6 (g6 + 1) A B n C D s h k) := by rw [ha2]; exact HN9.out.set1 su
  have HA2 := Lib.hid ha2
  clear ha2
  have s0 := HN9.out.z.c1
  have ff := HN9.out.ownz
  unfold OwnB at ff
  obtain ⟨o0, o1, o2⟩ := HN10.out.o
  go_wp2_with fail
  refine (refShow_any s h k _ HBS.out.2.2.2).mono ?_
  rintro e w11 ⟨rfl, hb⟩
  rw [← HSO.out]
  have HN11 : Hid (NrAt w w11 r a2 g4 g6 (g6 + 1) A B n C D s h k) := HN10.out.next hb
  clear hb ff s0 o0 o1 o2 HN9 HN10
  obtain ⟨a3, ha3⟩ : ∃ a, a = { a2 with o := so } := ⟨_, rfl⟩
  have HN12 : Hid (NrAt w (w11.setCell ⟨g6 + 1, 2, none⟩ (.string so)) r a3 g4 g6 (g6 + 1) A B n C D s h k) := by rw [ha3]; exact HN11.out.set2 so
  have HA3 : Hid (a3 = { r with m := sm, u := su, o := so }) := by rw [ha3, HA2.out, HA1.out]; rfl
  clear ha3
  have s0 := HN11.out.z.c2
  have ff := HN11.out.ownz
  unfold OwnB at ff
  have hok := HK.out.below HN12.out.bel
  have HKR := Lib.hid hok.row
  have s5 := HN12.out.req.c5
  clear hok
  go_wp2_with fail
  refine (refHNorm_any r.A r.n r.c _ r.xs _ HK.out.len (Nat.le_refl _) HKR.out HK.out.sm).mono ?_
  rintro e w13 ⟨v, rfl, hrow, hb⟩
  have HN13 : Hid (NrAt w w13 r a3 g4 g6 (g6 + 1) A B n C D s h k) := HN12.out.next hb
  have hsz : g6 + 1 < (w11.setCell ⟨g6 + 1, 2, none⟩ (.string so)).heap.size := HN12.out.z.lt
  have HROW := Lib.hid hrow
  obtain ⟨N, nn, cn, ys, rfl, hnn, hys, _, _⟩ := hrow.row
  have HNN := Lib.hid hnn
  have HYS := Lib.hid hys
  clear hb ff s0 s5 HN12 hrow hnn hys
  obtain ⟨a4, ha4⟩ : ∃ a, a = { a3 with A := N, n := nn, c := cn, xs := ys } := ⟨_, rfl⟩
  have HNA : Hid (NrAt w (w13.setCell ⟨g6 + 1, 5, none⟩ (.slice N nn cn)) r a4 g4 g6 (g6 + 1) A B n C D s h k) := by rw [ha4]; exact HN13.out.set5 N nn cn ys
  have HA4 : Hid (a4 = { r with m := sm, u := su, o := so, A := N, n := nn, c := cn, xs := ys }) := by rw [ha4, HA3.out]; rfl
  have HRA : Hid (HdRow (w13.setCell ⟨g6 + 1, 5, none⟩ (.slice N nn cn)) (w11.setCell ⟨g6 + 1, 2, none⟩ (.string so)).heap.size (.slice N nn cn) (normL (r.xs.map hd))) := own_set HROW.out (by omega)
  have HX4 : Hid (a4.A = N ∧ a4.n = nn ∧ a4.c = cn) := by rw [HA4.out]; exact ⟨rfl, rfl, rfl⟩
  clear ha4
  have s9 := HN13.out.z.c5
  have f9 := HN13.out.ownz
  unfold OwnB at f9
  obtain ⟨r0, r1, r2, r3, r4, r5, r6, r7, r8, r9⟩ := HNA.out.z
  rw [HX4.out.1, HX4.out.2.1, HX4.out.2.2] at r5
  obtain ⟨c0, c1, c2, c3, c4, c5, c6, c7, c8, c9⟩ := HNA.out.res
  have ff := HNA.out.own
  unfold OwnB at ff
  go_wp2
  obtain ⟨q0, q1, q2, q3, q4, q5, q6, q7, q8, q9⟩ := HNA.out.res.put_at a4
  dsimp only [RqAt.put] at q0 q1 q2 q3 q4 q5 q6 q7 q8 q9
  rw [HX4.out.1, HX4.out.2.1, HX4.out.2.2] at q0 q1 q2 q3 q4 q5 q6 q7 q8 q9
  refine bodyPost_ret (v := .agg #[.string a4.m, .string a4.u, .string a4.o, .int .i64 a4.mode, .bool a4.cr, .slice N nn cn, .int .i64 a4.cl, .int .u64 a4.tm, .int .i64 a4.gr, .int .i64 a4.sg]) (by simp [results, Tryz.results14, go_sem, q0, q1, q2, q3, q4, q5, q6, q7, q8, q9]) rfl ?_
  have hl7 := HNA.out.lt7
  have e4 := HA4.out
  subst e4
  have e1 : sm.data.toList = Lk.normL r.m.data.toList := by rw [HSM.out, mk_data]
  have e2 : su.data.toList = (tgtL r.q.u).1.show_ := by rw [HSU.out, mk_data, HTU.out]
  have e3 : so.data.toList = showL (orgO r.q.o).1 (orgO r.q.o).2.1 (orgO r.q.o).2.2 := by rw [HSO.out, mk_data, ← show _ = orgO r.q.o from HOO.out]
  have h5 := own_rq (g := w.heap.size + 1) HRA.out (by omega) { r with m := sm, u := su, o := so, A := N, n := nn, c := cn, xs := ys }
  obtain ⟨A', n', c', ys', e', hn', hy', _, hp'⟩ := HdRow.row h5
  injection e' with eA en ec
  have ey : ys' = ys := row_alike (hy'.trans HYS.out.symm)
  subst eA en ec ey
  refine ⟨{ r with m := sm, u := su, o := so, A := N, n := nn, c := cn, xs := ys' }, rfl, ?_, ⟨hp', HNN.out, ?_, HZ.out.2.2, HZ.out.2.1, HZ.out.1⟩, RqAt.put_below HNA.out.bel (Nat.le_succ _) { r with m := sm, u := su, o := so, A := N, n := nn, c := cn, xs := ys' }⟩
  · rw [HNQ.out]
    show (⟨sm.data.toList, su.data.toList, so.data.toList, r.mode, r.cr, ys'.map hd, r.cl, r.tm, r.gr, r.sg⟩ : Rq) = _
    rw [e1, e2, e3, HYS.out]
    rfl
  · show Sm (ys'.map hd)
    rw [HYS.out]
    exact sm_norm HK.out.sm

theorem want_o {q : Rq} (h : askI q = 0) : (wantQ q).o = (normQ q).o ∧ (wantQ q).u = (normQ q).u ∧ (wantQ q).cr = q.cr ∧ (wantQ q).m = Lk.normL q.m ∧ (wantQ q).n = comL (namesQ q) := by
  unfold wantQ namesQ; rw [if_pos h, if_pos h, norm_is h]; exact ⟨rfl, rfl, rfl, rfl, rfl⟩
theorem want_no {q : Rq} (h : ¬ askI q = 0) : wantQ q = ⟨[], [], false, [], []⟩ := by unfold wantQ; rw [if_neg h]
/-- what holds all through: the request in the first block, nothing in the second, which is the result's (a cell) -/
structure RcAt (w W : World) (r : Rv) : Prop where
  bel : Below w.heap.size w W
  env0 : Env8 w
  ok0 : RqOk w r
  req : RqAt W w.heap.size r
  e0 : W.cell? ⟨w.heap.size + 1, 0, none⟩ = some (.string ⟨#[]⟩)
  e1 : W.cell? ⟨w.heap.size + 1, 1, none⟩ = some (.string ⟨#[]⟩)
  e2 : W.cell? ⟨w.heap.size + 1, 2, none⟩ = some (.bool false)
  own : OwnB W (w.heap.size + 1)
  lt : w.heap.size + 1 < W.heap.size
theorem RcAt.env {w W : World} {r : Rv} (h : RcAt w W r) : Env8 W := h.env0.below h.bel
theorem RcAt.ok {w W : World} {r : Rv} (h : RcAt w W r) : RqOk W r := h.ok0.below h.bel
theorem RcAt.next {w W W' : World} {r : Rv} (h : RcAt w W r) (hb : Below W.heap.size W W') : RcAt w W' r :=
  ⟨h.bel.trans (hb.mono h.bel.size), h.env0, h.ok0, h.req.below hb h.req.lt, (hb.cell (p := ⟨w.heap.size + 1, 0, none⟩) h.lt).trans h.e0, (hb.cell (p := ⟨w.heap.size + 1, 1, none⟩) h.lt).trans h.e1, (hb.cell (p := ⟨w.heap.size + 1, 2, none⟩) h.lt).trans h.e2, h.own.below hb h.lt, Nat.lt_of_lt_of_le h.lt hb.size⟩
theorem RcAt.new {w : World} {r : Rv} (he : Env8 w) (hr : RqOk w r) (t t' : TypeId) : RcAt w ((w.alloc (.cells #[.string r.m, .string r.u, .string r.o, .int .i64 r.mode, .bool r.cr, .slice r.A r.n r.c, .int .i64 r.cl, .int .u64 r.tm, .int .i64 r.gr, .int .i64 r.sg] t)).alloc (.cells #[.string ⟨#[]⟩, .string ⟨#[]⟩, .bool false] t')) r := by
  have e : (w.alloc (.cells #[.string r.m, .string r.u, .string r.o, .int .i64 r.mode, .bool r.cr, .slice r.A r.n r.c, .int .i64 r.cl, .int .u64 r.tm, .int .i64 r.gr, .int .i64 r.sg] t)).heap.size = w.heap.size + 1 := by simp
  have h3 := OwnB.new (w.alloc (.cells #[.string r.m, .string r.u, .string r.o, .int .i64 r.mode, .bool r.cr, .slice r.A r.n r.c, .int .i64 r.cl, .int .u64 r.tm, .int .i64 r.gr, .int .i64 r.sg] t)) #[.string ⟨#[]⟩, .string ⟨#[]⟩, .bool false] t'
  rw [e] at h3
  refine ⟨((Below.refl _ _).alloc (Nat.le_refl _) _).alloc (by rw [e]; omega) _, he, hr, (RqAt.new w r t).below ((Below.refl _ _).alloc (Nat.le_refl _) _) (RqAt.new w r t).lt, ?_, ?_, ?_, h3, by simp⟩
  · rw [← e]; simp
  · rw [← e]; simp
  · rw [← e]; simp
theorem RcAt.ret {w W : World} {r : Rv} (h : RcAt w W r) (zo zu : ByteArray) (zc : Bool) :
    (((W.setCell ⟨w.heap.size + 1, 0, none⟩ (.string zo)).setCell ⟨w.heap.size + 1, 1, none⟩ (.string zu)).setCell ⟨w.heap.size + 1, 2, none⟩ (.bool zc)).cell? ⟨w.heap.size + 1, 0, none⟩ = some (.string zo) ∧
    (((W.setCell ⟨w.heap.size + 1, 0, none⟩ (.string zo)).setCell ⟨w.heap.size + 1, 1, none⟩ (.string zu)).setCell ⟨w.heap.size + 1, 2, none⟩ (.bool zc)).cell? ⟨w.heap.size + 1, 1, none⟩ = some (.string zu) ∧
    (((W.setCell ⟨w.heap.size + 1, 0, none⟩ (.string zo)).setCell ⟨w.heap.size + 1, 1, none⟩ (.string zu)).setCell ⟨w.heap.size + 1, 2, none⟩ (.bool zc)).cell? ⟨w.heap.size + 1, 2, none⟩ = some (.bool zc) :=
  ⟨cell_keep (j := 2) (v := .bool zc) (cell_keep (j := 1) (v := .string zu) (World.cell?_setCell_same W ⟨w.heap.size + 1, 0, none⟩ (.string zo) h.e0) (by decide)) (by decide),
   cell_keep (j := 2) (v := .bool zc) (World.cell?_setCell_same (W.setCell ⟨w.heap.size + 1, 0, none⟩ (.string zo)) ⟨w.heap.size + 1, 1, none⟩ (.string zu) (cell_keep h.e1 (by decide))) (by decide),
   World.cell?_setCell_same ((W.setCell ⟨w.heap.size + 1, 0, none⟩ (.string zo)).setCell ⟨w.heap.size + 1, 1, none⟩ (.string zu)) ⟨w.heap.size + 1, 2, none⟩ (.bool zc) (cell_keep (cell_keep h.e2 (by decide)) (by decide))⟩

set_option maxRecDepth 100000 in
set_option maxHeartbeats 4000000 in
theorem refCell8_any (r : Rv) (w : World) (hr : RqOk w r) (he : Env8 w) :
    Calls Tryz.prog 25 #[r.v] w fun e w' => e = .returned (.agg #[.string (mk (wantQ r.q).o), .string (mk (wantQ r.q).u), .bool (wantQ r.q).cr]) ∧ Below w.heap.size w w' := by
  unfold Rv.v
  obtain ⟨W, hW⟩ : ∃ W, W = (w.alloc (Obj.cells #[.string r.m, .string r.u, .string r.o, .int .i64 r.mode, .bool r.cr, .slice r.A r.n r.c, .int .i64 r.cl, .int .u64 r.tm, .int .i64 r.gr, .int .i64 r.sg] 25)).alloc (Obj.cells #[.string ⟨#[]⟩, .string ⟨#[]⟩, .bool false] 37) := ⟨_, rfl⟩
  have HP0 : Hid (RcAt w W r) := by rw [hW]; exact RcAt.new he hr _ _
  clear hr he
  go_enter Tryz.func25, Tryz.ntmps25
  go_wp2_with fail
  rw [← hW]
  clear hW
  refine (refCheck8_any r _ HP0.out.ok HP0.out.env).mono ?_
  rintro e w1 ⟨rfl, hb⟩
  have HP1 : Hid (RcAt w w1 r) := HP0.out.next hb
  clear hb HP0
  obtain ⟨ac, hac⟩ : ∃ c, c = askI r.q := ⟨_, rfl⟩
  rw [← hac]
  by_cases h0 : ac = 0
  case neg =>
    have HA := Lib.hid (want_no (by rw [← hac]; exact h0 : ¬ askI r.q = 0))
    clear hac
    have e0 := HP1.out.e0
    have e1 := HP1.out.e1
    have e2 := HP1.out.e2
    have ff := HP1.out.own
    unfold OwnB at ff
    go_wp2
    obtain ⟨q0, q1, q2⟩ := HP1.out.ret ⟨#[]⟩ ⟨#[]⟩ false
    refine bodyPost_ret (v := .agg #[.string ⟨#[]⟩, .string ⟨#[]⟩, .bool false]) (by simp [results, Tryz.results25, go_sem, q0, q1, q2]) rfl ?_
    exact ⟨by rw [HA.out]; rfl, ((HP1.out.bel.setCell (Nat.le_succ _) _).setCell (Nat.le_succ _) _).setCell (Nat.le_succ _) _⟩
  have HC : Hid (askI r.q = 0) := by show _ = _; rw [← hac, h0]
  subst h0
  clear hac
  have HWO := Lib.hid (want_o HC.out)
  obtain ⟨r0, r1, r2, r3, r4, r5, r6, r7, r8, r9⟩ := HP1.out.req
  go_wp2_with fail
  refine (refNorm8_any r _ HP1.out.ok HP1.out.env).mono ?_
  rintro e w2 ⟨z, rfl, hzq, _, hb⟩
  have HP2 : Hid (RcAt w w2 r) := HP1.out.next hb
  have HEO : Hid (z.o = mk (wantQ r.q).o) := by show _ = _; rw [HWO.out.1, ← hzq]; exact (mk_eq z.o).symm
  have HEU : Hid (z.u = mk (wantQ r.q).u) := by show _ = _; rw [HWO.out.2.1, ← hzq]; exact (mk_eq z.u).symm
  clear hb hzq r0 r1 r2 r3 r4 r5 r6 r7 r8 r9
  simp only [Rv.v]
  have HA := Lib.hid ((Below.refl w2.heap.size w2).alloc (Nat.le_refl _) (Obj.cells #[.string z.m, .string z.u, .string z.o, .int .i64 z.mode, .bool z.cr, .slice z.A z.n z.c, .int .i64 z.cl, .int .u64 z.tm, .int .i64 z.gr, .int .i64 z.sg] 25))
  have HP3 := Lib.hid (HP2.out.next HA.out)
  obtain ⟨t0, t1, t2, t3, t4, t5, t6, t7, t8, t9⟩ := RqAt.new w2 z 25
  obtain ⟨r0, r1, r2, r3, r4, r5, r6, r7, r8, r9⟩ := HP3.out.req
  have e0 := HP3.out.e0
  have e1 := HP3.out.e1
  have e2 := HP3.out.e2
  have ff := HP3.out.own
  unfold OwnB at ff
  go_wp2
  obtain ⟨q0, q1, q2⟩ := HP3.out.ret z.o z.u r.cr
  refine bodyPost_ret (v := .agg #[.string z.o, .string z.u, .bool r.cr]) (by simp [results, Tryz.results25, go_sem, q0, q1, q2]) rfl ?_
  exact ⟨by rw [HEO.out, HEU.out, HWO.out.2.2.1]; rfl, ((HP3.out.bel.setCell (Nat.le_succ _) _).setCell (Nat.le_succ _) _).setCell (Nat.le_succ _) _⟩
end Go.Proofs.YticedcnmajcgbaaGreatDoor
