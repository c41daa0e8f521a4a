/-
  The contract of flight's Judge over this seat's program. Conditions: the request's headers and the answer's lie where they say and are not too many; the library's variables and the tables of methods are as they are laid.
-/
import Derived.Test.YtlkneapidmdpbaaGreatDoorFOnce
import Derived.Test.YtlkneapidmdpbaaGreatDoorFMath2
namespace Go.Proofs.YtlkneapidmdpbaaGreatDoor
open Go.RowKit

theorem srow_set_no {w : World} {B : Nat} {A : Option Addr} {xs : List ByteArray} {g i : Nat} {u v : Value} (h : SRow w B A xs) (hc : w.cell? ⟨g, i, none⟩ = some u) (hu : ∀ x, u ≠ .string x) : SRow (w.setCell ⟨g, i, none⟩ v) B A xs := by
  intro j x hj
  obtain ⟨ad, e, h1, hq⟩ := h j x hj
  refine ⟨ad, e, h1, ?_⟩
  rw [World.cell?_setCell_other]
  · exact hq
  · intro e2
    rw [← e2] at hq
    rw [hc] at hq
    injection hq with hq
    exact hu _ hq
theorem AvIs.set_no {w : World} {b : Av} {z : Al} {g i : Nat} {u v : Value} (h : AvIs w b z) (hc : w.cell? ⟨g, i, none⟩ = some u) (hu : ∀ x, u ≠ .string x) : AvIs (w.setCell ⟨g, i, none⟩ v) b z := by
  have e : (w.setCell ⟨g, i, none⟩ v).heap.size = w.heap.size := by simp [World.setCell]
  exact ⟨by rw [e]; exact srow_set_no h.r1 hc hu, by rw [e]; exact srow_set_no h.r2 hc hu, h.e1, h.e2, h.g, h.l1, h.l2⟩
theorem AvIs.put {W : World} {b a0 : Av} {z : Al} {g : Nat} (h : AvIs W b z) (o : AlAt W g a0) (a : Av) : AvIs (AlAt.put W g a) b z := by
  have h0 := h.set_no (v := .slice a.A1 a.n1 a.c1) o.c0 (fun x e => by cases e)
  have o1 := o.set0 a.A1 a.n1 a.c1
  have h1 := h0.set_no (v := .slice a.A2 a.n2 a.c2) o1.c1 (fun x e => by cases e)
  have o2 := o1.set1 a.A2 a.n2 a.c2
  exact h1.set_no (v := .int .u64 a.g) o2.c2 (fun x e => by cases e)
/-- what holds all through: the request in the first block, the result in the second -/
structure JdF (w W : World) (r : Rv) (A : Option Addr) (xs : List (ByteArray × ByteArray)) : Prop where
  bel : Below w.heap.size w W
  env0 : Env8 w
  ok0 : RqOk w r
  row0 : PRow w w.heap.size A xs
  req : RqAt W w.heap.size r
  res : AlAt W (w.heap.size + 1) Av.zero
section
variable {w W W' : World} {r : Rv} {A : Option Addr} {xs : List (ByteArray × ByteArray)}
theorem JdF.next (h : JdF w W r A xs) (hb : Below W.heap.size W W') : JdF w W' r A xs :=
  ⟨h.bel.trans (hb.mono h.bel.size), h.env0, h.ok0, h.row0, h.req.below hb h.req.lt, h.res.up hb⟩
theorem JdF.env (h : JdF w W r A xs) : Env8 W := h.env0.below h.bel
theorem JdF.ok (h : JdF w W r A xs) : RqOk W r := h.ok0.below h.bel
theorem JdF.row (h : JdF w W r A xs) : PRow W w.heap.size A xs := h.row0.below h.bel
theorem JdF.new (he : Env8 w) (hr : RqOk w r) (hx : PRow w w.heap.size A xs) (t t' : TypeId) : JdF w ((w.alloc (.cells #[.string r.m, .string r.u, .string r.o, .int .i64 r.mode, .bool r.cr, .slice r.A r.n r.c, .int .i64 r.cl, .int .u64 r.tm, .int .i64 r.gr, .int .i64 r.sg] t)).alloc (.cells #[.slice none 0 0, .slice none 0 0, .int .u64 0] t')) r A xs := by
  have e : (w.alloc (.cells #[.string r.m, .string r.u, .string r.o, .int .i64 r.mode, .bool r.cr, .slice r.A r.n r.c, .int .i64 r.cl, .int .u64 r.tm, .int .i64 r.gr, .int .i64 r.sg] t)).heap.size = w.heap.size + 1 := by simp
  have h1 := RqAt.new w r t
  have h2 := AlAt.new (w.alloc (.cells #[.string r.m, .string r.u, .string r.o, .int .i64 r.mode, .bool r.cr, .slice r.A r.n r.c, .int .i64 r.cl, .int .u64 r.tm, .int .i64 r.gr, .int .i64 r.sg] t)) Av.zero t'
  rw [e] at h2
  exact ⟨((Below.refl _ _).alloc (Nat.le_refl _) _).alloc (by rw [e]; omega) _, he, hr, hx, h1.below ((Below.refl _ _).alloc (Nat.le_refl _) _) h1.lt, h2⟩
end
structure JgF (W : World) (g1 g4 : Nat) (r : Rv) (a : Av) : Prop where
  r : RqAt W g1 r
  a : AlAt W g4 a
theorem JgF.below {W W' : World} {g1 g4 : Nat} {r : Rv} {a : Av} (o : JgF W g1 g4 r a) (hb : Below W.heap.size W W') : JgF W' g1 g4 r a := ⟨o.r.below hb o.r.lt, o.a.up hb⟩
def JPost (q : Rq) (st : Int) (H : List Hd) (w : World) (e : Ending) (w' : World) : Prop :=
  ∃ a : Av, e = .returned (.tuple #[a.v, .int .i64 (judgeI q st H)]) ∧ AvIs w' a (judgeA q st H) ∧ Below w.heap.size w w'
theorem jpost_no {q : Rq} {st : Int} {H : List Hd} {w W : World} {k : Int} (h : judgeI q st H = k) (hk : k ≠ 0) (hb : Below w.heap.size w W) :
    JPost q st H w (.returned (.tuple #[.agg #[.slice none 0 0, .slice none 0 0, .int .u64 0], .int .i64 k])) W :=
  ⟨Av.zero, by rw [h]; rfl, by rw [judgeA_no h hk]; exact AvIs.zero _, hb⟩
theorem names_len_ok {q : Rq} : (∀ x ∈ namesQ q, x.length ≤ maxLen) ∧ (namesQ q).length ≤ maxLen :=
  ⟨fun x hx => by have := (names_toks.1 x hx).2.1; unfold maxLen; omega, by have := (names_toks (q := q)).2; unfold maxLen; omega⟩
theorem want_sizes {q : Rq} (h : askI q = 0) : (mk (wantQ q).o).size ≤ maxLen ∧ (mk (wantQ q).m).size ≤ maxLen := by
  have h1 := (want_o_vis h).2.1
  have h2 := (want_tok h).2
  rw [mk_size, mk_size]
  unfold maxLen
  exact ⟨by omega, by omega⟩

set_option maxRecDepth 100000 in
set_option maxHeartbeats 8000000 in
theorem fJudge_any (r : Rv) (st : Int) (A : Option Addr) (len c B : Nat) (xs : List (ByteArray × ByteArray)) (w : World) (hr : RqOk w r) (he : Env8 w) (hlen : len = xs.length) (hB : B ≤ w.heap.size) (hx : PRow w B A xs) (hsm : Sm (xs.map hd)) :
    Calls Tryz.prog 12 #[r.v, .int .i64 st, .slice A len c] w (JPost r.q st (xs.map hd) w) := by
  unfold Rv.v
  obtain ⟨W, hW⟩ : ∃ W, W = (w.alloc (Obj.cells #[.string r.m, .string r.u, .string r.o, .int .i64 r.mode, .bool r.cr, .slice r.A r.n r.c, .int .i64 r.cl, .int .u64 r.tm, .int .i64 r.gr, .int .i64 r.sg] 25)).alloc (Obj.cells #[.slice none 0 0, .slice none 0 0, .int .u64 0] 28) := ⟨_, rfl⟩
  have HP0 : Hid (JdF w W r A xs) := by rw [hW]; exact JdF.new he hr (hx.mono hB) _ _
  have HS := Lib.hid hsm
  have HLen := Lib.hid hlen
  clear hr he hx hsm hlen hB
  go_enter Tryz.func12, Tryz.ntmps12
  go_wp2_with fail
  rw [← hW]
  clear hW
  refine (aNeeds_any r _ HP0.out.ok HP0.out.env).mono ?_
  rintro e w1 ⟨rfl, hb⟩
  have HP1 : Hid (JdF w w1 r A xs) := HP0.out.next hb
  clear hb HP0
  obtain ⟨nd, hnd⟩ : ∃ b, b = needsQ r.q := ⟨_, rfl⟩
  rw [← hnd]
  have HND := Lib.hid hnd
  clear hnd
  cases nd
  case false =>
    obtain ⟨c0, c1, c2, ff⟩ := HP1.out.res
    dsimp only [Av.zero] at c0 c1 c2
    go_wp2
    obtain ⟨q0, q1, q2, _⟩ := HP1.out.res.put_at Av.zero
    dsimp only [AlAt.put, Av.zero] at q0 q1 q2
    refine bodyPost_ret (v := .tuple #[.agg #[.slice none 0 0, .slice none 0 0, .int .u64 0], .int .i64 2]) (by simp [results, Tryz.results12, go_sem, q0, q1, q2]) rfl ?_
    exact jpost_no (judge_2 HND.out.symm) (by decide) (AlAt.put_below HP1.out.bel (Nat.le_succ _) Av.zero)
  case true =>
  have HNT : Hid (needsQ r.q = true) := HND.out.symm
  have HOK := Lib.hid (needs_ok HNT.out)
  have HSZ := Lib.hid (want_sizes HOK.out)
  obtain ⟨r0, r1, r2, r3, r4, r5, r6, r7, r8, r9⟩ := HP1.out.req
  go_wp2_with fail
  clear r0 r1 r2 r3 r4 r5 r6 r7 r8 r9
  refine (aWant_any r _ HP1.out.ok HP1.out.env).mono ?_
  rintro e w2 ⟨rfl, hb⟩
  have HP2 : Hid (JdF w w2 r A xs) := HP1.out.next hb
  clear hb HP1 HND
  obtain ⟨z, hz⟩ : ∃ z, z = wantQ r.q := ⟨_, rfl⟩
  rw [← hz] at HSZ ⊢
  have HZ := Lib.hid hz
  clear hz
  obtain ⟨w3, hw3⟩ : ∃ W, W = w2.alloc (Obj.cells #[.string (mk z.o), .string (mk z.u), .bool z.cr, .string (mk z.m), .string (mk z.n)] 52) := ⟨_, rfl⟩
  obtain ⟨g3, hg3⟩ : ∃ g, g = w2.heap.size := ⟨_, rfl⟩
  have hb3 : Below w2.heap.size w2 w3 := by rw [hw3]; exact (Below.refl _ _).alloc (Nat.le_refl _) _
  have HP3 : Hid (JdF w w3 r A xs) := HP2.out.next hb3
  have HW3 : Hid (WtAt w3 g3 (wvOf z)) := by show WtAt _ _ _; rw [hw3, hg3]; exact WtAt.new w2 (wvOf z) _
  clear hb3
  unfold wvOf Wv.v
  dsimp only
  go_upto_region 4 with fail
  rw [← hw3, ← hg3]
  clear hw3 hg3 HP2
  obtain ⟨c0, c1, c2, c3, c4⟩ := HW3.out
  obtain ⟨r0, r1, r2, r3, r4, r5, r6, r7, r8, r9⟩ := HP3.out.req
  dsimp only [wvOf] at c0 c1 c2 c3 c4
  go_wp2_with fail
  clear c0 c1 c2 c3 c4 r0 r1 r2 r3 r4 r5 r6 r7 r8 r9
  refine (CCheck_any (mk z.o) r.cr A len c w.heap.size xs _ HLen.out HP3.out.bel.size HP3.out.row HS.out).mono ?_
  rintro e w4 ⟨rfl, hb⟩
  rw [mk_data]
  have HP4 : Hid (JdF w w4 r A xs) := HP3.out.next hb
  have HW4 : Hid (WtAt w4 g3 (wvOf z)) := HW3.out.below hb HW3.out.lt
  clear hb HP3 HW3
  obtain ⟨k, hk⟩ : ∃ k, k = chkH z.o r.cr (xs.map hd) := ⟨_, rfl⟩
  rw [← hk]
  have HC : Hid (chkH (wantQ r.q).o r.q.cr (xs.map hd) = k) := by show _ = _; rw [← HZ.out, hk]; rfl
  clear hk
  by_cases hk0 : k = 0
  case neg =>
    have HJ : Hid (judgeI r.q st (xs.map hd) = k) := judge_c HNT.out HC.out hk0
    obtain ⟨c0, c1, c2, ff⟩ := HP4.out.res
    dsimp only [Av.zero] at c0 c1 c2
    go_wp2
    obtain ⟨q0, q1, q2, _⟩ := HP4.out.res.put_at Av.zero
    dsimp only [AlAt.put, Av.zero] at q0 q1 q2
    refine bodyPost_ret (v := .tuple #[.agg #[.slice none 0 0, .slice none 0 0, .int .u64 0], .int .i64 k]) (by simp [results, Tryz.results12, go_sem, q0, q1, q2]) rfl ?_
    exact jpost_no HJ.out hk0 (AlAt.put_below HP4.out.bel (Nat.le_succ _) Av.zero)
  subst hk0
  by_cases hs1 : st < 200
  case pos =>
    have HJ : Hid (judgeI r.q st (xs.map hd) = 14) := judge_14 HNT.out HC.out (.inl hs1)
    obtain ⟨c0, c1, c2, ff⟩ := HP4.out.res
    dsimp only [Av.zero] at c0 c1 c2
    go_wp2
    obtain ⟨q0, q1, q2, _⟩ := HP4.out.res.put_at Av.zero
    dsimp only [AlAt.put, Av.zero] at q0 q1 q2
    refine bodyPost_ret (v := .tuple #[.agg #[.slice none 0 0, .slice none 0 0, .int .u64 0], .int .i64 14]) (by simp [results, Tryz.results12, go_sem, q0, q1, q2]) rfl ?_
    exact jpost_no HJ.out (by decide) (AlAt.put_below HP4.out.bel (Nat.le_succ _) Av.zero)
  by_cases hs2 : 299 < st
  case pos =>
    have HJ : Hid (judgeI r.q st (xs.map hd) = 14) := judge_14 HNT.out HC.out (.inr hs2)
    obtain ⟨c0, c1, c2, ff⟩ := HP4.out.res
    dsimp only [Av.zero] at c0 c1 c2
    go_wp2
    obtain ⟨q0, q1, q2, _⟩ := HP4.out.res.put_at Av.zero
    dsimp only [AlAt.put, Av.zero] at q0 q1 q2
    refine bodyPost_ret (v := .tuple #[.agg #[.slice none 0 0, .slice none 0 0, .int .u64 0], .int .i64 14]) (by simp [results, Tryz.results12, go_sem, q0, q1, q2]) rfl ?_
    exact jpost_no HJ.out (by decide) (AlAt.put_below HP4.out.bel (Nat.le_succ _) Av.zero)
  have HST : Hid (¬ (st < 200 ∨ 299 < st)) := fun h => h.elim hs1 hs2
  go_wp2_with fail
  refine (ARead_any A len c w.heap.size xs _ HLen.out HP4.out.bel.size HP4.out.row HS.out).mono ?_
  rintro e w5 ⟨a, rfl, ha, hb⟩
  have HP5 : Hid (JdF w w5 r A xs) := HP4.out.next hb
  have HW5 : Hid (WtAt w5 g3 (wvOf z)) := HW4.out.below hb HW4.out.lt
  have HA5 := Lib.hid ha
  clear hb HP4 HW4 ha hs1 hs2
  obtain ⟨k, hk⟩ : ∃ k, k = readI (xs.map hd) := ⟨_, rfl⟩
  rw [← hk]
  have HRI : Hid (readI (xs.map hd) = k) := hk.symm
  clear hk
  obtain ⟨A1, n1, d1, A2, n2, d2, ag⟩ := a
  obtain ⟨w6, hw6⟩ : ∃ W, W = w5.alloc (Obj.cells #[.slice A1 n1 d1, .slice A2 n2 d2, .int .u64 ag] 28) := ⟨_, rfl⟩
  obtain ⟨g4, hg4⟩ : ∃ g, g = w5.heap.size := ⟨_, rfl⟩
  have hb6 : Below w5.heap.size w5 w6 := by rw [hw6]; exact (Below.refl _ _).alloc (Nat.le_refl _) _
  have HP6 : Hid (JdF w w6 r A xs) := HP5.out.next hb6
  have HW6 : Hid (WtAt w6 g3 (wvOf z)) := HW5.out.below hb6 HW5.out.lt
  have HA6 : Hid (AvIs w6 ⟨A1, n1, d1, A2, n2, d2, ag⟩ (readA (xs.map hd))) := HA5.out.below hb6
  have HL6 : Hid (AlAt w6 g4 ⟨A1, n1, d1, A2, n2, d2, ag⟩) := by show AlAt _ _ _; rw [hw6, hg4]; exact AlAt.new w5 ⟨A1, n1, d1, A2, n2, d2, ag⟩ _
  have HG4 : Hid (w.heap.size + 1 ≠ g4) := by show _ ≠ _; rw [hg4]; have := HP5.out.res.lt; omega
  clear hb6
  unfold Av.v
  dsimp only
  go_upto_region 10 with fail
  rw [← hw6, ← hg4]
  clear hw6 hg4 HP5 HW5 HA5
  by_cases hk0 : k = 0
  case neg =>
    have HJ : Hid (judgeI r.q st (xs.map hd) = k) := judge_r HNT.out HC.out HST.out HRI.out hk0
    obtain ⟨c0, c1, c2, ff⟩ := HP6.out.res
    dsimp only [Av.zero] at c0 c1 c2
    go_wp2
    obtain ⟨q0, q1, q2, _⟩ := HP6.out.res.put_at Av.zero
    dsimp only [AlAt.put, Av.zero] at q0 q1 q2
    refine bodyPost_ret (v := .tuple #[.agg #[.slice none 0 0, .slice none 0 0, .int .u64 0], .int .i64 k]) (by simp [results, Tryz.results12, go_sem, q0, q1, q2]) rfl ?_
    exact jpost_no HJ.out hk0 (AlAt.put_below HP6.out.bel (Nat.le_succ _) Av.zero)
  subst hk0
  obtain ⟨c0, c1, c2, c3, c4⟩ := HW6.out
  obtain ⟨r0, r1, r2, r3, r4, r5, r6, r7, r8, r9⟩ := HP6.out.req
  obtain ⟨p0, p1, p2, _⟩ := HL6.out
  dsimp only [wvOf] at c0 c1 c2 c3 c4 p0 p1 p2
  go_wp2_with fail
  clear c0 c1 c2 c3 c4 r0 r1 r2 r3 r4 r5 r6 r7 r8 r9 p0 p1 p2
  refine (Has_any ⟨A1, n1, d1, A2, n2, d2, ag⟩ _ (mk z.m) r.cr _ HA6.out HSZ.out.2 HP6.out.env.m).mono ?_
  rintro e w7 ⟨rfl, hb⟩
  rw [mk_data]
  have HP7 : Hid (JdF w w7 r A xs) := HP6.out.next hb
  have HA7 : Hid (AvIs w7 ⟨A1, n1, d1, A2, n2, d2, ag⟩ (readA (xs.map hd))) := HA6.out.below hb
  have HL7 := Lib.hid (HL6.out.up hb)
  clear hb HP6 HA6 HL6 HW6
  obtain ⟨hv, hhv⟩ : ∃ b, b = hasA (readA (xs.map hd)).ms z.m r.cr := ⟨_, rfl⟩
  rw [← hhv]
  have HHV : Hid (hasA (readA (xs.map hd)).ms (wantQ r.q).m r.q.cr = hv) := by show _ = _; rw [← HZ.out, hhv]; rfl
  clear hhv
  cases hv
  case false =>
    have HJ : Hid (judgeI r.q st (xs.map hd) = 5) := judge_5 HNT.out HC.out HST.out HRI.out HHV.out
    obtain ⟨c0, c1, c2, ff⟩ := HP7.out.res
    dsimp only [Av.zero] at c0 c1 c2
    go_wp2
    obtain ⟨q0, q1, q2, _⟩ := HP7.out.res.put_at Av.zero
    dsimp only [AlAt.put, Av.zero] at q0 q1 q2
    refine bodyPost_ret (v := .tuple #[.agg #[.slice none 0 0, .slice none 0 0, .int .u64 0], .int .i64 5]) (by simp [results, Tryz.results12, go_sem, q0, q1, q2]) rfl ?_
    exact jpost_no HJ.out (by decide) (AlAt.put_below HP7.out.bel (Nat.le_succ _) Av.zero)
  case true =>
  have HB7 : Hid (JgF w7 w.heap.size g4 r ⟨A1, n1, d1, A2, n2, d2, ag⟩) := ⟨HP7.out.req, HL7.out⟩
  go_upto_region 14 with fail
  refine mix_start (fun W => JgF W w.heap.size g4 r ⟨A1, n1, d1, A2, n2, d2, ag⟩) (by kernel_rfl) ?_
  have hne : Nonempty (Held (fun W => JgF W w.heap.size g4 r ⟨A1, n1, d1, A2, n2, d2, ag⟩)) := ⟨⟨_, HB7.out⟩⟩
  have zr0 : ∀ q : Held (fun W => JgF W w.heap.size g4 r ⟨A1, n1, d1, A2, n2, d2, ag⟩), q.w.cell? ⟨w.heap.size, 0, none⟩ = some (.string r.m) := fun q => q.h.r.c0
  have zr1 : ∀ q : Held (fun W => JgF W w.heap.size g4 r ⟨A1, n1, d1, A2, n2, d2, ag⟩), q.w.cell? ⟨w.heap.size, 1, none⟩ = some (.string r.u) := fun q => q.h.r.c1
  have zr2 : ∀ q : Held (fun W => JgF W w.heap.size g4 r ⟨A1, n1, d1, A2, n2, d2, ag⟩), q.w.cell? ⟨w.heap.size, 2, none⟩ = some (.string r.o) := fun q => q.h.r.c2
  have zr3 : ∀ q : Held (fun W => JgF W w.heap.size g4 r ⟨A1, n1, d1, A2, n2, d2, ag⟩), q.w.cell? ⟨w.heap.size, 3, none⟩ = some (.int .i64 r.mode) := fun q => q.h.r.c3
  have zr4 : ∀ q : Held (fun W => JgF W w.heap.size g4 r ⟨A1, n1, d1, A2, n2, d2, ag⟩), q.w.cell? ⟨w.heap.size, 4, none⟩ = some (.bool r.cr) := fun q => q.h.r.c4
  have zr5 : ∀ q : Held (fun W => JgF W w.heap.size g4 r ⟨A1, n1, d1, A2, n2, d2, ag⟩), q.w.cell? ⟨w.heap.size, 5, none⟩ = some (.slice r.A r.n r.c) := fun q => q.h.r.c5
  have zr6 : ∀ q : Held (fun W => JgF W w.heap.size g4 r ⟨A1, n1, d1, A2, n2, d2, ag⟩), q.w.cell? ⟨w.heap.size, 6, none⟩ = some (.int .i64 r.cl) := fun q => q.h.r.c6
  have zr7 : ∀ q : Held (fun W => JgF W w.heap.size g4 r ⟨A1, n1, d1, A2, n2, d2, ag⟩), q.w.cell? ⟨w.heap.size, 7, none⟩ = some (.int .u64 r.tm) := fun q => q.h.r.c7
  have zr8 : ∀ q : Held (fun W => JgF W w.heap.size g4 r ⟨A1, n1, d1, A2, n2, d2, ag⟩), q.w.cell? ⟨w.heap.size, 8, none⟩ = some (.int .i64 r.gr) := fun q => q.h.r.c8
  have zr9 : ∀ q : Held (fun W => JgF W w.heap.size g4 r ⟨A1, n1, d1, A2, n2, d2, ag⟩), q.w.cell? ⟨w.heap.size, 9, none⟩ = some (.int .i64 r.sg) := fun q => q.h.r.c9
  have za0 : ∀ q : Held (fun W => JgF W w.heap.size g4 r ⟨A1, n1, d1, A2, n2, d2, ag⟩), q.w.cell? ⟨g4, 0, none⟩ = some (.slice A1 n1 d1) := fun q => q.h.a.c0
  have za1 : ∀ q : Held (fun W => JgF W w.heap.size g4 r ⟨A1, n1, d1, A2, n2, d2, ag⟩), q.w.cell? ⟨g4, 1, none⟩ = some (.slice A2 n2 d2) := fun q => q.h.a.c1
  have za2 : ∀ q : Held (fun W => JgF W w.heap.size g4 r ⟨A1, n1, d1, A2, n2, d2, ag⟩), q.w.cell? ⟨g4, 2, none⟩ = some (.int .u64 ag) := fun q => q.h.a.c2
  obtain ⟨w8, hw8⟩ : ∃ W, W = w7.drew := ⟨_, rfl⟩
  rw [← hw8]
  have hb : Below w7.heap.size w7 w8 := by rw [hw8]; exact (Below.refl _ _).drew
  have HP8 : Hid (JdF w w8 r A xs) := HP7.out.next hb
  have HB8 := Lib.hid (HB7.out.below hb)
  have HA8 : Hid (AvIs w8 ⟨A1, n1, d1, A2, n2, d2, ag⟩ (readA (xs.map hd))) := HA7.out.below hb
  clear hb hw8 HP7 HB7 HA7 HL7
  refine mix_seg [0, 1, 3, 4] (by kernel_rfl) HB8.out ?_
  simp only [segOf, pickOps, pickOp]
  repeat (go_big_quiet_step (fail))
  refine wpQuiet_nil ?_
  refine mix_run 2 (by kernel_rfl) ?_
  simp only [segOf, pickOps, pickOp]
  go_wp2_with fail
  refine (aNames_any r _ HP8.out.ok HP8.out.env).mono ?_
  rintro e w9 ⟨v, rfl, hs, hb⟩
  have HP9 : Hid (JdF w w9 r A xs) := HP8.out.next hb
  have HB9 := Lib.hid (HB8.out.below hb)
  have HA9 : Hid (AvIs w9 ⟨A1, n1, d1, A2, n2, d2, ag⟩ (readA (xs.map hd))) := HA8.out.below hb
  obtain ⟨A9, c9, rfl, _, hs9⟩ := trow_of hs
  have HS9 := Lib.hid hs9
  clear hb HP8 HB8 HA8 hs hs9
  go_wp2_with fail
  refine MixPost.normal HB9.out ?_
  refine mix_run 5 (by kernel_rfl) ?_
  simp only [segOf, pickOps, pickOp]
  go_wp2_with fail
  refine (coversAll_any ⟨A1, n1, d1, A2, n2, d2, ag⟩ _ A9 _ c9 _ (namesQ r.q) r.cr _ HA9.out rfl (Nat.le_refl _) HS9.out names_len_ok.2 names_len_ok.1).mono ?_
  rintro e w10 ⟨rfl, hb⟩
  have HP10 : Hid (JdF w w10 r A xs) := HP9.out.next hb
  have HB10 := Lib.hid (HB9.out.below hb)
  have HA10 : Hid (AvIs w10 ⟨A1, n1, d1, A2, n2, d2, ag⟩ (readA (xs.map hd))) := HA9.out.below hb
  clear hb HP9 HB9 HA9 HS9
  obtain ⟨hv, hhv⟩ : ∃ b, b = (namesQ r.q).all (fun s => covA (readA (xs.map hd)).hs s r.cr) := ⟨_, rfl⟩
  rw [← hhv]
  have HCV : Hid ((namesQ r.q).all (fun s => covA (readA (xs.map hd)).hs s r.q.cr) = hv) := by show _ = _; rw [hhv]; rfl
  clear hhv
  go_wp2_with fail
  refine MixPost.normal HB10.out ?_
  refine mix_seg [6] (by kernel_rfl) HB10.out ?_
  simp only [segOf, pickOps, pickOp]
  repeat (go_big_quiet_step (fail))
  refine wpQuiet_nil ?_
  refine mix_done (by kernel_rfl) ?_
  clear zr0 zr1 zr2 zr3 zr4 zr5 zr6 zr7 zr8 zr9 za0 za1 za2 hne
  cases hv
  case false =>
    have HJ : Hid (judgeI r.q st (xs.map hd) = 6) := judge_6 HNT.out HC.out HST.out HRI.out HHV.out HCV.out
    obtain ⟨c0, c1, c2, ff⟩ := HP10.out.res
    dsimp only [Av.zero] at c0 c1 c2
    go_wp2
    obtain ⟨q0, q1, q2, _⟩ := HP10.out.res.put_at Av.zero
    dsimp only [AlAt.put, Av.zero] at q0 q1 q2
    refine bodyPost_ret (v := .tuple #[.agg #[.slice none 0 0, .slice none 0 0, .int .u64 0], .int .i64 6]) (by simp [results, Tryz.results12, go_sem, q0, q1, q2]) rfl ?_
    exact jpost_no HJ.out (by decide) (AlAt.put_below HP10.out.bel (Nat.le_succ _) Av.zero)
  case true =>
  have HJ : Hid (judgeI r.q st (xs.map hd) = 0) := judge_0 HNT.out HC.out HST.out HRI.out HHV.out HCV.out
  obtain ⟨c0, c1, c2, ff⟩ := HP10.out.res
  obtain ⟨p0, p1, p2, _⟩ := HB10.out.a
  dsimp only [Av.zero] at c0 c1 c2
  dsimp only at p0 p1 p2
  go_wp2
  obtain ⟨q0, q1, q2, _⟩ := HP10.out.res.put_at ⟨A1, n1, d1, A2, n2, d2, ag⟩
  dsimp only [AlAt.put] at q0 q1 q2
  refine bodyPost_ret (v := .tuple #[.agg #[.slice A1 n1 d1, .slice A2 n2 d2, .int .u64 ag], .int .i64 0]) (by simp [results, Tryz.results12, go_sem, q0, q1, q2]) rfl ?_
  exact ⟨⟨A1, n1, d1, A2, n2, d2, ag⟩, by rw [HJ.out]; rfl, by rw [judgeA_yes HJ.out]; exact HA10.out.put HP10.out.res ⟨A1, n1, d1, A2, n2, d2, ag⟩, AlAt.put_below HP10.out.bel (Nat.le_succ _) ⟨A1, n1, d1, A2, n2, d2, ag⟩⟩
end Go.Proofs.YtlkneapidmdpbaaGreatDoor
