/-
  Contracts of ask's Want and Cell over this seat's program. Conditions: the request's headers lie where it says and are not too many; the library's variables and the tables of methods are as they are laid.
-/
import Derived.Test.YticedcnmajcgbaaGreatDoorAAsk
namespace Go.Proofs.YticedcnmajcgbaaGreatDoor
open Go.RowKit

theorem com_eq : ∀ l : List (List UInt8), Lib.join l [44] = comL l
  | [] => rfl
  | [x] => by rw [Lib.join_one]; rfl
  | x :: y :: r => by
    have := com_eq (y :: r)
    rw [Lib.join_cons] at this ⊢
    rw [comL, ← this, Lib.joinTail, Lib.joinTail]
    simp
theorem com_len : ∀ l : List (List UInt8), (comL l).length ≤ (l.map List.length).sum + l.length
  | [] => by simp [comL]
  | [x] => by simp [comL]
  | x :: y :: r => by
    have := com_len (y :: r)
    simp only [comL, List.length_append, List.length_cons, List.map_cons, List.sum_cons] at *
    omega
theorem com_snoc (l : List (List UInt8)) (x : List UInt8) (h : l ≠ []) : comL (l ++ [x]) = comL l ++ 44 :: x := by
  induction l with
  | nil => exact absurd rfl h
  | cons y r ih =>
    cases r with
    | nil => rfl
    | cons z r =>
      have := ih (by simp)
      show y ++ 44 :: comL ((z :: r) ++ [x]) = (y ++ 44 :: comL (z :: r)) ++ 44 :: x
      rw [this]; simp
theorem sum_le8 {l : List (List UInt8)} {n : Nat} (h : ∀ x ∈ l, x.length ≤ n) : (l.map List.length).sum ≤ n * l.length := by
  induction l with
  | nil => simp
  | cons x r ih =>
    have h1 := h x (by simp)
    have h2 := ih (fun y hy => h y (List.mem_cons_of_mem _ hy))
    simp only [List.map_cons, List.sum_cons, List.length_cons]
    rw [Nat.mul_add]; omega
theorem names_small {l : List Hd} (h : Sm l) : (∀ x ∈ safeNames l, x.length ≤ 100000) ∧ (safeNames l).length ≤ 1000 := by
  refine ⟨fun x hx => ?_, Nat.le_trans (safeNames_len l) h.1⟩
  obtain ⟨g, hg, rfl⟩ := (names_mem l x).1 (safeNames_lows hx)
  rw [Lk.lower_len]
  exact (h.2 g hg).1
theorem namesQ_small {r : Rv} {w : World} (h : RqOk w r) : (∀ x ∈ namesQ r.q, x.length ≤ 100000) ∧ (namesQ r.q).length ≤ 1000 := by
  unfold namesQ
  split
  · exact names_small h.sm
  · simp
theorem com_small {l : List (List UInt8)} (h : (∀ x ∈ l, x.length ≤ 100000) ∧ l.length ≤ 1000) : (comL l).length ≤ 1099511627776 := by
  have h1 := com_len l
  have h2 := sum_le8 h.1
  have h3 : 100000 * l.length ≤ 100000 * 1000 := Nat.mul_le_mul_left _ h.2
  have := h.2
  omega
theorem dat_mk8 (l : List (List UInt8)) : dat (l.map mk) = l := by
  unfold dat
  rw [List.map_map]
  conv => rhs; rw [← List.map_id l]
  apply List.map_congr_left
  intro x _
  exact mk_data x

/-- strings.Join with one comma, of a row of the call's own -/
theorem SJoin_any (v : Value) (base : Nat) (l : List (List UInt8)) (w : World) (t : ByteArray) (h : sown w base v l) (hl : (comL l).length ≤ 1099511627776) (hn : l.length ≤ 1000) (ht : t = mk (comL l)) :
    Calls Tryz.prog 48 #[v, .string ⟨#[44]⟩] w fun e w' => e = .returned (.string t) ∧ Below w.heap.size w w' := by
  subst ht
  obtain ⟨A, c, rfl, hc, hx⟩ := trow_of h
  by_cases h0 : l = []
  · subst h0
    refine (Tryz.strings_Join_none _ _ _ _).mono ?_
    rintro e w' ⟨rfl, rfl⟩
    exact ⟨rfl, Below.refl _ _⟩
  · obtain ⟨x0, r, rfl⟩ := List.exists_cons_of_ne_nil h0
    obtain ⟨⟨bk, o, spot⟩, rfl, hb, hc0⟩ := hx 0 (mk x0) rfl
    have hs : spot = none := by simpa [Addr.add] using World.cell?_spot hc0
    subst hs
    have hcells : ∀ (j : Nat) x, ((x0 :: r).map mk)[j]? = some x → w.cell? ⟨bk, o + j, none⟩ = some (.string x) := by
      intro j x hj
      obtain ⟨ad, e, _, hcj⟩ := hx j x hj
      injection e with e
      subst e
      have e2 : (⟨bk, o, none⟩ : Addr).add j = ⟨bk, o + j, none⟩ := by unfold Addr.add; split <;> simp_all
      rw [← e2]; exact hcj
    have e : Lib.join (((x0 :: r).map mk).map (·.data.toList)) (ByteArray.mk #[44]).data.toList = comL (x0 :: r) := by
      rw [show (((x0 :: r).map mk).map (·.data.toList)) = x0 :: r from dat_mk8 (x0 :: r)]; exact com_eq _
    have hle : (x0 :: r).length = ((x0 :: r).map mk).length := by simp
    rw [hle] at hc ⊢
    refine (Tryz.strings_Join bk o c _ ⟨#[44]⟩ w hcells hb (by simp at hn ⊢; omega) hc (by rw [e]; omega)).mono ?_
    rintro e' w' ⟨rfl, hb⟩
    exact ⟨ret_string (by rw [e]; rfl), hb⟩

/-- what holds all through: the request in the first block, nothing in the second, which is the result's -/
structure WnAt (w W : World) (r : Rv) : Prop where
  bel : Below w.heap.size w W
  env0 : Env8 w
  ok0 : RqOk w r
  req : RqAt W w.heap.size r
  res : WtAt W (w.heap.size + 1) Wv.zero
  own : OwnB W (w.heap.size + 1)
theorem WnAt.env {w W : World} {r : Rv} (h : WnAt w W r) : Env8 W := h.env0.below h.bel
theorem WnAt.ok {w W : World} {r : Rv} (h : WnAt w W r) : RqOk W r := h.ok0.below h.bel
theorem WnAt.next {w W W' : World} {r : Rv} (h : WnAt w W r) (hb : Below W.heap.size W W') : WnAt w W' r :=
  ⟨h.bel.trans (hb.mono h.bel.size), h.env0, h.ok0, h.req.below hb h.req.lt, h.res.below hb h.res.lt, h.own.below hb h.res.lt⟩
theorem WnAt.alloc {w W : World} {r : Rv} (h : WnAt w W r) (o : Obj) : WnAt w (W.alloc o) r := h.next ((Below.refl _ _).alloc (Nat.le_refl _) o)
theorem WnAt.new {w : World} {r : Rv} (he : Env8 w) (hr : RqOk w r) (t t' : TypeId) : WnAt w ((w.alloc (.cells #[.string r.m, .string r.u, .string r.o, .int .i64 r.mode, .bool r.cr, .slice r.A r.n r.c, .int .i64 r.cl, .int .u64 r.tm, .int .i64 r.gr, .int .i64 r.sg] t)).alloc (.cells #[.string ⟨#[]⟩, .string ⟨#[]⟩, .bool false, .string ⟨#[]⟩, .string ⟨#[]⟩] t')) r := by
  have e : (w.alloc (.cells #[.string r.m, .string r.u, .string r.o, .int .i64 r.mode, .bool r.cr, .slice r.A r.n r.c, .int .i64 r.cl, .int .u64 r.tm, .int .i64 r.gr, .int .i64 r.sg] t)).heap.size = w.heap.size + 1 := by simp
  have h1 := RqAt.new w r t
  have h2 := WtAt.new (w.alloc (.cells #[.string r.m, .string r.u, .string r.o, .int .i64 r.mode, .bool r.cr, .slice r.A r.n r.c, .int .i64 r.cl, .int .u64 r.tm, .int .i64 r.gr, .int .i64 r.sg] t)) Wv.zero t'
  have h3 := OwnB.new (w.alloc (.cells #[.string r.m, .string r.u, .string r.o, .int .i64 r.mode, .bool r.cr, .slice r.A r.n r.c, .int .i64 r.cl, .int .u64 r.tm, .int .i64 r.gr, .int .i64 r.sg] t)) #[.string ⟨#[]⟩, .string ⟨#[]⟩, .bool false, .string ⟨#[]⟩, .string ⟨#[]⟩] t'
  rw [e] at h2 h3
  exact ⟨((Below.refl _ _).alloc (Nat.le_refl _) _).alloc (by rw [e]; omega) _, he, hr, h1.below ((Below.refl _ _).alloc (Nat.le_refl _) _) h1.lt, h2, h3⟩
structure Bl2 (W : World) (g3 g1 : Nat) (p : Pv) (r : Rv) : Prop where
  p : PtAt W g3 p
  r : RqAt W g1 r
theorem Bl2.below {W W' : World} {g3 g1 : Nat} {p : Pv} {r : Rv} (o : Bl2 W g3 g1 p r) (hb : Below W.heap.size W W') : Bl2 W' g3 g1 p r :=
  ⟨o.p.below hb o.p.lt, o.r.below hb o.r.lt⟩
theorem Bl2.put {W : World} {g3 g1 g : Nat} {p : Pv} {r : Rv} (o : Bl2 W g3 g1 p r) (h3 : g3 ≠ g) (h1 : g1 ≠ g) (z : Wv) : Bl2 (WtAt.put W g z) g3 g1 p r :=
  ⟨o.p.besideWtAt h3 z, o.r.besideWtAt h1 z⟩
theorem want_is {q : Rq} {p : Pv} (h : PvIs q p) (h0 : askI q = 0) : wantQ q = ⟨showL p.s.data.toList p.h.data.toList p.k, (urlOf p.a p.b p.n p.c p.d).show_, q.cr, Lk.normL q.m, comL (namesQ q)⟩ := by
  have e1 := h.url
  have e2 := h.org
  rw [urlQ, if_pos h0] at e1
  rw [fromQ, if_pos h0] at e2
  unfold wantQ namesQ
  rw [if_pos h0, if_pos h0, norm_is h0, e1, ← e2]

set_option maxRecDepth 100000 in
set_option maxHeartbeats 4000000 in
theorem aWant_any (r : Rv) (w : World) (hr : RqOk w r) (he : Env8 w) :
    Calls Tryz.prog 26 #[r.v] w fun e w' => e = .returned (wvOf (wantQ r.q)).v ∧ Below w.heap.size w w' := by
  unfold Rv.v
  obtain ⟨W, hW⟩ : ∃ W, W = (w.alloc (Obj.cells #[.string r.m, .string r.u, .string r.o, .int .i64 r.mode, .bool r.cr, .slice r.A r.n r.c, .int .i64 r.cl, .int .u64 r.tm, .int .i64 r.gr, .int .i64 r.sg] 25)).alloc (Obj.cells #[.string ⟨#[]⟩, .string ⟨#[]⟩, .bool false, .string ⟨#[]⟩, .string ⟨#[]⟩] 40) := ⟨_, rfl⟩
  have HP0 : Hid (WnAt w W r) := by rw [hW]; exact WnAt.new he hr _ _
  have HK := Lib.hid hr
  clear hr he
  go_enter Tryz.func26, Tryz.ntmps26
  go_wp2_with fail
  rw [← hW]
  clear hW
  refine (read_any r _ HP0.out.ok HP0.out.env).mono ?_
  rintro e w1 ⟨p, rfl, hp, hs, hb⟩
  have HPV := Lib.hid hp
  have HS1 := Lib.hid hs
  have HP1 : Hid (WnAt w w1 r) := HP0.out.next hb
  clear hp hs hb
  simp only [Pv.v]
  have HA := Lib.hid ((Below.refl w1.heap.size w1).alloc (Nat.le_refl _) (Obj.cells #[.string p.a, .string p.b, .int .i64 p.n, .string p.c, .string p.d, .string p.s, .string p.h, .int .i64 p.k, .slice p.N p.nn p.cn, .bool p.x, .bool p.y] 54))
  have HP2' := Lib.hid (HP1.out.next HA.out)
  have HT2' := Lib.hid (PtAt.new w1 p 54)
  obtain ⟨c, hc⟩ : ∃ c, c = askI r.q := ⟨_, rfl⟩
  rw [← hc]
  have HC := Lib.hid hc
  clear hc
  by_cases h0 : c = 0
  case neg =>
    have HV : Hid (wantQ r.q = ⟨[], [], false, [], []⟩) := by show _ = _; rw [wantQ, if_neg (by rw [← HC.out]; exact h0)]
    obtain ⟨c0, c1, c2, c3, c4⟩ := HP2'.out.res
    have ff := HP2'.out.own
    unfold OwnB at ff
    go_wp2
    obtain ⟨q0, q1, q2, q3, q4⟩ := HP2'.out.res.put_at Wv.zero
    dsimp only [WtAt.put, Wv.zero] at q0 q1 q2 q3 q4
    refine bodyPost_ret (v := .agg #[.string ⟨#[]⟩, .string ⟨#[]⟩, .bool false, .string ⟨#[]⟩, .string ⟨#[]⟩]) (by simp [results, Tryz.results26, go_sem, q0, q1, q2, q3, q4]) rfl ?_
    exact ⟨by rw [HV.out]; rfl, WtAt.put_below HP2'.out.bel (Nat.le_succ _) Wv.zero⟩
  subst h0
  have HWI := Lib.hid (want_is HPV.out HC.out.symm)
  obtain ⟨so, hso⟩ : ∃ t, t = mk (showL p.s.data.toList p.h.data.toList p.k) := ⟨_, rfl⟩
  have HSO := Lib.hid hso
  obtain ⟨su, hsu⟩ : ∃ t, t = mk (urlOf p.a p.b p.n p.c p.d).show_ := ⟨_, rfl⟩
  have HSU := Lib.hid hsu
  obtain ⟨sm, hsm⟩ : ∃ t, t = mk (Lk.normL r.m.data.toList) := ⟨_, rfl⟩
  have HSM := Lib.hid hsm
  obtain ⟨sn, hsn⟩ : ∃ t, t = mk (comL (namesQ r.q)) := ⟨_, rfl⟩
  have HSN := Lib.hid hsn
  clear hso hsu hsm hsn
  have hrr := HP2'.out.req
  obtain ⟨r0, r1, r2, r3, r4, r5, r6, r7, r8, r9⟩ := hrr
  go_wp2_with fail
  clear r0 r1 r2 r3 r4 r5 r6 r7 r8 r9
  obtain ⟨g3, hg3⟩ : ∃ g, g = w1.heap.size := ⟨_, rfl⟩
  obtain ⟨w2, hw2⟩ : ∃ W, W = w1.alloc (Obj.cells #[.string p.a, .string p.b, .int .i64 p.n, .string p.c, .string p.d, .string p.s, .string p.h, .int .i64 p.k, .slice p.N p.nn p.cn, .bool p.x, .bool p.y] 54) := ⟨_, rfl⟩
  have HP2 : Hid (WnAt w w2 r) := by rw [hw2]; exact HP2'.out
  have HB2 : Hid (Bl2 w2 g3 w.heap.size p r) := ⟨by rw [hw2, hg3]; exact HT2'.out, HP2.out.req⟩
  have HS2 : Hid (sown w2 W.heap.size (.slice p.N p.nn p.cn) (namesQ r.q)) := by rw [hw2]; exact ownsRow_below HS1.out HA.out
  have hn3 : g3 ≠ w.heap.size + 1 := by rw [hg3]; have := HP1.out.res.lt; omega
  rw [← hw2, ← hg3]
  clear hw2 hg3 HP2' HT2' HA HS1 HP1
  refine mix_start (fun W => Bl2 W g3 w.heap.size p r) (by kernel_rfl) ?_
  have hne : Nonempty (Held (fun W => Bl2 W g3 w.heap.size p r)) := ⟨⟨_, HB2.out⟩⟩
  have zp0 : ∀ q : Held (fun W => Bl2 W g3 w.heap.size p r), q.w.cell? ⟨g3, 0, none⟩ = some (.string p.a) := fun q => q.h.p.c0
  have zp1 : ∀ q : Held (fun W => Bl2 W g3 w.heap.size p r), q.w.cell? ⟨g3, 1, none⟩ = some (.string p.b) := fun q => q.h.p.c1
  have zp2 : ∀ q : Held (fun W => Bl2 W g3 w.heap.size p r), q.w.cell? ⟨g3, 2, none⟩ = some (.int .i64 p.n) := fun q => q.h.p.c2
  have zp3 : ∀ q : Held (fun W => Bl2 W g3 w.heap.size p r), q.w.cell? ⟨g3, 3, none⟩ = some (.string p.c) := fun q => q.h.p.c3
  have zp4 : ∀ q : Held (fun W => Bl2 W g3 w.heap.size p r), q.w.cell? ⟨g3, 4, none⟩ = some (.string p.d) := fun q => q.h.p.c4
  have zp5 : ∀ q : Held (fun W => Bl2 W g3 w.heap.size p r), q.w.cell? ⟨g3, 5, none⟩ = some (.string p.s) := fun q => q.h.p.c5
  have zp6 : ∀ q : Held (fun W => Bl2 W g3 w.heap.size p r), q.w.cell? ⟨g3, 6, none⟩ = some (.string p.h) := fun q => q.h.p.c6
  have zp7 : ∀ q : Held (fun W => Bl2 W g3 w.heap.size p r), q.w.cell? ⟨g3, 7, none⟩ = some (.int .i64 p.k) := fun q => q.h.p.c7
  have zp8 : ∀ q : Held (fun W => Bl2 W g3 w.heap.size p r), q.w.cell? ⟨g3, 8, none⟩ = some (.slice p.N p.nn p.cn) := fun q => q.h.p.c8
  have zr0 : ∀ q : Held (fun W => Bl2 W g3 w.heap.size p r), q.w.cell? ⟨w.heap.size, 0, none⟩ = some (.string r.m) := fun q => q.h.r.c0
  have zr4 : ∀ q : Held (fun W => Bl2 W g3 w.heap.size p r), q.w.cell? ⟨w.heap.size, 4, none⟩ = some (.bool r.cr) := fun q => q.h.r.c4
  obtain ⟨w3, hwd⟩ : ∃ W, W = w2.drew := ⟨_, rfl⟩
  rw [← hwd]
  have hb : Below w2.heap.size w2 w3 := by rw [hwd]; exact (Below.refl _ _).drew
  have HP3 : Hid (WnAt w w3 r) := HP2.out.next hb
  have HB3 : Hid (Bl2 w3 g3 w.heap.size p r) := HB2.out.below hb
  have HS3 : Hid (sown w3 W.heap.size (.slice p.N p.nn p.cn) (namesQ r.q)) := ownsRow_below HS2.out hb
  clear hb hwd
  refine mix_seg [0, 1, 3, 4, 6, 7, 9, 10, 12, 13] (by kernel_rfl) HB3.out ?_
  simp only [segOf, pickOps, pickOp]
  repeat (go_big_quiet_step (fail))
  refine wpQuiet_nil ?_
  refine mix_run 2 (by kernel_rfl) ?_
  simp only [segOf, pickOps, pickOp]
  go_wp2_with fail
  refine (Show_as p.s p.h p.k so _ (by have := HPV.out.hh; unfold maxLen; omega) HP3.out.env.e HSO.out).mono ?_
  rintro e w4 ⟨rfl, hb⟩
  have HP4 : Hid (WnAt w w4 r) := HP3.out.next hb
  have HB4 : Hid (Bl2 w4 g3 w.heap.size p r) := HB3.out.below hb
  have HS4 : Hid (sown w4 W.heap.size (.slice p.N p.nn p.cn) (namesQ r.q)) := ownsRow_below HS3.out hb
  clear hb
  go_wp2_with fail
  refine MixPost.normal HB4.out ?_
  refine mix_run 5 (by kernel_rfl) ?_
  simp only [segOf, pickOps, pickOp]
  go_wp2_with fail
  refine (tShow_any p.a p.b p.n p.c p.d _ (by have := HPV.out.hb; unfold maxLen; omega) (by have := HPV.out.hc; omega) (by have := HPV.out.hd; omega) HP4.out.env.e).mono ?_
  rintro e w5 ⟨rfl, hb⟩
  rw [← HSU.out]
  have HP5 : Hid (WnAt w w5 r) := HP4.out.next hb
  have HB5 : Hid (Bl2 w5 g3 w.heap.size p r) := HB4.out.below hb
  have HS5 : Hid (sown w5 W.heap.size (.slice p.N p.nn p.cn) (namesQ r.q)) := ownsRow_below HS4.out hb
  clear hb
  go_wp2_with fail
  refine MixPost.normal HB5.out ?_
  refine mix_seg [8] (by kernel_rfl) HB5.out ?_
  simp only [segOf, pickOps, pickOp]
  repeat (go_big_quiet_step (fail))
  refine wpQuiet_nil ?_
  refine mix_run 11 (by kernel_rfl) ?_
  simp only [segOf, pickOps, pickOp]
  go_wp2_with fail
  refine (MNorm_any r.m _ HK.out.hm HP5.out.env.m).mono ?_
  rintro e w6 ⟨rfl, n6, hw6⟩
  rw [← HSM.out]
  have hb : Below w5.heap.size w5 w6 := by rw [hw6]; exact below_drewN (Below.refl _ _) _
  have HP6 : Hid (WnAt w w6 r) := HP5.out.next hb
  have HB6 : Hid (Bl2 w6 g3 w.heap.size p r) := HB5.out.below hb
  have HS6 : Hid (sown w6 W.heap.size (.slice p.N p.nn p.cn) (namesQ r.q)) := ownsRow_below HS5.out hb
  clear hb hw6
  go_wp2_with fail
  refine MixPost.normal HB6.out ?_
  refine mix_run 14 (by kernel_rfl) ?_
  simp only [segOf, pickOps, pickOp]
  go_wp2_with fail
  refine (SJoin_any (.slice p.N p.nn p.cn) W.heap.size (namesQ r.q) _ sn HS6.out (com_small (namesQ_small HK.out)) (namesQ_small HK.out).2 HSN.out).mono ?_
  rintro e w7 ⟨rfl, hb⟩
  have HP7 : Hid (WnAt w w7 r) := HP6.out.next hb
  have HB7 : Hid (Bl2 w7 g3 w.heap.size p r) := HB6.out.below hb
  have HS7 : Hid (sown w7 W.heap.size (.slice p.N p.nn p.cn) (namesQ r.q)) := ownsRow_below HS6.out hb
  clear hb
  go_wp2_with fail
  refine MixPost.normal HB7.out ?_
  refine mix_seg [15] (by kernel_rfl) HB7.out ?_
  simp only [segOf, pickOps, pickOp]
  repeat (go_big_quiet_step (fail))
  refine wpQuiet_nil ?_
  refine mix_run 16 (by kernel_rfl) ?_
  simp only [segOf, pickOps, pickOp]
  obtain ⟨c0, c1, c2, c3, c4⟩ := HP7.out.res
  have ff := HP7.out.own
  unfold OwnB at ff
  go_wp2_with fail
  have HB8 : Hid (Bl2 (WtAt.put w7 (w.heap.size + 1) ⟨so, su, r.cr, sm, sn⟩) g3 w.heap.size p r) := HB7.out.put hn3 (by omega) _
  refine MixPost.normal HB8.out ?_
  refine mix_done (by kernel_rfl) ?_
  obtain ⟨q0, q1, q2, q3, q4⟩ := HP7.out.res.put_at ⟨so, su, r.cr, sm, sn⟩
  dsimp only [WtAt.put] at q0 q1 q2 q3 q4
  go_wp2
  refine bodyPost_ret (v := .agg #[.string so, .string su, .bool r.cr, .string sm, .string sn]) (by simp [results, Tryz.results26, go_sem, q0, q1, q2, q3, q4]) rfl ?_
  exact ⟨by rw [HWI.out, HSO.out, HSU.out, HSM.out, HSN.out]; rfl, WtAt.put_below HP7.out.bel (Nat.le_succ _) ⟨so, su, r.cr, sm, sn⟩⟩

theorem field_cell (a b : ByteArray) (c : Bool) (d e : ByteArray) (w : World) : (Instr.field 40 (.agg #[.string a, .string b, .bool c, .string d, .string e]) 0).run Tryz.prog w = .ok (.agg #[.string a, .string b, .bool c]) w := by kernel_rfl
set_option maxRecDepth 100000 in
set_option maxHeartbeats 2000000 in
theorem aCell_any (r : Rv) (w : World) (hr : RqOk w r) (he : Env8 w) :
    Calls Tryz.prog 24 #[r.v] w fun e w' => e = .returned (.agg #[.string (mk (wantQ r.q).o), .string (mk (wantQ r.q).u), .bool (wantQ r.q).cr]) ∧ Below w.heap.size w w' := by
  unfold Rv.v
  obtain ⟨W, hW⟩ : ∃ W, W = (w.alloc (Obj.cells #[.string r.m, .string r.u, .string r.o, .int .i64 r.mode, .bool r.cr, .slice r.A r.n r.c, .int .i64 r.cl, .int .u64 r.tm, .int .i64 r.gr, .int .i64 r.sg] 25)).alloc (Obj.cells #[.string ⟨#[]⟩, .string ⟨#[]⟩, .bool false] 37) := ⟨_, rfl⟩
  have e : (w.alloc (Obj.cells #[.string r.m, .string r.u, .string r.o, .int .i64 r.mode, .bool r.cr, .slice r.A r.n r.c, .int .i64 r.cl, .int .u64 r.tm, .int .i64 r.gr, .int .i64 r.sg] 25)).heap.size = w.heap.size + 1 := by simp
  have HB0 : Hid (Below w.heap.size w W) := by rw [hW]; exact ((Below.refl _ _).alloc (Nat.le_refl _) _).alloc (by rw [e]; omega) _
  have HC0 : Hid (W.cell? ⟨w.heap.size + 1, 0, none⟩ = some (.string ⟨#[]⟩) ∧ W.cell? ⟨w.heap.size + 1, 1, none⟩ = some (.string ⟨#[]⟩) ∧ W.cell? ⟨w.heap.size + 1, 2, none⟩ = some (.bool false)) := by
    rw [hW, ← e]; exact ⟨by simp, by simp, by simp⟩
  have HW0 : Hid (OwnB W (w.heap.size + 1)) := by rw [hW, ← e]; exact OwnB.new _ _ _
  have hlt : w.heap.size + 1 < W.heap.size := by rw [hW]; simp
  have HK := Lib.hid hr
  have HE := Lib.hid he
  clear hr he e
  go_enter Tryz.func24, Tryz.ntmps24
  go_wp2_with fail
  rw [← hW]
  clear hW
  refine (aWant_any r _ (HK.out.below HB0.out) (HE.out.below HB0.out)).mono ?_
  rintro e w1 ⟨rfl, hb⟩
  obtain ⟨zo, hzo⟩ : ∃ t, t = mk (wantQ r.q).o := ⟨_, rfl⟩
  obtain ⟨zu, hzu⟩ : ∃ t, t = mk (wantQ r.q).u := ⟨_, rfl⟩
  obtain ⟨zc, hzc⟩ : ∃ t, t = (wantQ r.q).cr := ⟨_, rfl⟩
  simp only [wvOf, Wv.v]
  rw [← hzo, ← hzu, ← hzc]
  have HB1 : Hid (Below w.heap.size w w1) := HB0.out.trans (hb.mono HB0.out.size)
  obtain ⟨c0, c1, c2⟩ := HC0.out
  have c0 := (hb.cell (p := ⟨w.heap.size + 1, 0, none⟩) hlt).trans c0
  have c1 := (hb.cell (p := ⟨w.heap.size + 1, 1, none⟩) hlt).trans c1
  have c2 := (hb.cell (p := ⟨w.heap.size + 1, 2, none⟩) hlt).trans c2
  have ff := HW0.out.below hb hlt
  unfold OwnB at ff
  have HZ : Hid (zo = mk (wantQ r.q).o ∧ zu = mk (wantQ r.q).u ∧ zc = (wantQ r.q).cr) := ⟨hzo, hzu, hzc⟩
  have HQ0 := Lib.hid (cell_keep (j := 2) (v := .bool zc) (cell_keep (j := 1) (v := .string zu) (World.cell?_setCell_same w1 ⟨w.heap.size + 1, 0, none⟩ (.string zo) c0) (by decide)) (by decide))
  have HQ1 := Lib.hid (cell_keep (j := 2) (v := .bool zc) (World.cell?_setCell_same (w1.setCell ⟨w.heap.size + 1, 0, none⟩ (.string zo)) ⟨w.heap.size + 1, 1, none⟩ (.string zu) (cell_keep c1 (by decide))) (by decide))
  have HQ2 := Lib.hid (World.cell?_setCell_same ((w1.setCell ⟨w.heap.size + 1, 0, none⟩ (.string zo)).setCell ⟨w.heap.size + 1, 1, none⟩ (.string zu)) ⟨w.heap.size + 1, 2, none⟩ (.bool zc) (cell_keep (cell_keep c2 (by decide)) (by decide)))
  clear hb hzo hzu hzc
  have hfd := fun d e W => field_cell zo zu zc d e W
  go_wp2
  have q0 := HQ0.out
  have q1 := HQ1.out
  have q2 := HQ2.out
  refine bodyPost_ret (v := .agg #[.string zo, .string zu, .bool zc]) (by simp [results, Tryz.results24, go_sem, q0, q1, q2]) rfl ?_
  exact ⟨by rw [HZ.out.1, HZ.out.2.1, HZ.out.2.2], ((HB1.out.setCell (Nat.le_succ _) _).setCell (Nat.le_succ _) _).setCell (Nat.le_succ _) _⟩
end Go.Proofs.YticedcnmajcgbaaGreatDoor
