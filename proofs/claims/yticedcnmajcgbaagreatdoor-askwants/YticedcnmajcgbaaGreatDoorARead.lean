/-
  The contract of ask's read over this seat's program: the parts of a request, or the first code that applies. Conditions: the request's headers lie where it says and are not too many; the library's variables and the tables of methods are as they are laid.
-/
import Derived.Test.YticedcnmajcgbaaGreatDoorASmall
import Derived.Test.YticedcnmajcgbaaGreatDoorAEq
namespace Go.Proofs.YticedcnmajcgbaaGreatDoor
open Go.RowKit

theorem org_view (l : List UInt8) : ∃ (s h : ByteArray) (k c : Int), parseV l = .tuple #[.agg #[.string s, .string h, .int .i64 k], .int .i64 c] ∧ (s.data.toList, h.data.toList, k) = orgO l ∧ c = orgI l ∧ h.size ≤ 512 := by
  unfold parseV orgO orgI
  by_cases h : 512 < l.length
  · simp only [h, if_true]
    exact ⟨_, _, _, _, rfl, rfl, rfl, by decide⟩
  · simp only [h, if_false]
    cases hp : parseL l with
    | none => exact ⟨_, _, _, _, rfl, rfl, rfl, by decide⟩
    | some q =>
      obtain ⟨a, b, p⟩ := q
      exact ⟨mk a, mk b, p, 0, rfl, by rw [mk_data, mk_data]; rfl, rfl, by rw [mk_size]; have := host_len (check_parts (parse_check hp)).2.1; omega⟩

/-- what holds all through: the request in the first block, nothing in the second, which is the result's -/
structure RdAt (w W : World) (r : Rv) : Prop where
  bel : Below w.heap.size w W
  env0 : Env8 w
  ok0 : RqOk w r
  req : RqAt W w.heap.size r
  res : PtAt W (w.heap.size + 1) Pv.zero
  own : OwnB W (w.heap.size + 1)
theorem RdAt.env {w W : World} {r : Rv} (h : RdAt w W r) : Env8 W := h.env0.below h.bel
theorem RdAt.ok {w W : World} {r : Rv} (h : RdAt w W r) : RqOk W r := h.ok0.below h.bel
theorem RdAt.next {w W W' : World} {r : Rv} (h : RdAt w W r) (hb : Below W.heap.size W W') : RdAt w W' r :=
  ⟨h.bel.trans (hb.mono h.bel.size), h.env0, h.ok0, h.req.below hb h.req.lt, h.res.below hb h.res.lt, h.own.below hb h.res.lt⟩
theorem RdAt.alloc {w W : World} {r : Rv} (h : RdAt w W r) (o : Obj) : RdAt w (W.alloc o) r := h.next ((Below.refl _ _).alloc (Nat.le_refl _) o)
theorem RdAt.new {w : World} {r : Rv} (he : Env8 w) (hr : RqOk w r) (t t' : TypeId) : RdAt w ((w.alloc (.cells #[.string r.m, .string r.u, .string r.o, .int .i64 r.mode, .bool r.cr, .slice r.A r.n r.c, .int .i64 r.cl, .int .u64 r.tm, .int .i64 r.gr, .int .i64 r.sg] t)).alloc (.cells #[.string ⟨#[]⟩, .string ⟨#[]⟩, .int .i64 0, .string ⟨#[]⟩, .string ⟨#[]⟩, .string ⟨#[]⟩, .string ⟨#[]⟩, .int .i64 0, .slice none 0 0, .bool false, .bool false] t')) r := by
  have e : (w.alloc (.cells #[.string r.m, .string r.u, .string r.o, .int .i64 r.mode, .bool r.cr, .slice r.A r.n r.c, .int .i64 r.cl, .int .u64 r.tm, .int .i64 r.gr, .int .i64 r.sg] t)).heap.size = w.heap.size + 1 := by simp
  have h1 := RqAt.new w r t
  have h2 := PtAt.new (w.alloc (.cells #[.string r.m, .string r.u, .string r.o, .int .i64 r.mode, .bool r.cr, .slice r.A r.n r.c, .int .i64 r.cl, .int .u64 r.tm, .int .i64 r.gr, .int .i64 r.sg] t)) Pv.zero t'
  have h3 := OwnB.new (w.alloc (.cells #[.string r.m, .string r.u, .string r.o, .int .i64 r.mode, .bool r.cr, .slice r.A r.n r.c, .int .i64 r.cl, .int .u64 r.tm, .int .i64 r.gr, .int .i64 r.sg] t)) #[.string ⟨#[]⟩, .string ⟨#[]⟩, .int .i64 0, .string ⟨#[]⟩, .string ⟨#[]⟩, .string ⟨#[]⟩, .string ⟨#[]⟩, .int .i64 0, .slice none 0 0, .bool false, .bool false] t'
  rw [e] at h2 h3
  exact ⟨((Below.refl _ _).alloc (Nat.le_refl _) _).alloc (by rw [e]; omega) _, he, hr, h1.below ((Below.refl _ _).alloc (Nat.le_refl _) _) h1.lt, h2, h3⟩
/-- what is written elsewhere -/
theorem RdAt.put {w W : World} {r : Rv} (h : RdAt w W r) {g : Nat} (hg : w.heap.size + 1 < g) (p : Pv) : RdAt w (PtAt.put W g p) r :=
  ⟨PtAt.put_below h.bel (by omega) p, h.env0, h.ok0, h.req.besidePtAt (by omega) p, h.res.besidePtAt (by omega) p, h.own.pt p⟩
structure Bl3 (W : World) (g4 g6 g1 : Nat) (A B : ByteArray) (n : Int) (C D s h : ByteArray) (k : Int) (r : Rv) : Prop where
  u : UrlAt W g4 A B n C D
  o : OrgAt W g6 s h k
  r : RqAt W g1 r
theorem Bl3.below {W W' : World} {g4 g6 g1 : Nat} {A B : ByteArray} {n : Int} {C D s h : ByteArray} {k : Int} {r : Rv} (o : Bl3 W g4 g6 g1 A B n C D s h k r) (hb : Below W.heap.size W W') : Bl3 W' g4 g6 g1 A B n C D s h k r :=
  ⟨o.u.below hb o.u.lt, o.o.below hb o.o.lt, o.r.below hb o.r.lt⟩
theorem Bl3.put {W : World} {g4 g6 g1 g : Nat} {A B : ByteArray} {n : Int} {C D s h : ByteArray} {k : Int} {r : Rv} (o : Bl3 W g4 g6 g1 A B n C D s h k r) (h4 : g4 ≠ g) (h6 : g6 ≠ g) (h1 : g1 ≠ g) (p : Pv) : Bl3 (PtAt.put W g p) g4 g6 g1 A B n C D s h k r :=
  ⟨(((((((((((o.u.other h4).other h4).other h4).other h4).other h4).other h4).other h4).other h4).other h4).other h4).other h4), (((((((((((o.o.other h6).other h6).other h6).other h6).other h6).other h6).other h6).other h6).other h6).other h6).other h6), o.r.besidePtAt h1 p⟩

theorem ask_url {r : Rq} {k : Int} (h : (tgtL r.u).2 = k) (hk : ¬ k = 0) : askI r = k := by unfold askI; simp [h, hk]
theorem ask_org {r : Rq} {k : Int} (h0 : (tgtL r.u).2 = 0) (h : orgI r.o = k) (hk : ¬ k = 0) : askI r = k := by unfold askI; simp [h0, h, hk]
theorem ask_fld {r : Rq} {k : Int} (h0 : (tgtL r.u).2 = 0) (h1 : orgI r.o = 0) (h : fieldsI r = k) (hk : ¬ k = 0) : askI r = k := by unfold askI; simp [h0, h1, h, hk]
theorem ask_suit {r : Rq} (h0 : (tgtL r.u).2 = 0) (h1 : orgI r.o = 0) (h : fieldsI r = 0) : askI r = if suitB r.mode (crossB r) (plainB r) = true then 0 else 7 := by unfold askI; simp [h0, h1, h]

set_option maxRecDepth 100000 in
set_option maxHeartbeats 8000000 in
theorem read_any (r : Rv) (w : World) (hr : RqOk w r) (he : Env8 w) :
    Calls Tryz.prog 30 #[r.v] w fun e w' => ∃ p : Pv, e = .returned (.tuple #[p.v, .int .i64 (askI r.q)]) ∧ PvIs r.q p ∧ sown w' w.heap.size (.slice p.N p.nn p.cn) (namesQ r.q) ∧ Below w.heap.size w w' := by
  unfold Rv.v
  obtain ⟨A, B, n, C, D, k0, hv, htl, hok, b1, b2, b3⟩ := tgt_view r.u.data.toList
  have HV := Lib.hid hv
  have HTC : Hid ((tgtL r.q.u).2 = k0) := by show (tgtL r.u.data.toList).2 = _; rw [htl]
  have HTU : Hid ((tgtL r.q.u).1 = urlOf A B n C D) := by show (tgtL r.u.data.toList).1 = _; rw [htl]
  obtain ⟨W, hW⟩ : ∃ W, W = (w.alloc (Obj.cells #[.string r.m, .string r.u, .string r.o, .int .i64 r.mode, .bool r.cr, .slice r.A r.n r.c, .int .i64 r.cl, .int .u64 r.tm, .int .i64 r.gr, .int .i64 r.sg] 25)).alloc (Obj.cells #[.string ⟨#[]⟩, .string ⟨#[]⟩, .int .i64 0, .string ⟨#[]⟩, .string ⟨#[]⟩, .string ⟨#[]⟩, .string ⟨#[]⟩, .int .i64 0, .slice none 0 0, .bool false, .bool false] 54) := ⟨_, rfl⟩
  have HP0 : Hid (RdAt w W r) := by rw [hW]; exact RdAt.new he hr _ _
  have HK := Lib.hid hr
  clear hv htl hok hr he
  go_enter Tryz.func30, Tryz.ntmps30
  go_wp2_with fail
  rw [← hW]
  clear hW
  refine (tParse_any r.u _ HK.out.hu HP0.out.env.e).mono ?_
  rintro e w1 ⟨rfl, hb⟩
  rw [HV.out]
  have HP1 : Hid (RdAt w w1 r) := HP0.out.next hb
  clear hb HV HP0
  have HP2 := Lib.hid (HP1.out.alloc (.cells #[.string A, .string B, .int .i64 n, .string C, .string D] 52))
  have HU2 := Lib.hid (UrlAt.new w1 A B n C D 52)
  by_cases hk : k0 = 0
  case neg =>
    have HA : Hid (askI r.q = k0) := ask_url HTC.out hk
    obtain ⟨c0, c1, c2, c3, c4, c5, c6, c7, c8, c9, c10⟩ := HP2.out.res
    have ff := HP2.out.own
    unfold OwnB at ff
    go_wp2
    obtain ⟨q0, q1, q2, q3, q4, q5, q6, q7, q8, q9, q10⟩ := HP2.out.res.put_at Pv.zero
    dsimp only [PtAt.put, Pv.zero] at q0 q1 q2 q3 q4 q5 q6 q7 q8 q9 q10
    refine bodyPost_ret (v := .tuple #[.agg #[.string ⟨#[]⟩, .string ⟨#[]⟩, .int .i64 0, .string ⟨#[]⟩, .string ⟨#[]⟩, .string ⟨#[]⟩, .string ⟨#[]⟩, .int .i64 0, .slice none 0 0, .bool false, .bool false], .int .i64 k0]) (by simp [results, Tryz.results30, go_sem, q0, q1, q2, q3, q4, q5, q6, q7, q8, q9, q10]) rfl ?_
    exact ⟨Pv.zero, by rw [HA.out]; rfl, PvIs.zero (by rw [HA.out]; exact hk), by rw [namesQ, if_neg (by rw [HA.out]; exact hk)]; exact World.ownsRow_nil _ _ _ _, PtAt.put_below HP2.out.bel (Nat.le_succ _) Pv.zero⟩
  subst hk
  obtain ⟨s, h, k, c, hv, hor, hoc, b4⟩ := org_view r.o.data.toList
  have HV := Lib.hid hv
  have HOO := Lib.hid hor
  have HOC := Lib.hid hoc
  clear hv hor hoc
  obtain ⟨r0, r1, r2, r3, r4, r5, r6, r7, r8, r9⟩ := HP2.out.req
  go_wp2_with fail
  refine (Parse_any r.o _ HK.out.ho HP2.out.env.e).mono ?_
  rintro e w3 ⟨rfl, hb⟩
  rw [HV.out]
  obtain ⟨g4, hg4⟩ : ∃ g, g = w1.heap.size := ⟨_, rfl⟩
  have HP3 : Hid (RdAt w w3 r) := HP2.out.next hb
  have HU3 : Hid (UrlAt w3 g4 A B n C D) := by rw [hg4]; exact HU2.out.below hb HU2.out.lt
  rw [← hg4]
  clear hb hg4 HP2 HU2 HV HP1 r0 r1 r2 r3 r4 r5 r6 r7 r8 r9
  have HP4 := Lib.hid (HP3.out.alloc (.cells #[.string s, .string h, .int .i64 k] 50))
  have HU4 := Lib.hid (HU3.out.alloc (.cells #[.string s, .string h, .int .i64 k] 50))
  have HO4 := Lib.hid (OrgAt.new w3 s h k 50)
  by_cases hk : c = 0
  case neg =>
    have HA : Hid (askI r.q = c) := ask_org HTC.out HOC.out.symm hk
    obtain ⟨c0, c1, c2, c3, c4, c5, c6, c7, c8, c9, c10⟩ := HP4.out.res
    have ff := HP4.out.own
    unfold OwnB at ff
    go_wp2
    obtain ⟨q0, q1, q2, q3, q4, q5, q6, q7, q8, q9, q10⟩ := HP4.out.res.put_at Pv.zero
    dsimp only [PtAt.put, Pv.zero] at q0 q1 q2 q3 q4 q5 q6 q7 q8 q9 q10
    refine bodyPost_ret (v := .tuple #[.agg #[.string ⟨#[]⟩, .string ⟨#[]⟩, .int .i64 0, .string ⟨#[]⟩, .string ⟨#[]⟩, .string ⟨#[]⟩, .string ⟨#[]⟩, .int .i64 0, .slice none 0 0, .bool false, .bool false], .int .i64 c]) (by simp [results, Tryz.results30, go_sem, q0, q1, q2, q3, q4, q5, q6, q7, q8, q9, q10]) rfl ?_
    exact ⟨Pv.zero, by rw [HA.out]; rfl, PvIs.zero (by rw [HA.out]; exact hk), by rw [namesQ, if_neg (by rw [HA.out]; exact hk)]; exact World.ownsRow_nil _ _ _ _, PtAt.put_below HP4.out.bel (Nat.le_succ _) Pv.zero⟩
  subst hk
  obtain ⟨r0, r1, r2, r3, r4, r5, r6, r7, r8, r9⟩ := HP4.out.req
  go_wp2_with fail
  refine (checkFields_any r _ HP4.out.ok HP4.out.env).mono ?_
  rintro e w5 ⟨rfl, hb⟩
  obtain ⟨g6, hg6⟩ : ∃ g, g = w3.heap.size := ⟨_, rfl⟩
  have HP5 : Hid (RdAt w w5 r) := HP4.out.next hb
  have HU5 : Hid (UrlAt w5 g4 A B n C D) := HU4.out.below hb HU4.out.lt
  have HO5 : Hid (OrgAt w5 g6 s h k) := by rw [hg6]; exact HO4.out.below hb HO4.out.lt
  rw [← hg6]
  clear hb hg6 HP4 HU4 HO4 HP3 HU3 r0 r1 r2 r3 r4 r5 r6 r7 r8 r9
  obtain ⟨fi, hfi⟩ : ∃ k, k = fieldsI r.q := ⟨_, rfl⟩
  rw [← hfi]
  have HFI := Lib.hid hfi
  clear hfi
  by_cases hk : fi = 0
  case neg =>
    have HA : Hid (askI r.q = fi) := ask_fld HTC.out HOC.out.symm HFI.out.symm hk
    obtain ⟨c0, c1, c2, c3, c4, c5, c6, c7, c8, c9, c10⟩ := HP5.out.res
    have ff := HP5.out.own
    unfold OwnB at ff
    go_wp2
    obtain ⟨q0, q1, q2, q3, q4, q5, q6, q7, q8, q9, q10⟩ := HP5.out.res.put_at Pv.zero
    dsimp only [PtAt.put, Pv.zero] at q0 q1 q2 q3 q4 q5 q6 q7 q8 q9 q10
    refine bodyPost_ret (v := .tuple #[.agg #[.string ⟨#[]⟩, .string ⟨#[]⟩, .int .i64 0, .string ⟨#[]⟩, .string ⟨#[]⟩, .string ⟨#[]⟩, .string ⟨#[]⟩, .int .i64 0, .slice none 0 0, .bool false, .bool false], .int .i64 fi]) (by simp [results, Tryz.results30, go_sem, q0, q1, q2, q3, q4, q5, q6, q7, q8, q9, q10]) rfl ?_
    exact ⟨Pv.zero, by rw [HA.out]; rfl, PvIs.zero (by rw [HA.out]; exact hk), by rw [namesQ, if_neg (by rw [HA.out]; exact hk)]; exact World.ownsRow_nil _ _ _ _, PtAt.put_below HP5.out.bel (Nat.le_succ _) Pv.zero⟩
  subst hk
  obtain ⟨r0, r1, r2, r3, r4, r5, r6, r7, r8, r9⟩ := HP5.out.req
  go_wp2_with fail
  refine (Names7_any r.A r.n r.c w5.heap.size r.xs _ HK.out.len (Nat.le_refl _) HP5.out.ok.row HK.out.sm).mono ?_
  rintro e w6 ⟨v, rfl, hs, hb⟩
  have HP6 : Hid (RdAt w w6 r) := HP5.out.next hb
  have HU6 : Hid (UrlAt w6 g4 A B n C D) := HU5.out.below hb HU5.out.lt
  have HO6 : Hid (OrgAt w6 g6 s h k) := HO5.out.below hb HO5.out.lt
  clear hb r0 r1 r2 r3 r4 r5 r6 r7 r8 r9
  obtain ⟨N, nn, cn, rfl, hnn, _⟩ := trow_row hs
  have HSO := Lib.hid hs
  have hsz : w.heap.size + 1 < w5.heap.size := HP5.out.res.lt
  have HNN : Hid (nn = (safeNames r.q.hs).length) := by show _ = _; rw [hnn]; simp; rfl
  clear hs hnn HP5 HU5 HO5
  have HB6 : Hid (Bl3 w6 g4 g6 w.heap.size A B n C D s h k r) := ⟨HU6.out, HO6.out, HP6.out.req⟩
  have HASK : Hid (askI r.q = if suitB r.q.mode (crossB r.q) (plainB r.q) = true then 0 else 7) := ask_suit HTC.out HOC.out.symm HFI.out.symm
  obtain ⟨xx, hxx⟩ : ∃ b, b = !((A.toList == s.toList) && (B.toList == h.toList) && (n == k)) := ⟨_, rfl⟩
  have HX : Hid (crossB r.q = xx) := by
    show _ = _
    unfold crossB
    rw [HTU.out, ← show _ = orgO r.q.o from HOO.out, hxx, ByteArray.toList_eq, ByteArray.toList_eq, ByteArray.toList_eq, ByteArray.toList_eq]
    rfl
  have hcmp : ∀ W, (binOp .neq 50 (.agg #[.string A, .string B, .int .i64 n]) (.agg #[.string s, .string h, .int .i64 k])).run Tryz.prog W = .ok (.bool xx) W := fun W => by rw [neq_org, ← hxx]
  clear hxx
  obtain ⟨sf, hsf⟩ : ∃ b, b = Lk.safeL r.m.data.toList := ⟨_, rfl⟩
  have HSF := Lib.hid hsf
  clear hsf
  obtain ⟨nz, hnz⟩ : ∃ b, b = decide (nn = 0) := ⟨_, rfl⟩
  have HPL : Hid (plainB r.q = (sf && nz)) := by show _ = _; unfold plainB; rw [HSF.out, hnz, HNN.out]; rfl
  go_wp2_with fail
  refine mix_start (fun W => Bl3 W g4 g6 w.heap.size A B n C D s h k r) (by kernel_rfl) ?_
  have hne : Nonempty (Held (fun W => Bl3 W g4 g6 w.heap.size A B n C D s h k r)) := ⟨⟨_, HB6.out⟩⟩
  have zu0 : ∀ q : Held (fun W => Bl3 W g4 g6 w.heap.size A B n C D s h k r), q.w.cell? ⟨g4, 0, none⟩ = some (.string A) := fun q => q.h.u.c0
  have zu1 : ∀ q : Held (fun W => Bl3 W g4 g6 w.heap.size A B n C D s h k r), q.w.cell? ⟨g4, 1, none⟩ = some (.string B) := fun q => q.h.u.c1
  have zu2 : ∀ q : Held (fun W => Bl3 W g4 g6 w.heap.size A B n C D s h k r), q.w.cell? ⟨g4, 2, none⟩ = some (.int .i64 n) := fun q => q.h.u.c2
  have zu3 : ∀ q : Held (fun W => Bl3 W g4 g6 w.heap.size A B n C D s h k r), q.w.cell? ⟨g4, 3, none⟩ = some (.string C) := fun q => q.h.u.c3
  have zu4 : ∀ q : Held (fun W => Bl3 W g4 g6 w.heap.size A B n C D s h k r), q.w.cell? ⟨g4, 4, none⟩ = some (.string D) := fun q => q.h.u.c4
  have zo0 : ∀ q : Held (fun W => Bl3 W g4 g6 w.heap.size A B n C D s h k r), q.w.cell? ⟨g6, 0, none⟩ = some (.string s) := fun q => q.h.o.c0
  have zo1 : ∀ q : Held (fun W => Bl3 W g4 g6 w.heap.size A B n C D s h k r), q.w.cell? ⟨g6, 1, none⟩ = some (.string h) := fun q => q.h.o.c1
  have zo2 : ∀ q : Held (fun W => Bl3 W g4 g6 w.heap.size A B n C D s h k r), q.w.cell? ⟨g6, 2, none⟩ = some (.int .i64 k) := fun q => q.h.o.c2
  have zr : ∀ q : Held (fun W => Bl3 W g4 g6 w.heap.size A B n C D s h k r), q.w.cell? ⟨w.heap.size, 0, none⟩ = some (.string r.m) := fun q => q.h.r.c0
  obtain ⟨w7, hwd⟩ : ∃ W, W = w6.drew := ⟨_, rfl⟩
  rw [← hwd]
  have hb : Below w6.heap.size w6 w7 := by rw [hwd]; exact (Below.refl _ _).drew
  have HP7 : Hid (RdAt w w7 r) := HP6.out.next hb
  have HB7 : Hid (Bl3 w7 g4 g6 w.heap.size A B n C D s h k r) := HB6.out.below hb
  have HS7 : Hid (sown w7 w5.heap.size (.slice N nn cn) (safeNames r.q.hs)) := ownsRow_below HSO.out hb
  clear hb hwd HP6 HB6 HSO HU6 HO6
  refine mix_seg [0, 1, 2, 3, 4, 5, 6, 7, 8] (by kernel_rfl) HB7.out ?_
  simp only [segOf, pickOps, pickOp]
  repeat (go_big_quiet_step (fail))
  refine wpQuiet_nil ?_
  have HL7 : Hid (Below w7.heap.size w7 w7) := Below.refl _ _
  cases sf
  case false =>
    refine mix_several [9, 16] (by kernel_rfl) ?_
    intro i hi
    rcases List.mem_cons.1 hi with rfl | hi
    · simp only [segOf, pickOps, pickOp]
      go_wp2_with fail
      refine (Safe_any r.m _ HK.out.hm HP7.out.env.m).mono ?_
      rintro e w8 ⟨rfl, n8, hw⟩
      rw [← HSF.out]
      have hb : Below w7.heap.size w7 w8 := by rw [hw]; exact below_drewN (Below.refl _ _) _
      have HP8 : Hid (RdAt w w8 r) := HP7.out.next hb
      have HB8 : Hid (Bl3 w8 g4 g6 w.heap.size A B n C D s h k r) := HB7.out.below hb
      have HL8 : Hid (Below w7.heap.size w7 w8) := HL7.out.trans (hb.mono HL7.out.size)
      clear hb hw
      go_wp2_with fail
      refine MixPost.normal HB8.out ?_
      refine mix_seg [10, 11, 12, 13, 14, 15] (by kernel_rfl) HB8.out ?_
      simp only [segOf, pickOps, pickOp]
      repeat (go_big_quiet_step (fail))
      refine wpQuiet_nil ?_
      refine mix_run 16 (by kernel_rfl) ?_
      simp only [segOf, pickOps, pickOp]
      go_wp2_with fail
      obtain ⟨g9, hg9⟩ : ∃ g, g = w8.heap.size := ⟨_, rfl⟩
      obtain ⟨w9, hw⟩ : ∃ W, W = w8.alloc (Obj.cells #[.string ⟨#[]⟩, .string ⟨#[]⟩, .int .i64 0, .string ⟨#[]⟩, .string ⟨#[]⟩, .string ⟨#[]⟩, .string ⟨#[]⟩, .int .i64 0, .slice none 0 0, .bool false, .bool false] 54) := ⟨_, rfl⟩
      have hb : Below w8.heap.size w8 w9 := by rw [hw]; exact (Below.refl _ _).alloc (Nat.le_refl _) _
      have HP9 : Hid (RdAt w w9 r) := HP8.out.next hb
      have HB9 : Hid (Bl3 w9 g4 g6 w.heap.size A B n C D s h k r) := HB8.out.below hb
      have HL9 : Hid (Below w7.heap.size w7 w9) := HL8.out.trans (hb.mono HL8.out.size)
      have HT9 : Hid (PtAt w9 g9 Pv.zero) := by rw [hw, hg9]; exact PtAt.new _ Pv.zero _
      have HW9 : Hid (OwnB w9 g9) := by rw [hw, hg9]; exact OwnB.new _ _ _
      have hgl : w.heap.size + 1 < g9 := by rw [hg9]; exact HP8.out.res.lt
      have hgs : w7.heap.size ≤ g9 := by rw [hg9]; exact HL8.out.size
      have hn4 : g4 ≠ g9 := by rw [hg9]; have := HB8.out.u.lt; omega
      have hn6 : g6 ≠ g9 := by rw [hg9]; have := HB8.out.o.lt; omega
      have hn1 : w.heap.size ≠ g9 := by omega
      rw [← hw, ← hg9]
      clear hw hg9 hb
      refine MixPost.normal HB9.out ?_
      refine mix_run 17 (by kernel_rfl) ?_
      simp only [segOf, pickOps, pickOp]
      obtain ⟨b0, b1', b2', b3', b4', b5, b6, b7, b8, b9, b10⟩ := HT9.out
      have ee := HW9.out
      unfold OwnB at ee
      go_wp2_with fail
      obtain ⟨w10, hw⟩ : ∃ W, W = PtAt.put w9 g9 ⟨A, B, n, C, D, s, h, k, N, nn, cn, xx, false⟩ := ⟨_, rfl⟩
      have HP10 : Hid (RdAt w w10 r) := by rw [hw]; exact HP9.out.put hgl _
      have HB10 : Hid (Bl3 w10 g4 g6 w.heap.size A B n C D s h k r) := by rw [hw]; exact HB9.out.put hn4 hn6 hn1 _
      have HT10 : Hid (PtAt w10 g9 ⟨A, B, n, C, D, s, h, k, N, nn, cn, xx, false⟩) := by rw [hw]; exact HT9.out.put_at _
      have HS10 : Hid (sown w10 w5.heap.size (.slice N nn cn) (safeNames r.q.hs)) := by rw [hw]; exact ownsRow_below HS7.out (PtAt.put_below HL9.out hgs _)
      dsimp only [PtAt.put] at hw
      rw [← hw]
      clear hw ee b0 b1' b2' b3' b4' b5 b6 b7 b8 b9 b10
      refine MixPost.normal HB10.out ?_
      refine mix_done (by kernel_rfl) ?_
      obtain ⟨b0, b1', b2', b3', b4', b5, b6, b7, b8, b9, b10⟩ := HT10.out
      dsimp only at b0 b1' b2' b3' b4' b5 b6 b7 b8 b9 b10
      obtain ⟨r0, r1, r2, r3, r4, r5, r6, r7, r8, r9⟩ := HP10.out.req
      go_wp2_with fail
      refine (suits_any ⟨A, B, n, C, D, s, h, k, N, nn, cn, xx, false⟩ r.mode _).mono ?_
      rintro e w11 ⟨rfl, hb⟩
      dsimp only
      have HP11 : Hid (RdAt w w11 r) := HP10.out.next hb
      have HT11 : Hid (PtAt w11 g9 ⟨A, B, n, C, D, s, h, k, N, nn, cn, xx, false⟩) := HT10.out.below hb HT10.out.lt
      have HS11 : Hid (sown w11 w5.heap.size (.slice N nn cn) (safeNames r.q.hs)) := ownsRow_below HS10.out hb
      clear hb r0 r1 r2 r3 r4 r5 r6 r7 r8 r9 b0 b1' b2' b3' b4' b5 b6 b7 b8 b9 b10
      cases hsu : suitB r.mode xx false
      · have HA : Hid (askI r.q = 7) := by show _ = _; rw [HASK.out, HX.out, HPL.out, show r.q.mode = r.mode from rfl]; simp only [Bool.false_and]; rw [hsu]; rfl
        clear hsu
        obtain ⟨c0, c1, c2, c3, c4, c5, c6, c7, c8, c9, c10⟩ := HP11.out.res
        have ff := HP11.out.own
        unfold OwnB at ff
        go_wp2
        obtain ⟨q0, q1, q2, q3, q4, q5, q6, q7, q8, q9, q10⟩ := HP11.out.res.put_at Pv.zero
        dsimp only [PtAt.put, Pv.zero] at q0 q1 q2 q3 q4 q5 q6 q7 q8 q9 q10
        refine bodyPost_ret (v := .tuple #[.agg #[.string ⟨#[]⟩, .string ⟨#[]⟩, .int .i64 0, .string ⟨#[]⟩, .string ⟨#[]⟩, .string ⟨#[]⟩, .string ⟨#[]⟩, .int .i64 0, .slice none 0 0, .bool false, .bool false], .int .i64 7]) (by simp [results, Tryz.results30, go_sem, q0, q1, q2, q3, q4, q5, q6, q7, q8, q9, q10]) rfl ?_
        exact ⟨Pv.zero, by rw [HA.out]; rfl, PvIs.zero (by rw [HA.out]; decide), by rw [namesQ, if_neg (by rw [HA.out]; decide)]; exact World.ownsRow_nil _ _ _ _, PtAt.put_below HP11.out.bel (Nat.le_succ _) Pv.zero⟩
      have HA : Hid (askI r.q = 0) := by show _ = _; rw [HASK.out, HX.out, HPL.out, show r.q.mode = r.mode from rfl]; simp only [Bool.false_and]; rw [hsu]; rfl
      clear hsu
      obtain ⟨c0, c1, c2, c3, c4, c5, c6, c7, c8, c9, c10⟩ := HP11.out.res
      obtain ⟨b0, b1', b2', b3', b4', b5, b6, b7, b8, b9, b10⟩ := HT11.out
      dsimp only at b0 b1' b2' b3' b4' b5 b6 b7 b8 b9 b10
      have ff := HP11.out.own
      unfold OwnB at ff
      go_wp2
      obtain ⟨q0, q1, q2, q3, q4, q5, q6, q7, q8, q9, q10⟩ := HP11.out.res.put_at ⟨A, B, n, C, D, s, h, k, N, nn, cn, xx, false⟩
      dsimp only [PtAt.put] at q0 q1 q2 q3 q4 q5 q6 q7 q8 q9 q10
      refine bodyPost_ret (v := .tuple #[.agg #[.string A, .string B, .int .i64 n, .string C, .string D, .string s, .string h, .int .i64 k, .slice N nn cn, .bool xx, .bool false], .int .i64 0]) (by simp [results, Tryz.results30, go_sem, q0, q1, q2, q3, q4, q5, q6, q7, q8, q9, q10]) rfl ?_
      exact ⟨⟨A, B, n, C, D, s, h, k, N, nn, cn, xx, false⟩, by rw [HA.out]; rfl,
        ⟨by rw [urlQ, if_pos HA.out]; exact HTU.out.symm, by rw [fromQ, if_pos HA.out]; exact HOO.out, by rw [crossQ, if_pos HA.out]; exact HX.out.symm, by rw [plainQ, if_pos HA.out, HPL.out]; first | rfl | simp, b1, b2, b3, b4⟩,
        by rw [namesQ, if_pos HA.out]; exact ownsRow_base (own_pt HS11.out hsz ⟨A, B, n, C, D, s, h, k, N, nn, cn, xx, false⟩) (by omega), PtAt.put_below HP11.out.bel (Nat.le_succ _) ⟨A, B, n, C, D, s, h, k, N, nn, cn, xx, false⟩⟩
    · obtain rfl : i = 16 := by simpa using hi
      simp only [segOf, pickOps, pickOp]
      go_wp2_with fail
      obtain ⟨g9, hg9⟩ : ∃ g, g = w7.heap.size := ⟨_, rfl⟩
      obtain ⟨w8, hw⟩ : ∃ W, W = w7.alloc (Obj.cells #[.string ⟨#[]⟩, .string ⟨#[]⟩, .int .i64 0, .string ⟨#[]⟩, .string ⟨#[]⟩, .string ⟨#[]⟩, .string ⟨#[]⟩, .int .i64 0, .slice none 0 0, .bool false, .bool false] 54) := ⟨_, rfl⟩
      have hb : Below w7.heap.size w7 w8 := by rw [hw]; exact (Below.refl _ _).alloc (Nat.le_refl _) _
      have HP8 : Hid (RdAt w w8 r) := HP7.out.next hb
      have HB8 : Hid (Bl3 w8 g4 g6 w.heap.size A B n C D s h k r) := HB7.out.below hb
      have HL8 : Hid (Below w7.heap.size w7 w8) := HL7.out.trans (hb.mono HL7.out.size)
      have HT8 : Hid (PtAt w8 g9 Pv.zero) := by rw [hw, hg9]; exact PtAt.new _ Pv.zero _
      have HW8 : Hid (OwnB w8 g9) := by rw [hw, hg9]; exact OwnB.new _ _ _
      have hgl : w.heap.size + 1 < g9 := by rw [hg9]; exact HP7.out.res.lt
      have hgs : w7.heap.size ≤ g9 := by rw [hg9]; exact HL7.out.size
      have hn4 : g4 ≠ g9 := by rw [hg9]; have := HB7.out.u.lt; omega
      have hn6 : g6 ≠ g9 := by rw [hg9]; have := HB7.out.o.lt; omega
      have hn1 : w.heap.size ≠ g9 := by omega
      rw [← hw, ← hg9]
      clear hw hg9 hb
      refine MixPost.normal HB8.out ?_
      refine mix_run 9 (by kernel_rfl) ?_
      simp only [segOf, pickOps, pickOp]
      go_wp2_with fail
      refine (Safe_any r.m _ HK.out.hm HP8.out.env.m).mono ?_
      rintro e w9 ⟨rfl, n9, hw⟩
      rw [← HSF.out]
      have hb : Below w8.heap.size w8 w9 := by rw [hw]; exact below_drewN (Below.refl _ _) _
      have HP9 : Hid (RdAt w w9 r) := HP8.out.next hb
      have HB9 : Hid (Bl3 w9 g4 g6 w.heap.size A B n C D s h k r) := HB8.out.below hb
      have HL9 : Hid (Below w7.heap.size w7 w9) := HL8.out.trans (hb.mono HL8.out.size)
      have HT9 : Hid (PtAt w9 g9 Pv.zero) := HT8.out.below hb HT8.out.lt
      have HW9 : Hid (OwnB w9 g9) := HW8.out.below hb HT8.out.lt
      clear hb hw
      go_wp2_with fail
      refine MixPost.normal HB9.out ?_
      refine mix_seg [10, 11, 12, 13, 14, 15] (by kernel_rfl) HB9.out ?_
      simp only [segOf, pickOps, pickOp]
      repeat (go_big_quiet_step (fail))
      refine wpQuiet_nil ?_
      refine mix_run 17 (by kernel_rfl) ?_
      simp only [segOf, pickOps, pickOp]
      obtain ⟨b0, b1', b2', b3', b4', b5, b6, b7, b8, b9, b10⟩ := HT9.out
      have ee := HW9.out
      unfold OwnB at ee
      go_wp2_with fail
      obtain ⟨w10, hw⟩ : ∃ W, W = PtAt.put w9 g9 ⟨A, B, n, C, D, s, h, k, N, nn, cn, xx, false⟩ := ⟨_, rfl⟩
      have HP10 : Hid (RdAt w w10 r) := by rw [hw]; exact HP9.out.put hgl _
      have HB10 : Hid (Bl3 w10 g4 g6 w.heap.size A B n C D s h k r) := by rw [hw]; exact HB9.out.put hn4 hn6 hn1 _
      have HT10 : Hid (PtAt w10 g9 ⟨A, B, n, C, D, s, h, k, N, nn, cn, xx, false⟩) := by rw [hw]; exact HT9.out.put_at _
      have HS10 : Hid (sown w10 w5.heap.size (.slice N nn cn) (safeNames r.q.hs)) := by rw [hw]; exact ownsRow_below HS7.out (PtAt.put_below HL9.out hgs _)
      dsimp only [PtAt.put] at hw
      rw [← hw]
      clear hw ee b0 b1' b2' b3' b4' b5 b6 b7 b8 b9 b10
      refine MixPost.normal HB10.out ?_
      refine mix_done (by kernel_rfl) ?_
      obtain ⟨b0, b1', b2', b3', b4', b5, b6, b7, b8, b9, b10⟩ := HT10.out
      dsimp only at b0 b1' b2' b3' b4' b5 b6 b7 b8 b9 b10
      obtain ⟨r0, r1, r2, r3, r4, r5, r6, r7, r8, r9⟩ := HP10.out.req
      go_wp2_with fail
      refine (suits_any ⟨A, B, n, C, D, s, h, k, N, nn, cn, xx, false⟩ r.mode _).mono ?_
      rintro e w11 ⟨rfl, hb⟩
      dsimp only
      have HP11 : Hid (RdAt w w11 r) := HP10.out.next hb
      have HT11 : Hid (PtAt w11 g9 ⟨A, B, n, C, D, s, h, k, N, nn, cn, xx, false⟩) := HT10.out.below hb HT10.out.lt
      have HS11 : Hid (sown w11 w5.heap.size (.slice N nn cn) (safeNames r.q.hs)) := ownsRow_below HS10.out hb
      clear hb r0 r1 r2 r3 r4 r5 r6 r7 r8 r9 b0 b1' b2' b3' b4' b5 b6 b7 b8 b9 b10
      cases hsu : suitB r.mode xx false
      · have HA : Hid (askI r.q = 7) := by show _ = _; rw [HASK.out, HX.out, HPL.out, show r.q.mode = r.mode from rfl]; simp only [Bool.false_and]; rw [hsu]; rfl
        clear hsu
        obtain ⟨c0, c1, c2, c3, c4, c5, c6, c7, c8, c9, c10⟩ := HP11.out.res
        have ff := HP11.out.own
        unfold OwnB at ff
        go_wp2
        obtain ⟨q0, q1, q2, q3, q4, q5, q6, q7, q8, q9, q10⟩ := HP11.out.res.put_at Pv.zero
        dsimp only [PtAt.put, Pv.zero] at q0 q1 q2 q3 q4 q5 q6 q7 q8 q9 q10
        refine bodyPost_ret (v := .tuple #[.agg #[.string ⟨#[]⟩, .string ⟨#[]⟩, .int .i64 0, .string ⟨#[]⟩, .string ⟨#[]⟩, .string ⟨#[]⟩, .string ⟨#[]⟩, .int .i64 0, .slice none 0 0, .bool false, .bool false], .int .i64 7]) (by simp [results, Tryz.results30, go_sem, q0, q1, q2, q3, q4, q5, q6, q7, q8, q9, q10]) rfl ?_
        exact ⟨Pv.zero, by rw [HA.out]; rfl, PvIs.zero (by rw [HA.out]; decide), by rw [namesQ, if_neg (by rw [HA.out]; decide)]; exact World.ownsRow_nil _ _ _ _, PtAt.put_below HP11.out.bel (Nat.le_succ _) Pv.zero⟩
      have HA : Hid (askI r.q = 0) := by show _ = _; rw [HASK.out, HX.out, HPL.out, show r.q.mode = r.mode from rfl]; simp only [Bool.false_and]; rw [hsu]; rfl
      clear hsu
      obtain ⟨c0, c1, c2, c3, c4, c5, c6, c7, c8, c9, c10⟩ := HP11.out.res
      obtain ⟨b0, b1', b2', b3', b4', b5, b6, b7, b8, b9, b10⟩ := HT11.out
      dsimp only at b0 b1' b2' b3' b4' b5 b6 b7 b8 b9 b10
      have ff := HP11.out.own
      unfold OwnB at ff
      go_wp2
      obtain ⟨q0, q1, q2, q3, q4, q5, q6, q7, q8, q9, q10⟩ := HP11.out.res.put_at ⟨A, B, n, C, D, s, h, k, N, nn, cn, xx, false⟩
      dsimp only [PtAt.put] at q0 q1 q2 q3 q4 q5 q6 q7 q8 q9 q10
      refine bodyPost_ret (v := .tuple #[.agg #[.string A, .string B, .int .i64 n, .string C, .string D, .string s, .string h, .int .i64 k, .slice N nn cn, .bool xx, .bool false], .int .i64 0]) (by simp [results, Tryz.results30, go_sem, q0, q1, q2, q3, q4, q5, q6, q7, q8, q9, q10]) rfl ?_
      exact ⟨⟨A, B, n, C, D, s, h, k, N, nn, cn, xx, false⟩, by rw [HA.out]; rfl,
        ⟨by rw [urlQ, if_pos HA.out]; exact HTU.out.symm, by rw [fromQ, if_pos HA.out]; exact HOO.out, by rw [crossQ, if_pos HA.out]; exact HX.out.symm, by rw [plainQ, if_pos HA.out, HPL.out]; first | rfl | simp, b1, b2, b3, b4⟩,
        by rw [namesQ, if_pos HA.out]; exact ownsRow_base (own_pt HS11.out hsz ⟨A, B, n, C, D, s, h, k, N, nn, cn, xx, false⟩) (by omega), PtAt.put_below HP11.out.bel (Nat.le_succ _) ⟨A, B, n, C, D, s, h, k, N, nn, cn, xx, false⟩⟩
  case true =>
    have HNZ := Lib.hid hnz
    clear hnz
    refine mix_several [9, 16] (by kernel_rfl) ?_
    intro i hi
    rcases List.mem_cons.1 hi with rfl | hi
    · simp only [segOf, pickOps, pickOp]
      go_wp2_with fail
      refine (Safe_any r.m _ HK.out.hm HP7.out.env.m).mono ?_
      rintro e w8 ⟨rfl, n8, hw⟩
      rw [← HSF.out]
      have hb : Below w7.heap.size w7 w8 := by rw [hw]; exact below_drewN (Below.refl _ _) _
      have HP8 : Hid (RdAt w w8 r) := HP7.out.next hb
      have HB8 : Hid (Bl3 w8 g4 g6 w.heap.size A B n C D s h k r) := HB7.out.below hb
      have HL8 : Hid (Below w7.heap.size w7 w8) := HL7.out.trans (hb.mono HL7.out.size)
      clear hb hw
      go_wp2_with fail
      refine MixPost.normal HB8.out ?_
      refine mix_seg [10, 11, 12, 13, 14, 15] (by kernel_rfl) HB8.out ?_
      simp only [segOf, pickOps, pickOp]
      repeat (go_big_quiet_step (fail))
      refine wpQuiet_nil ?_
      rw [show ((nn : Int) == 0) = nz from by rw [HNZ.out, Bool.eq_iff_iff]; simp]
      refine mix_run 16 (by kernel_rfl) ?_
      simp only [segOf, pickOps, pickOp]
      go_wp2_with fail
      obtain ⟨g9, hg9⟩ : ∃ g, g = w8.heap.size := ⟨_, rfl⟩
      obtain ⟨w9, hw⟩ : ∃ W, W = w8.alloc (Obj.cells #[.string ⟨#[]⟩, .string ⟨#[]⟩, .int .i64 0, .string ⟨#[]⟩, .string ⟨#[]⟩, .string ⟨#[]⟩, .string ⟨#[]⟩, .int .i64 0, .slice none 0 0, .bool false, .bool false] 54) := ⟨_, rfl⟩
      have hb : Below w8.heap.size w8 w9 := by rw [hw]; exact (Below.refl _ _).alloc (Nat.le_refl _) _
      have HP9 : Hid (RdAt w w9 r) := HP8.out.next hb
      have HB9 : Hid (Bl3 w9 g4 g6 w.heap.size A B n C D s h k r) := HB8.out.below hb
      have HL9 : Hid (Below w7.heap.size w7 w9) := HL8.out.trans (hb.mono HL8.out.size)
      have HT9 : Hid (PtAt w9 g9 Pv.zero) := by rw [hw, hg9]; exact PtAt.new _ Pv.zero _
      have HW9 : Hid (OwnB w9 g9) := by rw [hw, hg9]; exact OwnB.new _ _ _
      have hgl : w.heap.size + 1 < g9 := by rw [hg9]; exact HP8.out.res.lt
      have hgs : w7.heap.size ≤ g9 := by rw [hg9]; exact HL8.out.size
      have hn4 : g4 ≠ g9 := by rw [hg9]; have := HB8.out.u.lt; omega
      have hn6 : g6 ≠ g9 := by rw [hg9]; have := HB8.out.o.lt; omega
      have hn1 : w.heap.size ≠ g9 := by omega
      rw [← hw, ← hg9]
      clear hw hg9 hb
      refine MixPost.normal HB9.out ?_
      refine mix_run 17 (by kernel_rfl) ?_
      simp only [segOf, pickOps, pickOp]
      obtain ⟨b0, b1', b2', b3', b4', b5, b6, b7, b8, b9, b10⟩ := HT9.out
      have ee := HW9.out
      unfold OwnB at ee
      go_wp2_with fail
      obtain ⟨w10, hw⟩ : ∃ W, W = PtAt.put w9 g9 ⟨A, B, n, C, D, s, h, k, N, nn, cn, xx, nz⟩ := ⟨_, rfl⟩
      have HP10 : Hid (RdAt w w10 r) := by rw [hw]; exact HP9.out.put hgl _
      have HB10 : Hid (Bl3 w10 g4 g6 w.heap.size A B n C D s h k r) := by rw [hw]; exact HB9.out.put hn4 hn6 hn1 _
      have HT10 : Hid (PtAt w10 g9 ⟨A, B, n, C, D, s, h, k, N, nn, cn, xx, nz⟩) := by rw [hw]; exact HT9.out.put_at _
      have HS10 : Hid (sown w10 w5.heap.size (.slice N nn cn) (safeNames r.q.hs)) := by rw [hw]; exact ownsRow_below HS7.out (PtAt.put_below HL9.out hgs _)
      dsimp only [PtAt.put] at hw
      rw [← hw]
      clear hw ee b0 b1' b2' b3' b4' b5 b6 b7 b8 b9 b10
      refine MixPost.normal HB10.out ?_
      refine mix_done (by kernel_rfl) ?_
      obtain ⟨b0, b1', b2', b3', b4', b5, b6, b7, b8, b9, b10⟩ := HT10.out
      dsimp only at b0 b1' b2' b3' b4' b5 b6 b7 b8 b9 b10
      obtain ⟨r0, r1, r2, r3, r4, r5, r6, r7, r8, r9⟩ := HP10.out.req
      go_wp2_with fail
      refine (suits_any ⟨A, B, n, C, D, s, h, k, N, nn, cn, xx, nz⟩ r.mode _).mono ?_
      rintro e w11 ⟨rfl, hb⟩
      dsimp only
      have HP11 : Hid (RdAt w w11 r) := HP10.out.next hb
      have HT11 : Hid (PtAt w11 g9 ⟨A, B, n, C, D, s, h, k, N, nn, cn, xx, nz⟩) := HT10.out.below hb HT10.out.lt
      have HS11 : Hid (sown w11 w5.heap.size (.slice N nn cn) (safeNames r.q.hs)) := ownsRow_below HS10.out hb
      clear hb r0 r1 r2 r3 r4 r5 r6 r7 r8 r9 b0 b1' b2' b3' b4' b5 b6 b7 b8 b9 b10
      cases hsu : suitB r.mode xx nz
      · have HA : Hid (askI r.q = 7) := by show _ = _; rw [HASK.out, HX.out, HPL.out, show r.q.mode = r.mode from rfl]; simp only [Bool.true_and]; rw [hsu]; rfl
        clear hsu
        obtain ⟨c0, c1, c2, c3, c4, c5, c6, c7, c8, c9, c10⟩ := HP11.out.res
        have ff := HP11.out.own
        unfold OwnB at ff
        go_wp2
        obtain ⟨q0, q1, q2, q3, q4, q5, q6, q7, q8, q9, q10⟩ := HP11.out.res.put_at Pv.zero
        dsimp only [PtAt.put, Pv.zero] at q0 q1 q2 q3 q4 q5 q6 q7 q8 q9 q10
        refine bodyPost_ret (v := .tuple #[.agg #[.string ⟨#[]⟩, .string ⟨#[]⟩, .int .i64 0, .string ⟨#[]⟩, .string ⟨#[]⟩, .string ⟨#[]⟩, .string ⟨#[]⟩, .int .i64 0, .slice none 0 0, .bool false, .bool false], .int .i64 7]) (by simp [results, Tryz.results30, go_sem, q0, q1, q2, q3, q4, q5, q6, q7, q8, q9, q10]) rfl ?_
        exact ⟨Pv.zero, by rw [HA.out]; rfl, PvIs.zero (by rw [HA.out]; decide), by rw [namesQ, if_neg (by rw [HA.out]; decide)]; exact World.ownsRow_nil _ _ _ _, PtAt.put_below HP11.out.bel (Nat.le_succ _) Pv.zero⟩
      have HA : Hid (askI r.q = 0) := by show _ = _; rw [HASK.out, HX.out, HPL.out, show r.q.mode = r.mode from rfl]; simp only [Bool.true_and]; rw [hsu]; rfl
      clear hsu
      obtain ⟨c0, c1, c2, c3, c4, c5, c6, c7, c8, c9, c10⟩ := HP11.out.res
      obtain ⟨b0, b1', b2', b3', b4', b5, b6, b7, b8, b9, b10⟩ := HT11.out
      dsimp only at b0 b1' b2' b3' b4' b5 b6 b7 b8 b9 b10
      have ff := HP11.out.own
      unfold OwnB at ff
      go_wp2
      obtain ⟨q0, q1, q2, q3, q4, q5, q6, q7, q8, q9, q10⟩ := HP11.out.res.put_at ⟨A, B, n, C, D, s, h, k, N, nn, cn, xx, nz⟩
      dsimp only [PtAt.put] at q0 q1 q2 q3 q4 q5 q6 q7 q8 q9 q10
      refine bodyPost_ret (v := .tuple #[.agg #[.string A, .string B, .int .i64 n, .string C, .string D, .string s, .string h, .int .i64 k, .slice N nn cn, .bool xx, .bool nz], .int .i64 0]) (by simp [results, Tryz.results30, go_sem, q0, q1, q2, q3, q4, q5, q6, q7, q8, q9, q10]) rfl ?_
      exact ⟨⟨A, B, n, C, D, s, h, k, N, nn, cn, xx, nz⟩, by rw [HA.out]; rfl,
        ⟨by rw [urlQ, if_pos HA.out]; exact HTU.out.symm, by rw [fromQ, if_pos HA.out]; exact HOO.out, by rw [crossQ, if_pos HA.out]; exact HX.out.symm, by rw [plainQ, if_pos HA.out, HPL.out]; first | rfl | simp, b1, b2, b3, b4⟩,
        by rw [namesQ, if_pos HA.out]; exact ownsRow_base (own_pt HS11.out hsz ⟨A, B, n, C, D, s, h, k, N, nn, cn, xx, nz⟩) (by omega), PtAt.put_below HP11.out.bel (Nat.le_succ _) ⟨A, B, n, C, D, s, h, k, N, nn, cn, xx, nz⟩⟩
    · obtain rfl : i = 16 := by simpa using hi
      simp only [segOf, pickOps, pickOp]
      go_wp2_with fail
      obtain ⟨g9, hg9⟩ : ∃ g, g = w7.heap.size := ⟨_, rfl⟩
      obtain ⟨w8, hw⟩ : ∃ W, W = w7.alloc (Obj.cells #[.string ⟨#[]⟩, .string ⟨#[]⟩, .int .i64 0, .string ⟨#[]⟩, .string ⟨#[]⟩, .string ⟨#[]⟩, .string ⟨#[]⟩, .int .i64 0, .slice none 0 0, .bool false, .bool false] 54) := ⟨_, rfl⟩
      have hb : Below w7.heap.size w7 w8 := by rw [hw]; exact (Below.refl _ _).alloc (Nat.le_refl _) _
      have HP8 : Hid (RdAt w w8 r) := HP7.out.next hb
      have HB8 : Hid (Bl3 w8 g4 g6 w.heap.size A B n C D s h k r) := HB7.out.below hb
      have HL8 : Hid (Below w7.heap.size w7 w8) := HL7.out.trans (hb.mono HL7.out.size)
      have HT8 : Hid (PtAt w8 g9 Pv.zero) := by rw [hw, hg9]; exact PtAt.new _ Pv.zero _
      have HW8 : Hid (OwnB w8 g9) := by rw [hw, hg9]; exact OwnB.new _ _ _
      have hgl : w.heap.size + 1 < g9 := by rw [hg9]; exact HP7.out.res.lt
      have hgs : w7.heap.size ≤ g9 := by rw [hg9]; exact HL7.out.size
      have hn4 : g4 ≠ g9 := by rw [hg9]; have := HB7.out.u.lt; omega
      have hn6 : g6 ≠ g9 := by rw [hg9]; have := HB7.out.o.lt; omega
      have hn1 : w.heap.size ≠ g9 := by omega
      rw [← hw, ← hg9]
      clear hw hg9 hb
      refine MixPost.normal HB8.out ?_
      refine mix_run 9 (by kernel_rfl) ?_
      simp only [segOf, pickOps, pickOp]
      go_wp2_with fail
      refine (Safe_any r.m _ HK.out.hm HP8.out.env.m).mono ?_
      rintro e w9 ⟨rfl, n9, hw⟩
      rw [← HSF.out]
      have hb : Below w8.heap.size w8 w9 := by rw [hw]; exact below_drewN (Below.refl _ _) _
      have HP9 : Hid (RdAt w w9 r) := HP8.out.next hb
      have HB9 : Hid (Bl3 w9 g4 g6 w.heap.size A B n C D s h k r) := HB8.out.below hb
      have HL9 : Hid (Below w7.heap.size w7 w9) := HL8.out.trans (hb.mono HL8.out.size)
      have HT9 : Hid (PtAt w9 g9 Pv.zero) := HT8.out.below hb HT8.out.lt
      have HW9 : Hid (OwnB w9 g9) := HW8.out.below hb HT8.out.lt
      clear hb hw
      go_wp2_with fail
      refine MixPost.normal HB9.out ?_
      refine mix_seg [10, 11, 12, 13, 14, 15] (by kernel_rfl) HB9.out ?_
      simp only [segOf, pickOps, pickOp]
      repeat (go_big_quiet_step (fail))
      refine wpQuiet_nil ?_
      rw [show ((nn : Int) == 0) = nz from by rw [HNZ.out, Bool.eq_iff_iff]; simp]
      refine mix_run 17 (by kernel_rfl) ?_
      simp only [segOf, pickOps, pickOp]
      obtain ⟨b0, b1', b2', b3', b4', b5, b6, b7, b8, b9, b10⟩ := HT9.out
      have ee := HW9.out
      unfold OwnB at ee
      go_wp2_with fail
      obtain ⟨w10, hw⟩ : ∃ W, W = PtAt.put w9 g9 ⟨A, B, n, C, D, s, h, k, N, nn, cn, xx, nz⟩ := ⟨_, rfl⟩
      have HP10 : Hid (RdAt w w10 r) := by rw [hw]; exact HP9.out.put hgl _
      have HB10 : Hid (Bl3 w10 g4 g6 w.heap.size A B n C D s h k r) := by rw [hw]; exact HB9.out.put hn4 hn6 hn1 _
      have HT10 : Hid (PtAt w10 g9 ⟨A, B, n, C, D, s, h, k, N, nn, cn, xx, nz⟩) := by rw [hw]; exact HT9.out.put_at _
      have HS10 : Hid (sown w10 w5.heap.size (.slice N nn cn) (safeNames r.q.hs)) := by rw [hw]; exact ownsRow_below HS7.out (PtAt.put_below HL9.out hgs _)
      dsimp only [PtAt.put] at hw
      rw [← hw]
      clear hw ee b0 b1' b2' b3' b4' b5 b6 b7 b8 b9 b10
      refine MixPost.normal HB10.out ?_
      refine mix_done (by kernel_rfl) ?_
      obtain ⟨b0, b1', b2', b3', b4', b5, b6, b7, b8, b9, b10⟩ := HT10.out
      dsimp only at b0 b1' b2' b3' b4' b5 b6 b7 b8 b9 b10
      obtain ⟨r0, r1, r2, r3, r4, r5, r6, r7, r8, r9⟩ := HP10.out.req
      go_wp2_with fail
      refine (suits_any ⟨A, B, n, C, D, s, h, k, N, nn, cn, xx, nz⟩ r.mode _).mono ?_
      rintro e w11 ⟨rfl, hb⟩
      dsimp only
      have HP11 : Hid (RdAt w w11 r) := HP10.out.next hb
      have HT11 : Hid (PtAt w11 g9 ⟨A, B, n, C, D, s, h, k, N, nn, cn, xx, nz⟩) := HT10.out.below hb HT10.out.lt
      have HS11 : Hid (sown w11 w5.heap.size (.slice N nn cn) (safeNames r.q.hs)) := ownsRow_below HS10.out hb
      clear hb r0 r1 r2 r3 r4 r5 r6 r7 r8 r9 b0 b1' b2' b3' b4' b5 b6 b7 b8 b9 b10
      cases hsu : suitB r.mode xx nz
      · have HA : Hid (askI r.q = 7) := by show _ = _; rw [HASK.out, HX.out, HPL.out, show r.q.mode = r.mode from rfl]; simp only [Bool.true_and]; rw [hsu]; rfl
        clear hsu
        obtain ⟨c0, c1, c2, c3, c4, c5, c6, c7, c8, c9, c10⟩ := HP11.out.res
        have ff := HP11.out.own
        unfold OwnB at ff
        go_wp2
        obtain ⟨q0, q1, q2, q3, q4, q5, q6, q7, q8, q9, q10⟩ := HP11.out.res.put_at Pv.zero
        dsimp only [PtAt.put, Pv.zero] at q0 q1 q2 q3 q4 q5 q6 q7 q8 q9 q10
        refine bodyPost_ret (v := .tuple #[.agg #[.string ⟨#[]⟩, .string ⟨#[]⟩, .int .i64 0, .string ⟨#[]⟩, .string ⟨#[]⟩, .string ⟨#[]⟩, .string ⟨#[]⟩, .int .i64 0, .slice none 0 0, .bool false, .bool false], .int .i64 7]) (by simp [results, Tryz.results30, go_sem, q0, q1, q2, q3, q4, q5, q6, q7, q8, q9, q10]) rfl ?_
        exact ⟨Pv.zero, by rw [HA.out]; rfl, PvIs.zero (by rw [HA.out]; decide), by rw [namesQ, if_neg (by rw [HA.out]; decide)]; exact World.ownsRow_nil _ _ _ _, PtAt.put_below HP11.out.bel (Nat.le_succ _) Pv.zero⟩
      have HA : Hid (askI r.q = 0) := by show _ = _; rw [HASK.out, HX.out, HPL.out, show r.q.mode = r.mode from rfl]; simp only [Bool.true_and]; rw [hsu]; rfl
      clear hsu
      obtain ⟨c0, c1, c2, c3, c4, c5, c6, c7, c8, c9, c10⟩ := HP11.out.res
      obtain ⟨b0, b1', b2', b3', b4', b5, b6, b7, b8, b9, b10⟩ := HT11.out
      dsimp only at b0 b1' b2' b3' b4' b5 b6 b7 b8 b9 b10
      have ff := HP11.out.own
      unfold OwnB at ff
      go_wp2
      obtain ⟨q0, q1, q2, q3, q4, q5, q6, q7, q8, q9, q10⟩ := HP11.out.res.put_at ⟨A, B, n, C, D, s, h, k, N, nn, cn, xx, nz⟩
      dsimp only [PtAt.put] at q0 q1 q2 q3 q4 q5 q6 q7 q8 q9 q10
      refine bodyPost_ret (v := .tuple #[.agg #[.string A, .string B, .int .i64 n, .string C, .string D, .string s, .string h, .int .i64 k, .slice N nn cn, .bool xx, .bool nz], .int .i64 0]) (by simp [results, Tryz.results30, go_sem, q0, q1, q2, q3, q4, q5, q6, q7, q8, q9, q10]) rfl ?_
      exact ⟨⟨A, B, n, C, D, s, h, k, N, nn, cn, xx, nz⟩, by rw [HA.out]; rfl,
        ⟨by rw [urlQ, if_pos HA.out]; exact HTU.out.symm, by rw [fromQ, if_pos HA.out]; exact HOO.out, by rw [crossQ, if_pos HA.out]; exact HX.out.symm, by rw [plainQ, if_pos HA.out, HPL.out]; first | rfl | simp, b1, b2, b3, b4⟩,
        by rw [namesQ, if_pos HA.out]; exact ownsRow_base (own_pt HS11.out hsz ⟨A, B, n, C, D, s, h, k, N, nn, cn, xx, nz⟩) (by omega), PtAt.put_below HP11.out.bel (Nat.le_succ _) ⟨A, B, n, C, D, s, h, k, N, nn, cn, xx, nz⟩⟩
end Go.Proofs.YticedcnmajcgbaaGreatDoor
