/-
  Contracts of the document's own answer of layer 8 over this seat's program. Conditions: those of each statement.
-/
import Derived.Test.YtlkneapidmdpbaaGreatDoorLAsk
import Derived.Test.YtlkneapidmdpbaaGreatDoorLRef4
import Derived.Test.YtlkneapidmdpbaaGreatDoorLRef5
namespace Go.Proofs.YtlkneapidmdpbaaGreatDoor
open Go.RowKit

/-- what holds all through: the request in the first block -/
structure RfAt (w W : World) (r : Rv) : Prop where
  bel : Below w.heap.size w W
  env0 : Env8 w
  ok0 : RqOk w r
  req : RqAt W w.heap.size r
theorem RfAt.env {w W : World} {r : Rv} (h : RfAt w W r) : Env8 W := h.env0.below h.bel
theorem RfAt.ok {w W : World} {r : Rv} (h : RfAt w W r) : RqOk W r := h.ok0.below h.bel
theorem RfAt.next {w W W' : World} {r : Rv} (h : RfAt w W r) (hb : Below W.heap.size W W') : RfAt w W' r :=
  ⟨h.bel.trans (hb.mono h.bel.size), h.env0, h.ok0, h.req.below hb h.req.lt⟩
theorem RfAt.alloc {w W : World} {r : Rv} (h : RfAt w W r) (o : Obj) : RfAt w (W.alloc o) r := h.next ((Below.refl _ _).alloc (Nat.le_refl _) o)
theorem RfAt.new {w : World} {r : Rv} (he : Env8 w) (hr : RqOk w r) (t : TypeId) : RfAt w (w.alloc (.cells #[.string r.m, .string r.u, .string r.o, .int .i64 r.mode, .bool r.cr, .slice r.A r.n r.c, .int .i64 r.cl, .int .u64 r.tm, .int .i64 r.gr, .int .i64 r.sg] t)) r :=
  ⟨(Below.refl _ _).alloc (Nat.le_refl _) _, he, hr, RqAt.new w r t⟩
theorem mode_low {k : Int} (h : k < 1) : modeOk k = false := by
  unfold modeOk; simp; omega
theorem mode_high {k : Int} (h : 3 < k) : modeOk k = false := by
  unfold modeOk; simp; omega
theorem mode_in {k : Int} (h1 : ¬ k < 1) (h2 : ¬ 3 < k) : modeOk k = true := by
  unfold modeOk; simp; omega

set_option maxRecDepth 100000 in
set_option maxHeartbeats 8000000 in
theorem refCheck8_any (r : Rv) (w : World) (hr : RqOk w r) (he : Env8 w) :
    Calls Tryz.prog 84 #[r.v] w fun e w' => e = .returned (.int .i64 (askI r.q)) ∧ Below w.heap.size w w' := by
  unfold Rv.v
  obtain ⟨A, B, n, C, D, k0, hv, htl, hok, b1, b2, b3⟩ := tgt_view r.u.data.toList
  have HV := Lib.hid hv
  have HTC : Hid ((tgtL r.q.u).2 = k0) := by show (tgtL r.u.data.toList).2 = _; rw [htl]
  have HTU : Hid ((tgtL r.q.u).1 = urlOf A B n C D) := by show (tgtL r.u.data.toList).1 = _; rw [htl]
  clear hv htl hok
  obtain ⟨W, hW⟩ : ∃ W, W = w.alloc (Obj.cells #[.string r.m, .string r.u, .string r.o, .int .i64 r.mode, .bool r.cr, .slice r.A r.n r.c, .int .i64 r.cl, .int .u64 r.tm, .int .i64 r.gr, .int .i64 r.sg] 25) := ⟨_, rfl⟩
  have HP0 : Hid (RfAt w W r) := by rw [hW]; exact RfAt.new he hr _
  have HK := Lib.hid hr
  clear hr he
  go_enter Tryz.func84, Tryz.ntmps84
  go_wp2_with fail
  rw [← hW]
  clear hW
  refine (refTParse_any r.u _ HK.out.hu HP0.out.env.e).mono ?_
  rintro e w1 ⟨rfl, hb⟩
  rw [HV.out]
  have HP1 : Hid (RfAt w w1 r) := HP0.out.next hb
  clear hb HV HP0
  have HP2 := Lib.hid (HP1.out.alloc (.cells #[.string A, .string B, .int .i64 n, .string C, .string D] 84))
  have HU2 := Lib.hid (UrlAt.new w1 A B n C D 84)
  by_cases hk : k0 = 0
  case neg =>
    have HA : Hid (askI r.q = k0) := ask_url HTC.out hk
    go_wp2
    go_ret
    exact ⟨ret_int HA.out.symm, HP2.out.bel⟩
  subst hk
  obtain ⟨s, h, k, c, hv, hor, hoc, b4⟩ := org_view r.o.data.toList
  have HV := Lib.hid hv
  have HOO := Lib.hid hor
  have HOC := Lib.hid hoc
  clear hv hor hoc
  obtain ⟨r0, r1, r2, r3, r4, r5, r6, r7, r8, r9⟩ := HP2.out.req
  go_wp2_with fail
  refine (refParse_any r.o _ HK.out.ho).mono ?_
  rintro e w3 ⟨rfl, hb⟩
  rw [HV.out]
  obtain ⟨g4, hg4⟩ : ∃ g, g = w1.heap.size := ⟨_, rfl⟩
  have HP3 : Hid (RfAt w w3 r) := HP2.out.next hb
  have HU3 : Hid (UrlAt w3 g4 A B n C D) := by rw [hg4]; exact HU2.out.below hb HU2.out.lt
  rw [← hg4]
  clear hb hg4 HP2 HU2 HV HP1 r0 r1 r2 r3 r4 r5 r6 r7 r8 r9
  have HP4 := Lib.hid (HP3.out.alloc (.cells #[.string s, .string h, .int .i64 k] 82))
  have HU4 := Lib.hid (HU3.out.alloc (.cells #[.string s, .string h, .int .i64 k] 82))
  have HO4 := Lib.hid (OrgAt.new w3 s h k 82)
  by_cases hk : c = 0
  case neg =>
    have HA : Hid (askI r.q = c) := ask_org HTC.out HOC.out.symm hk
    go_wp2
    go_ret
    exact ⟨ret_int HA.out.symm, HP4.out.bel⟩
  subst hk
  obtain ⟨r0, r1, r2, r3, r4, r5, r6, r7, r8, r9⟩ := HP4.out.req
  go_wp2_with fail
  refine (refMCheck_any r.m _ HK.out.hm).mono ?_
  rintro e w5 ⟨rfl, hb⟩
  obtain ⟨g6, hg6⟩ : ∃ g, g = w3.heap.size := ⟨_, rfl⟩
  have HP5 : Hid (RfAt w w5 r) := HP4.out.next hb
  have HU5 : Hid (UrlAt w5 g4 A B n C D) := HU4.out.below hb HU4.out.lt
  have HO5 : Hid (OrgAt w5 g6 s h k) := by rw [hg6]; exact HO4.out.below hb HO4.out.lt
  rw [← hg6]
  clear hb hg6 HP4 HU4 HO4 HP3 HU3 r0 r1 r2 r3 r4 r5 r6 r7 r8 r9
  obtain ⟨mi, hk⟩ : ∃ k, k = Lk.methI r.m.data.toList := ⟨_, rfl⟩
  rw [← hk]
  by_cases h0 : mi = 0
  case neg =>
    have HA : Hid (askI r.q = mi) := ask_fld HTC.out HOC.out.symm (by rw [hk] at h0 ⊢; exact fields_meth h0) h0
    clear hk
    go_wp2
    go_ret
    exact ⟨ret_int HA.out.symm, HP5.out.bel⟩
  have H0 : Hid (Lk.methI r.q.m = 0) := by show _ = _; rw [← h0, hk]; rfl
  subst h0
  clear hk
  obtain ⟨r0, r1, r2, r3, r4, r5, r6, r7, r8, r9⟩ := HP5.out.req
  obtain ⟨md, hmd⟩ : ∃ m, m = r.mode := ⟨_, rfl⟩
  rw [← hmd] at r3
  have HM : Hid (md = r.q.mode) := hmd
  clear hmd
  by_cases m1 : md < 1
  case pos =>
    have HA : Hid (askI r.q = 7) := ask_fld HTC.out HOC.out.symm (fields_mode H0.out (by rw [← HM.out]; exact mode_low m1)) (by decide)
    go_wp2
    go_ret
    exact ⟨ret_int HA.out.symm, HP5.out.bel⟩
  by_cases m2 : 3 < md
  case pos =>
    have HA : Hid (askI r.q = 7) := ask_fld HTC.out HOC.out.symm (fields_mode H0.out (by rw [← HM.out]; exact mode_high m2)) (by decide)
    go_wp2
    go_ret
    exact ⟨ret_int HA.out.symm, HP5.out.bel⟩
  have H1 : Hid (modeOk r.q.mode = true) := by show _ = _; rw [← HM.out]; exact mode_in m1 m2
  go_wp2_with fail
  refine (refHCheck_any r.A r.n r.c w5.heap.size r.xs _ HK.out.len HP5.out.ok.row HK.out.sm).mono ?_
  rintro e w' ⟨rfl, rfl⟩
  obtain ⟨ki, hk⟩ : ∃ k, k = checkH (r.xs.map hd) := ⟨_, rfl⟩
  rw [← hk]
  by_cases h0 : ki = 0
  case neg =>
    have HA : Hid (askI r.q = ki) := ask_fld HTC.out HOC.out.symm (by rw [hk] at h0 ⊢; exact fields_head H0.out H1.out h0) h0
    clear hk
    go_wp2
    go_ret
    exact ⟨ret_int HA.out.symm, HP5.out.bel⟩
  have HF : Hid (fieldsI r.q = numsI r.q) := by show _ = _; exact fields_nums H0.out H1.out (by rw [← h0, hk]; rfl)
  subst h0
  clear hk
  have HN : Hid (numsI r.q = if r.cl < 1 ∨ 6 < r.cl then 8 else if 600 < r.tm then 9 else if r.gr < 0 ∨ r.sg < 0 then 2 else 0) := rfl
  by_cases n1 : r.cl < 1
  case pos =>
    have HA : Hid (askI r.q = 8) := ask_fld HTC.out HOC.out.symm (by rw [HF.out, HN.out]; simp [n1]) (by decide)
    go_wp2
    go_ret
    exact ⟨ret_int HA.out.symm, HP5.out.bel⟩
  by_cases n2 : 6 < r.cl
  case pos =>
    have HA : Hid (askI r.q = 8) := ask_fld HTC.out HOC.out.symm (by rw [HF.out, HN.out]; simp [n1, n2]) (by decide)
    go_wp2
    go_ret
    exact ⟨ret_int HA.out.symm, HP5.out.bel⟩
  by_cases n3 : 600 < r.tm
  case pos =>
    have HA : Hid (askI r.q = 9) := ask_fld HTC.out HOC.out.symm (by rw [HF.out, HN.out]; simp [n1, n2, n3]) (by decide)
    go_wp2
    go_ret
    exact ⟨ret_int HA.out.symm, HP5.out.bel⟩
  by_cases n4 : r.gr < 0
  case pos =>
    have HA : Hid (askI r.q = 2) := ask_fld HTC.out HOC.out.symm (by rw [HF.out, HN.out]; simp [n1, n2, n3, n4]) (by decide)
    go_wp2
    go_ret
    exact ⟨ret_int HA.out.symm, HP5.out.bel⟩
  by_cases n5 : r.sg < 0
  case pos =>
    have HA : Hid (askI r.q = 2) := ask_fld HTC.out HOC.out.symm (by rw [HF.out, HN.out]; simp [n1, n2, n3, n4, n5]) (by decide)
    go_wp2
    go_ret
    exact ⟨ret_int HA.out.symm, HP5.out.bel⟩
  have HASK : Hid (askI r.q = if suitB r.q.mode (crossB r.q) (plainB r.q) = true then 0 else 7) := ask_suit HTC.out HOC.out.symm (by rw [HF.out, HN.out]; simp [n1, n2, n3, n4, n5])
  clear HF HN
  obtain ⟨xx, hxx⟩ : ∃ b, b = !((A.toList == s.toList) && (B.toList == h.toList) && (n == k)) := ⟨_, rfl⟩
  have HX : Hid (crossB r.q = xx) := by
    show _ = _
    unfold crossB
    rw [HTU.out, ← show _ = orgO r.q.o from HOO.out, hxx, ByteArray.toList_eq, ByteArray.toList_eq, ByteArray.toList_eq, ByteArray.toList_eq]
    rfl
  have hcmp : ∀ W, (binOp .neq 82 (.agg #[.string A, .string B, .int .i64 n]) (.agg #[.string s, .string h, .int .i64 k])).run Tryz.prog W = .ok (.bool xx) W := fun W => by rw [neq_org, ← hxx]
  clear hxx
  obtain ⟨u0, u1, u2, u3, u4⟩ := HU5.out
  obtain ⟨o0, o1, o2⟩ := HO5.out
  by_cases q1 : md = 1
  case pos =>
    subst q1
    cases xx
    case true =>
      have HA : Hid (askI r.q = 7) := by show _ = _; rw [HASK.out, HX.out, ← HM.out]; rfl
      go_wp2
      go_ret
      exact ⟨ret_int HA.out.symm, HP5.out.bel⟩
    have HA : Hid (askI r.q = 0) := by show _ = _; rw [HASK.out, HX.out, ← HM.out]; rfl
    go_wp2
    go_ret
    exact ⟨ret_int HA.out.symm, HP5.out.bel⟩
  clear u0 u1 u2 u3 u4 o0 o1 o2 hcmp
  by_cases q2 : md = 2
  case pos =>
    subst q2
    obtain ⟨sf, hsf⟩ : ∃ b, b = Lk.safeL r.m.data.toList := ⟨_, rfl⟩
    have HSF := Lib.hid hsf
    clear hsf
    go_wp2_with fail
    refine (refSafe_any r.m _ HK.out.hm).mono ?_
    rintro e w6 ⟨rfl, hb⟩
    rw [← HSF.out]
    have HP6 : Hid (RfAt w w6 r) := HP5.out.next hb
    clear hb r0 r1 r2 r3 r4 r5 r6 r7 r8 r9
    cases sf
    case false =>
      have HA : Hid (askI r.q = 7) := by show _ = _; rw [HASK.out, ← HM.out]; unfold plainB; rw [show Lk.safeL r.q.m = false from HSF.out.symm]; rfl
      go_wp2
      go_ret
      exact ⟨ret_int HA.out.symm, HP6.out.bel⟩
    obtain ⟨r0, r1, r2, r3, r4, r5, r6, r7, r8, r9⟩ := HP6.out.req
    go_wp2_with fail
    refine (refNames7_any r.A r.n r.c w6.heap.size r.xs _ HK.out.len (Nat.le_refl _) HP6.out.ok.row HK.out.sm).mono ?_
    rintro e w7 ⟨v, rfl, hs, hb⟩
    have HP7 : Hid (RfAt w w7 r) := HP6.out.next hb
    clear hb r0 r1 r2 r3 r4 r5 r6 r7 r8 r9
    obtain ⟨N, nn, cn, rfl, hnn, _⟩ := trow_row hs
    have HPL : Hid (plainB r.q = decide (nn = 0)) := by show _ = _; unfold plainB; rw [show Lk.safeL r.q.m = true from HSF.out.symm, hnn, List.length_map]; rfl
    clear hs hnn
    by_cases hz : nn = 0
    case pos =>
      subst hz
      have HA : Hid (askI r.q = 0) := by show _ = _; rw [HASK.out, ← HM.out, HPL.out]; rfl
      go_wp2
      go_ret
      exact ⟨ret_int HA.out.symm, HP7.out.bel⟩
    have HA : Hid (askI r.q = 7) := by show _ = _; rw [HASK.out, ← HM.out, HPL.out]; simp [hz, suitB]
    have hpos : 0 < nn := by omega
    clear hz
    go_wp2
    go_ret
    exact ⟨ret_int HA.out.symm, HP7.out.bel⟩
  have HA : Hid (askI r.q = 0) := by show _ = _; rw [HASK.out, ← HM.out]; simp [suitB, q1, q2]
  go_wp2
  go_ret
  exact ⟨ret_int HA.out.symm, HP5.out.bel⟩

set_option maxRecDepth 100000 in
set_option maxHeartbeats 4000000 in
theorem refCross8_any (r : Rv) (w : World) (hr : RqOk w r) (he : Env8 w) :
    Calls Tryz.prog 82 #[r.v] w fun e w' => e = .returned (.bool (crossQ r.q)) ∧ Below w.heap.size w w' := by
  unfold Rv.v
  obtain ⟨A, B, n, C, D, k0, hv, htl, hok, b1, b2, b3⟩ := tgt_view r.u.data.toList
  have HV := Lib.hid hv
  have HTC : Hid ((tgtL r.q.u).2 = k0) := by show (tgtL r.u.data.toList).2 = _; rw [htl]
  have HTU : Hid ((tgtL r.q.u).1 = urlOf A B n C D) := by show (tgtL r.u.data.toList).1 = _; rw [htl]
  clear hv htl hok
  obtain ⟨W, hW⟩ : ∃ W, W = w.alloc (Obj.cells #[.string r.m, .string r.u, .string r.o, .int .i64 r.mode, .bool r.cr, .slice r.A r.n r.c, .int .i64 r.cl, .int .u64 r.tm, .int .i64 r.gr, .int .i64 r.sg] 25) := ⟨_, rfl⟩
  have HP0 : Hid (RfAt w W r) := by rw [hW]; exact RfAt.new he hr _
  have HK := Lib.hid hr
  clear hr he
  go_enter Tryz.func82, Tryz.ntmps82
  go_wp2_with fail
  rw [← hW]
  clear hW
  refine (refTParse_any r.u _ HK.out.hu HP0.out.env.e).mono ?_
  rintro e w1 ⟨rfl, hb⟩
  rw [HV.out]
  have HP1 : Hid (RfAt w w1 r) := HP0.out.next hb
  clear hb HV HP0
  have HP2 := Lib.hid (HP1.out.alloc (.cells #[.string A, .string B, .int .i64 n, .string C, .string D] 84))
  have HU2 := Lib.hid (UrlAt.new w1 A B n C D 84)
  obtain ⟨s, h, k, c, hv, hor, hoc, b4⟩ := org_view r.o.data.toList
  have HV := Lib.hid hv
  have HOO := Lib.hid hor
  have HOC := Lib.hid hoc
  clear hv hor hoc
  obtain ⟨r0, r1, r2, r3, r4, r5, r6, r7, r8, r9⟩ := HP2.out.req
  go_wp2_with fail
  refine (refParse_any r.o _ HK.out.ho).mono ?_
  rintro e w3 ⟨rfl, hb⟩
  rw [HV.out]
  obtain ⟨g4, hg4⟩ : ∃ g, g = w1.heap.size := ⟨_, rfl⟩
  have HP3 : Hid (RfAt w w3 r) := HP2.out.next hb
  have HU3 : Hid (UrlAt w3 g4 A B n C D) := by rw [hg4]; exact HU2.out.below hb HU2.out.lt
  rw [← hg4]
  clear hb hg4 HP2 HU2 HV HP1 r0 r1 r2 r3 r4 r5 r6 r7 r8 r9
  have HP4 := Lib.hid (HP3.out.alloc (.cells #[.string s, .string h, .int .i64 k] 82))
  have HU4 := Lib.hid (HU3.out.alloc (.cells #[.string s, .string h, .int .i64 k] 82))
  have HO4 := Lib.hid (OrgAt.new w3 s h k 82)
  obtain ⟨r0, r1, r2, r3, r4, r5, r6, r7, r8, r9⟩ := HP4.out.req
  go_wp2_with fail
  refine (refCheck8_any r _ HP4.out.ok HP4.out.env).mono ?_
  rintro e w5 ⟨rfl, hb⟩
  obtain ⟨g6, hg6⟩ : ∃ g, g = w3.heap.size := ⟨_, rfl⟩
  have HP5 : Hid (RfAt w w5 r) := HP4.out.next hb
  have HU5 : Hid (UrlAt w5 g4 A B n C D) := HU4.out.below hb HU4.out.lt
  have HO5 : Hid (OrgAt w5 g6 s h k) := by rw [hg6]; exact HO4.out.below hb HO4.out.lt
  rw [← hg6]
  clear hb hg6 HP4 HU4 HO4 HP3 HU3 r0 r1 r2 r3 r4 r5 r6 r7 r8 r9
  obtain ⟨ac, hac⟩ : ∃ c, c = askI r.q := ⟨_, rfl⟩
  rw [← hac]
  by_cases h0 : ac = 0
  case neg =>
    have HA : Hid (crossQ r.q = false) := by show _ = _; rw [crossQ, if_neg (by rw [← hac]; exact h0)]
    clear hac
    go_wp2
    go_ret
    exact ⟨ret_bool HA.out.symm, HP5.out.bel⟩
  subst h0
  obtain ⟨xx, hxx⟩ : ∃ b, b = !((A.toList == s.toList) && (B.toList == h.toList) && (n == k)) := ⟨_, rfl⟩
  have HX : Hid (crossB r.q = xx) := by
    show _ = _
    unfold crossB
    rw [HTU.out, ← show _ = orgO r.q.o from HOO.out, hxx, ByteArray.toList_eq, ByteArray.toList_eq, ByteArray.toList_eq, ByteArray.toList_eq]
    rfl
  have hcmp : ∀ W, (binOp .neq 82 (.agg #[.string A, .string B, .int .i64 n]) (.agg #[.string s, .string h, .int .i64 k])).run Tryz.prog W = .ok (.bool xx) W := fun W => by rw [neq_org, ← hxx]
  clear hxx
  have HA : Hid (crossQ r.q = xx) := by show _ = _; rw [crossQ, if_pos hac.symm, HX.out]
  clear hac
  obtain ⟨u0, u1, u2, u3, u4⟩ := HU5.out
  obtain ⟨o0, o1, o2⟩ := HO5.out
  go_wp2
  go_ret
  exact ⟨ret_bool HA.out.symm, HP5.out.bel⟩

set_option maxRecDepth 100000 in
set_option maxHeartbeats 2000000 in
theorem refNames8_any (r : Rv) (w : World) (hr : RqOk w r) (he : Env8 w) :
    Calls Tryz.prog 46 #[r.v] w fun e w' => ∃ v, e = .returned v ∧ sown w' w.heap.size v (namesQ r.q) ∧ Below w.heap.size w w' := by
  unfold Rv.v
  obtain ⟨W, hW⟩ : ∃ W, W = w.alloc (Obj.cells #[.string r.m, .string r.u, .string r.o, .int .i64 r.mode, .bool r.cr, .slice r.A r.n r.c, .int .i64 r.cl, .int .u64 r.tm, .int .i64 r.gr, .int .i64 r.sg] 25) := ⟨_, rfl⟩
  have HP0 : Hid (RfAt w W r) := by rw [hW]; exact RfAt.new he hr _
  have HK := Lib.hid hr
  clear hr he
  go_enter Tryz.func46, Tryz.ntmps46
  go_wp2_with fail
  rw [← hW]
  clear hW
  refine (refCheck8_any r _ HP0.out.ok HP0.out.env).mono ?_
  rintro e w1 ⟨rfl, hb⟩
  have HP1 : Hid (RfAt w w1 r) := HP0.out.next hb
  clear hb HP0
  obtain ⟨ac, hac⟩ : ∃ c, c = askI r.q := ⟨_, rfl⟩
  rw [← hac]
  by_cases h0 : ac = 0
  case neg =>
    have HA : Hid (namesQ r.q = []) := by show _ = _; rw [namesQ, if_neg (by rw [← hac]; exact h0)]
    clear hac
    go_wp2
    go_ret
    exact ⟨_, rfl, by rw [HA.out]; exact World.ownsRow_nil _ _ _ _, HP1.out.bel⟩
  have HC : Hid (askI r.q = 0) := by show _ = _; rw [← hac, h0]
  subst h0
  clear hac
  obtain ⟨r0, r1, r2, r3, r4, r5, r6, r7, r8, r9⟩ := HP1.out.req
  go_wp2_with fail
  refine (refNames7_any r.A r.n r.c w1.heap.size r.xs _ HK.out.len (Nat.le_refl _) HP1.out.ok.row HK.out.sm).mono ?_
  rintro e w2 ⟨v, rfl, hs, hb⟩
  have HP2 : Hid (RfAt w w2 r) := HP1.out.next hb
  have HS := Lib.hid hs
  have hsz := HP1.out.bel.size
  clear hb hs r0 r1 r2 r3 r4 r5 r6 r7 r8 r9
  go_wp2
  go_ret
  exact ⟨v, rfl, by rw [namesQ, if_pos HC.out]; exact ownsRow_base HS.out hsz, HP2.out.bel⟩

set_option maxRecDepth 100000 in
set_option maxHeartbeats 4000000 in
theorem refNeeds8_any (r : Rv) (w : World) (hr : RqOk w r) (he : Env8 w) :
    Calls Tryz.prog 41 #[r.v] w fun e w' => e = .returned (.bool (needsQ r.q)) ∧ Below w.heap.size w w' := by
  obtain ⟨zm, zu, zo, md, zc, zA, zn, zk, zx, zl, zt, zg, zs⟩ := r
  by_cases h3 : md = 3
  case neg =>
    have HV : Hid (needsQ (Rv.mk zm zu zo md zc zA zn zk zx zl zt zg zs).q = false) := by show _ = _; unfold needsQ; simp [Rv.q, h3]
    have HB : Hid (Below w.heap.size w (w.alloc (Obj.cells #[.string zm, .string zu, .string zo, .int .i64 md, .bool zc, .slice zA zn zk, .int .i64 zl, .int .u64 zt, .int .i64 zg, .int .i64 zs] 25))) := (Below.refl _ _).alloc (Nat.le_refl _) _
    unfold Rv.v
    dsimp only
    clear hr he
    go_enter Tryz.func41, Tryz.ntmps41
    go_wp2
    go_ret
    exact ⟨ret_bool HV.out.symm, HB.out⟩
  subst h3
  obtain ⟨r, hR⟩ : ∃ r : Rv, r = ⟨zm, zu, zo, 3, zc, zA, zn, zk, zx, zl, zt, zg, zs⟩ := ⟨_, rfl⟩
  have e3 : Rv.v ⟨zm, zu, zo, 3, zc, zA, zn, zk, zx, zl, zt, zg, zs⟩ = .agg #[.string zm, .string zu, .string zo, .int .i64 3, .bool zc, .slice zA zn zk, .int .i64 zl, .int .u64 zt, .int .i64 zg, .int .i64 zs] := rfl
  rw [e3, ← hR]
  rw [← hR] at hr
  have HR3 : Hid (.agg #[.string zm, .string zu, .string zo, .int .i64 3, .bool zc, .slice zA zn zk, .int .i64 zl, .int .u64 zt, .int .i64 zg, .int .i64 zs] = r.v) := by show _ = _; rw [hR]; rfl
  have HN : Hid (needsQ r.q = (crossQ r.q && !plainQ r.q)) := by show _ = _; unfold needsQ; rw [show r.q.mode = 3 by rw [hR]; rfl]; simp
  obtain ⟨W, hW⟩ : ∃ W, W = w.alloc (Obj.cells #[.string zm, .string zu, .string zo, .int .i64 3, .bool zc, .slice zA zn zk, .int .i64 zl, .int .u64 zt, .int .i64 zg, .int .i64 zs] 25) := ⟨_, rfl⟩
  have HP0 : Hid (RfAt w W r) := by rw [hW]; have := RfAt.new he hr 25; rw [hR] at this ⊢; exact this
  have HK := Lib.hid hr
  clear hr he hR e3
  go_enter Tryz.func41, Tryz.ntmps41
  go_wp2_with fail
  rw [← hW, HR3.out]
  clear hW
  refine (refCross8_any r _ HP0.out.ok HP0.out.env).mono ?_
  rintro e w1 ⟨rfl, hb⟩
  have HP1 : Hid (RfAt w w1 r) := HP0.out.next hb
  clear hb HP0
  obtain ⟨cx, hcx⟩ : ∃ b, b = crossQ r.q := ⟨_, rfl⟩
  rw [← hcx]
  cases cx
  case false =>
    have HV : Hid (needsQ r.q = false) := by show _ = _; rw [HN.out, ← hcx]; rfl
    clear hcx
    go_wp2
    go_ret
    exact ⟨ret_bool HV.out.symm, HP1.out.bel⟩
  have HC : Hid (askI r.q = 0) := by
    show _ = _
    apply Classical.byContradiction
    intro hh
    rw [crossQ, if_neg hh] at hcx
    cases hcx
  have HV : Hid (needsQ r.q = !plainB r.q) := by show _ = _; rw [HN.out, ← hcx, plainQ, if_pos HC.out]; rfl
  clear hcx
  obtain ⟨sf, hsf⟩ : ∃ b, b = Lk.safeL r.m.data.toList := ⟨_, rfl⟩
  have HSF := Lib.hid hsf
  clear hsf
  obtain ⟨r0, r1, r2, r3, r4, r5, r6, r7, r8, r9⟩ := HP1.out.req
  go_wp2_with fail
  refine (refSafe_any r.m _ HK.out.hm).mono ?_
  rintro e w2 ⟨rfl, hb⟩
  rw [← HSF.out]
  have HP2 : Hid (RfAt w w2 r) := HP1.out.next hb
  clear hb r0 r1 r2 r3 r4 r5 r6 r7 r8 r9
  cases sf
  case false =>
    have HA : Hid (needsQ r.q = true) := by show _ = _; rw [HV.out]; unfold plainB; rw [show Lk.safeL r.q.m = false from HSF.out.symm]; rfl
    go_wp2
    go_ret
    exact ⟨ret_bool HA.out.symm, HP2.out.bel⟩
  obtain ⟨r0, r1, r2, r3, r4, r5, r6, r7, r8, r9⟩ := HP2.out.req
  go_wp2_with fail
  refine (refNames8_any r _ HP2.out.ok HP2.out.env).mono ?_
  rintro e w3 ⟨v, rfl, hs, hb⟩
  have HP3 : Hid (RfAt w w3 r) := HP2.out.next hb
  clear hb r0 r1 r2 r3 r4 r5 r6 r7 r8 r9
  obtain ⟨N, nn, cn, rfl, hnn, _⟩ := trow_row hs
  have HPL : Hid (plainB r.q = decide (nn = 0)) := by show _ = _; unfold plainB; rw [show Lk.safeL r.q.m = true from HSF.out.symm, hnn, List.length_map, namesQ, if_pos HC.out]; rfl
  clear hs hnn
  by_cases hz : nn = 0
  case pos =>
    subst hz
    have HA : Hid (needsQ r.q = false) := by show _ = _; rw [HV.out, HPL.out]; rfl
    go_wp2
    go_ret
    exact ⟨ret_bool HA.out.symm, HP3.out.bel⟩
  have HA : Hid (needsQ r.q = true) := by show _ = _; rw [HV.out, HPL.out]; simp [hz]
  have hpos : 0 < nn := by omega
  clear hz
  go_wp2
  go_ret
  exact ⟨ret_bool HA.out.symm, HP3.out.bel⟩

theorem com_take (xs : List ByteArray) (k : Nat) (hk : k ≤ xs.length) : (mk (comL (dat (xs.take k)))).size ≤ (xs.map ByteArray.size).sum + xs.length := by
  have h1 := com_len (dat (xs.take k))
  have h2 := sum_take xs k
  rw [dat_sum, dat_len, List.length_take] at h1
  rw [mk_size]; omega
set_option maxHeartbeats 1000000 in
theorem refCommas_any (A : Option Addr) (len c B : Nat) (xs : List ByteArray) (w : World) (hlen : len = xs.length) (hx : SRow w B A xs) (hsum : (xs.map ByteArray.size).sum + xs.length ≤ 1099511627776) :
    Calls Tryz.prog 50 #[.slice A len c] w fun e w' => e = .returned (.string (mk (comL (dat xs)))) ∧ w = w' := by
  subst hlen
  have HX := Lib.hid hx
  have HSUM := Lib.hid hsum
  have hl : xs.length ≤ 1099511627776 := by omega
  clear hx hsum
  go_enter Tryz.func50, Tryz.ntmps50
  go_wp2
  go_loop [3, 4] (fun s i => ∃ k : Nat, k ≤ xs.length ∧ i = .int .i64 k ∧ s = .string (mk (comL (dat (xs.take k))))) (fun _ i => xs.length - (intOf i).toNat)
  case atStart => exact ⟨0, Nat.zero_le _, rfl, rfl⟩
  case round =>
    obtain ⟨k, hk, rfl, rfl⟩ := hrel
    have hz : (mk (comL (dat (xs.take k)))).size ≤ 1099511627776 := Nat.le_trans (com_take xs k hk) HSUM.out
    by_cases hlt : k < xs.length
    · obtain ⟨ad, hA, _, hc⟩ := HX.out k xs[k] (List.getElem?_eq_getElem hlt)
      have hxz : xs[k].size ≤ 1099511627776 := by have h1 := size_le_sum (List.getElem_mem hlt); have h2 := HSUM.out; omega
      have HTK : Hid (xs.take (k + 1) = xs.take k ++ [xs[k]]) := List.take_succ_eq_append_getElem hlt
      generalize xs[k] = x at *
      subst hA
      by_cases h0 : k = 0
      · have HM : Hid (mk (comL (dat (xs.take k))) ++ x = mk (comL (dat (xs.take (k + 1))))) := by
          show _ = _
          rw [HTK.out]
          subst h0
          simp only [List.take_zero, List.nil_append]
          have e : mk (comL (dat [x])) = x := mk_eq x
          rw [e]
          apply WideShapes.bytes_inj
          simp [mk, comL, dat]
        have hpos : ¬ 0 < k := by omega
        clear h0
        go_wp2
        go_round
        case rel => exact ⟨k + 1, by omega, by go_num, by rw [HM.out]⟩
        case measure => simp [intOf]; omega
      · have HM : Hid (mk (comL (dat (xs.take k))) ++ (⟨#[44]⟩ : ByteArray) ++ x = mk (comL (dat (xs.take (k + 1))))) := by
          show _ = _
          have hne : dat (xs.take k) ≠ [] := by
            intro h
            have := congrArg List.length h
            rw [dat_len, List.length_take] at this
            simp only [List.length_nil] at this; omega
          rw [HTK.out, dat_snoc, com_snoc _ _ hne]
          apply WideShapes.bytes_inj
          rw [mk_data]
          simp [mk]
        have hpos : 0 < k := by omega
        have h2s : (ByteArray.mk #[44]).size = 1 := rfl
        clear h0
        go_wp2
        go_round
        case rel => exact ⟨k + 1, by omega, by go_num, by rw [HM.out]⟩
        case measure => simp [intOf]; omega
    · have HK : Hid (xs.take k = xs) := List.take_of_length_le (by omega)
      go_wp2
      go_ret
      exact ⟨ret_string (by rw [HK.out]), rfl⟩
end Go.Proofs.YtlkneapidmdpbaaGreatDoor

namespace Go.Proofs.YtlkneapidmdpbaaGreatDoor
open Go.RowKit

/-- what holds all through: the request in the first block, nothing in the second, which is the result's; its URL, its origin, and what is made of it, which may be written -/
structure NrAt (w W : World) (r z : Rv) (g4 g6 g7 : Nat) (A B : ByteArray) (n : Int) (C D s h : ByteArray) (k : Int) : Prop where
  bel : Below w.heap.size w W
  env0 : Env8 w
  req : RqAt W w.heap.size r
  res : RqAt W (w.heap.size + 1) Rv.zero
  own : OwnB W (w.heap.size + 1)
  u : UrlAt W g4 A B n C D
  o : OrgAt W g6 s h k
  z : RqAt W g7 z
  ownz : OwnB W g7
  n4 : g4 ≠ g7
  n6 : g6 ≠ g7
  lt7 : w.heap.size + 1 < g7
theorem NrAt.env {w W : World} {r z : Rv} {g4 g6 g7 : Nat} {A B : ByteArray} {n : Int} {C D s h : ByteArray} {k : Int} (H : NrAt w W r z g4 g6 g7 A B n C D s h k) : Env8 W := H.env0.below H.bel
theorem NrAt.next {w W W' : World} {r z : Rv} {g4 g6 g7 : Nat} {A B : ByteArray} {n : Int} {C D s h : ByteArray} {k : Int} (H : NrAt w W r z g4 g6 g7 A B n C D s h k) (hb : Below W.heap.size W W') : NrAt w W' r z g4 g6 g7 A B n C D s h k :=
  ⟨H.bel.trans (hb.mono H.bel.size), H.env0, H.req.below hb H.req.lt, H.res.below hb H.res.lt, H.own.below hb H.res.lt, H.u.below hb H.u.lt, H.o.below hb H.o.lt, H.z.below hb H.z.lt, H.ownz.below hb H.z.lt, H.n4, H.n6, H.lt7⟩
theorem NrAt.set0 {w W : World} {r z : Rv} {g4 g6 g7 : Nat} {A B : ByteArray} {n : Int} {C D s h : ByteArray} {k : Int} (H : NrAt w W r z g4 g6 g7 A B n C D s h k) (x : ByteArray) : NrAt w (W.setCell ⟨g7, 0, none⟩ (.string x)) r { z with m := x } g4 g6 g7 A B n C D s h k :=
  ⟨H.bel.setCell (show w.heap.size ≤ g7 by have := H.lt7; omega) _, H.env0, H.req.other (by have := H.lt7; omega), H.res.other (by have := H.lt7; omega), H.own.set _ _, H.u.other H.n4, H.o.other H.n6, H.z.set0 x, H.ownz.set _ _, H.n4, H.n6, H.lt7⟩
theorem NrAt.set1 {w W : World} {r z : Rv} {g4 g6 g7 : Nat} {A B : ByteArray} {n : Int} {C D s h : ByteArray} {k : Int} (H : NrAt w W r z g4 g6 g7 A B n C D s h k) (x : ByteArray) : NrAt w (W.setCell ⟨g7, 1, none⟩ (.string x)) r { z with u := x } g4 g6 g7 A B n C D s h k :=
  ⟨H.bel.setCell (show w.heap.size ≤ g7 by have := H.lt7; omega) _, H.env0, H.req.other (by have := H.lt7; omega), H.res.other (by have := H.lt7; omega), H.own.set _ _, H.u.other H.n4, H.o.other H.n6, H.z.set1 x, H.ownz.set _ _, H.n4, H.n6, H.lt7⟩
theorem NrAt.set2 {w W : World} {r z : Rv} {g4 g6 g7 : Nat} {A B : ByteArray} {n : Int} {C D s h : ByteArray} {k : Int} (H : NrAt w W r z g4 g6 g7 A B n C D s h k) (x : ByteArray) : NrAt w (W.setCell ⟨g7, 2, none⟩ (.string x)) r { z with o := x } g4 g6 g7 A B n C D s h k :=
  ⟨H.bel.setCell (show w.heap.size ≤ g7 by have := H.lt7; omega) _, H.env0, H.req.other (by have := H.lt7; omega), H.res.other (by have := H.lt7; omega), H.own.set _ _, H.u.other H.n4, H.o.other H.n6, H.z.set2 x, H.ownz.set _ _, H.n4, H.n6, H.lt7⟩
theorem NrAt.set5 {w W : World} {r z : Rv} {g4 g6 g7 : Nat} {A B : ByteArray} {n : Int} {C D s h : ByteArray} {k : Int} (H : NrAt w W r z g4 g6 g7 A B n C D s h k) (N : Option Addr) (nn cn : Nat) (xs : List (ByteArray × ByteArray)) : NrAt w (W.setCell ⟨g7, 5, none⟩ (.slice N nn cn)) r { z with A := N, n := nn, c := cn, xs := xs } g4 g6 g7 A B n C D s h k :=
  ⟨H.bel.setCell (show w.heap.size ≤ g7 by have := H.lt7; omega) _, H.env0, H.req.other (by have := H.lt7; omega), H.res.other (by have := H.lt7; omega), H.own.set _ _, H.u.other H.n4, H.o.other H.n6, H.z.set5 N nn cn xs, H.ownz.set _ _, H.n4, H.n6, H.lt7⟩

set_option maxRecDepth 100000 in
set_option maxHeartbeats 8000000 in
theorem refNorm8_any (r : Rv) (w : World) (hr : RqOk w r) (he : Env8 w) :
    Calls Tryz.prog 42 #[r.v] w fun e w' => ∃ z : Rv, e = .returned z.v ∧ z.q = normQ r.q ∧ RqOk w' z ∧ Below w.heap.size w w' := by
  unfold Rv.v
  obtain ⟨A, B, n, C, D, k0, hv, htl, hok, b1, b2, b3⟩ := tgt_view r.u.data.toList
  have HV := Lib.hid hv
  have HTC : Hid ((tgtL r.q.u).2 = k0) := by show (tgtL r.u.data.toList).2 = _; rw [htl]
  have HTU : Hid ((tgtL r.q.u).1 = urlOf A B n C D) := by show (tgtL r.u.data.toList).1 = _; rw [htl]
  clear hv htl hok
  obtain ⟨W, hW⟩ : ∃ W, W = (w.alloc (Obj.cells #[.string r.m, .string r.u, .string r.o, .int .i64 r.mode, .bool r.cr, .slice r.A r.n r.c, .int .i64 r.cl, .int .u64 r.tm, .int .i64 r.gr, .int .i64 r.sg] 25)).alloc (Obj.cells #[.string ⟨#[]⟩, .string ⟨#[]⟩, .string ⟨#[]⟩, .int .i64 0, .bool false, .slice none 0 0, .int .i64 0, .int .u64 0, .int .i64 0, .int .i64 0] 25) := ⟨_, rfl⟩
  have HP0 : Hid (NmAt w W r) := by rw [hW]; exact NmAt.new he _ _
  have HK := Lib.hid hr
  clear hr he
  go_enter Tryz.func42, Tryz.ntmps42
  go_wp2_with fail
  rw [← hW]
  clear hW
  refine (refCheck8_any r _ (HK.out.below HP0.out.bel) HP0.out.env).mono ?_
  rintro e w1 ⟨rfl, hb⟩
  have HP1 : Hid (NmAt w w1 r) := HP0.out.next hb
  clear hb HP0
  obtain ⟨ac, hac⟩ : ∃ c, c = askI r.q := ⟨_, rfl⟩
  rw [← hac]
  by_cases h0 : ac = 0
  case neg =>
    have HA : Hid (normQ r.q = Rq.zero) := norm_zero (by rw [← hac]; exact h0)
    clear hac
    obtain ⟨c0, c1, c2, c3, c4, c5, c6, c7, c8, c9⟩ := HP1.out.res
    have ff := HP1.out.own
    unfold OwnB at ff
    go_wp2
    obtain ⟨q0, q1, q2, q3, q4, q5, q6, q7, q8, q9⟩ := HP1.out.res.put_at Rv.zero
    dsimp only [RqAt.put, Rv.zero] at q0 q1 q2 q3 q4 q5 q6 q7 q8 q9
    refine bodyPost_ret (v := .agg #[.string ⟨#[]⟩, .string ⟨#[]⟩, .string ⟨#[]⟩, .int .i64 0, .bool false, .slice none 0 0, .int .i64 0, .int .u64 0, .int .i64 0, .int .i64 0]) (by simp [results, Tryz.results42, go_sem, q0, q1, q2, q3, q4, q5, q6, q7, q8, q9]) rfl ?_
    exact ⟨Rv.zero, rfl, by rw [HA.out]; rfl, RqOk.zero _, RqAt.put_below HP1.out.bel (Nat.le_succ _) Rv.zero⟩
  have HC : Hid (askI r.q = 0) := by show _ = _; rw [← hac, h0]
  subst h0
  clear hac
  have HNQ := Lib.hid (norm_is HC.out)
  obtain ⟨r0, r1, r2, r3, r4, r5, r6, r7, r8, r9⟩ := HP1.out.req
  go_wp2_with fail
  refine (refTParse_any r.u _ HK.out.hu HP1.out.env.e).mono ?_
  rintro e w2 ⟨rfl, hb⟩
  rw [HV.out]
  have HP2 : Hid (NmAt w w2 r) := HP1.out.next hb
  clear hb HV HP1 r0 r1 r2 r3 r4 r5 r6 r7 r8 r9
  have HA3 := Lib.hid ((Below.refl w2.heap.size w2).alloc (Nat.le_refl _) (Obj.cells #[.string A, .string B, .int .i64 n, .string C, .string D] 84))
  have HP3 := Lib.hid (HP2.out.next HA3.out)
  have HU3 := Lib.hid (UrlAt.new w2 A B n C D 84)
  obtain ⟨s, h, k, c, hv, hor, hoc, b4⟩ := org_view r.o.data.toList
  have HV := Lib.hid hv
  have HOO := Lib.hid hor
  have HOC := Lib.hid hoc
  clear hv hor hoc
  obtain ⟨r0, r1, r2, r3, r4, r5, r6, r7, r8, r9⟩ := HP3.out.req
  go_wp2_with fail
  refine (refParse_any r.o _ HK.out.ho).mono ?_
  rintro e w4 ⟨rfl, hb⟩
  rw [HV.out]
  obtain ⟨g4, hg4⟩ : ∃ g, g = w2.heap.size := ⟨_, rfl⟩
  have HP4 : Hid (NmAt w w4 r) := HP3.out.next hb
  have HU4 : Hid (UrlAt w4 g4 A B n C D) := by rw [hg4]; exact HU3.out.below hb HU3.out.lt
  rw [← hg4]
  clear hb hg4 HP2 HP3 HU3 HA3 HV r0 r1 r2 r3 r4 r5 r6 r7 r8 r9
  have HA5 := Lib.hid ((Below.refl w4.heap.size w4).alloc (Nat.le_refl _) (Obj.cells #[.string s, .string h, .int .i64 k] 82))
  have HP5 := Lib.hid (HP4.out.next HA5.out)
  have HU5 := Lib.hid (HU4.out.below HA5.out HU4.out.lt)
  have HO5 := Lib.hid (OrgAt.new w4 s h k 82)
  have HA6 := Lib.hid ((Below.refl (w4.alloc (Obj.cells #[.string s, .string h, .int .i64 k] 82)).heap.size (w4.alloc (Obj.cells #[.string s, .string h, .int .i64 k] 82))).alloc (Nat.le_refl _) (Obj.cells #[.string r.m, .string r.u, .string r.o, .int .i64 r.mode, .bool r.cr, .slice r.A r.n r.c, .int .i64 r.cl, .int .u64 r.tm, .int .i64 r.gr, .int .i64 r.sg] 25))
  have HP6 := Lib.hid (HP5.out.next HA6.out)
  have HU6 := Lib.hid (HU5.out.below HA6.out HU5.out.lt)
  have HO6 := Lib.hid (HO5.out.below HA6.out HO5.out.lt)
  have HZ6 := Lib.hid (RqAt.new (w4.alloc (Obj.cells #[.string s, .string h, .int .i64 k] 82)) r 25)
  have HW6 := Lib.hid (OwnB.new (w4.alloc (Obj.cells #[.string s, .string h, .int .i64 k] 82)) #[.string r.m, .string r.u, .string r.o, .int .i64 r.mode, .bool r.cr, .slice r.A r.n r.c, .int .i64 r.cl, .int .u64 r.tm, .int .i64 r.gr, .int .i64 r.sg] 25)
  have he1 : (w4.alloc (Obj.cells #[.string s, .string h, .int .i64 k] 82)).heap.size = w4.heap.size + 1 := by simp
  rw [he1] at HZ6 HW6
  have hlt4 : g4 < w4.heap.size := HU4.out.lt
  have hltz : w.heap.size + 1 < w4.heap.size := HP4.out.res.lt
  obtain ⟨so, hso⟩ : ∃ t, t = mk (showL s.data.toList h.data.toList k) := ⟨_, rfl⟩
  have HSO := Lib.hid hso
  have hsoz : so.size ≤ maxLen := by rw [hso, mk_size]; have := show_len (sc := s.data.toList) (h := h.data.toList) (p := k); unfold maxLen; omega
  obtain ⟨su, hsu⟩ : ∃ t, t = mk (urlOf A B n C D).show_ := ⟨_, rfl⟩
  have HSU := Lib.hid hsu
  have hsuz : su.size ≤ maxLen := by rw [hsu, mk_size]; have := ushow_len (urlOf A B n C D); unfold maxLen; omega
  obtain ⟨sm, hsm⟩ : ∃ t, t = mk (Lk.normL r.m.data.toList) := ⟨_, rfl⟩
  have HSM := Lib.hid hsm
  have hsmz : sm.size ≤ maxLen := by rw [hsm, mk_size, Lk.norm_len]; have := HK.out.hm; simpa using this
  have HZ : Hid (so.size ≤ maxLen ∧ su.size ≤ maxLen ∧ sm.size ≤ maxLen) := ⟨hsoz, hsuz, hsmz⟩
  have HBS : Hid (B.size ≤ maxLen ∧ C.size ≤ 100000 ∧ D.size ≤ 100000 ∧ h.size ≤ maxLen) := ⟨by unfold maxLen; omega, by omega, by omega, by unfold maxLen; omega⟩
  clear hso hsu hsm hsoz hsuz hsmz b1 b2 b3 b4
  obtain ⟨r0, r1, r2, r3, r4, r5, r6, r7, r8, r9⟩ := HP5.out.req
  obtain ⟨t0, t1, t2, t3, t4, t5, t6, t7, t8, t9⟩ := HP6.out.req
  go_wp2_with fail
  refine (refMNorm_any r.m _ HK.out.hm).mono ?_
  rintro e w7 ⟨rfl, hb⟩
  rw [← HSM.out]
  have HN7 : Hid (NrAt w w7 r r g4 w4.heap.size (w4.heap.size + 1) A B n C D s h k) :=
    NrAt.next ⟨HP6.out.bel, HP6.out.env0, HP6.out.req, HP6.out.res, HP6.out.own, HU6.out, HO6.out, HZ6.out, HW6.out, by omega, by omega, by omega⟩ hb
  obtain ⟨g6, hg6⟩ : ∃ g, g = w4.heap.size := ⟨_, rfl⟩
  rw [← hg6] at HN7 ⊢
  clear hb hg6 hltz hlt4 he1 HW6 HZ6 HO6 HU6 HP6 HA6 HO5 HU5 HP5 HA5 HP4 HU4 r0 r1 r2 r3 r4 r5 r6 r7 r8 r9 t0 t1 t2 t3 t4 t5 t6 t7 t8 t9
  obtain ⟨a1, ha1⟩ : ∃ a, a = { r with m := sm } := ⟨_, rfl⟩
  have HN8 : Hid (NrAt w (w7.setCell ⟨g6 + 1, 0, none⟩ (.string sm)) r a1 g4 g6 (g6 + 1) A B n C D s h k) := by rw [ha1]; exact HN7.out.set0 sm
  have HA1 := Lib.hid ha1
  clear ha1
  have s0 := HN7.out.z.c0
  have ff := HN7.out.ownz
  unfold OwnB at ff
  obtain ⟨u0, u1, u2, u3, u4⟩ := HN8.out.u
  go_wp2_with fail
  refine (refTShow_any A B n C D _ HBS.out.1 HBS.out.2.1 HBS.out.2.2.1).mono ?_
  rintro e w9 ⟨rfl, hb⟩
  rw [← HSU.out]
  have HN9 : Hid (NrAt w w9 r a1 g4 g6 (g6 + 1) A B n C D s h k) := HN8.out.next hb
  clear hb ff s0 u0 u1 u2 u3 u4 HN7 HN8
  obtain ⟨a2, ha2⟩ : ∃ a, a = { a1 with u := su } := ⟨_, rfl⟩
  have HN10 : Hid (NrAt w (w9.setCell ⟨g6 + 1, 1, none⟩ (.string su)) r a2 g4 g6 (g6 + 1) A B n C D s h k) := by rw [ha2]; exact HN9.out.set1 su
  have HA2 := Lib.hid ha2
  clear ha2
  have s0 := HN9.out.z.c1
  have ff := HN9.out.ownz
  unfold OwnB at ff
  obtain ⟨o0, o1, o2⟩ := HN10.out.o
  go_wp2_with fail
  refine (refShow_any s h k _ HBS.out.2.2.2).mono ?_
  rintro e w11 ⟨rfl, hb⟩
  rw [← HSO.out]
  have HN11 : Hid (NrAt w w11 r a2 g4 g6 (g6 + 1) A B n C D s h k) := HN10.out.next hb
  clear hb ff s0 o0 o1 o2 HN9 HN10
  obtain ⟨a3, ha3⟩ : ∃ a, a = { a2 with o := so } := ⟨_, rfl⟩
  have HN12 : Hid (NrAt w (w11.setCell ⟨g6 + 1, 2, none⟩ (.string so)) r a3 g4 g6 (g6 + 1) A B n C D s h k) := by rw [ha3]; exact HN11.out.set2 so
  have HA3 : Hid (a3 = { r with m := sm, u := su, o := so }) := by rw [ha3, HA2.out, HA1.out]; rfl
  clear ha3
  have s0 := HN11.out.z.c2
  have ff := HN11.out.ownz
  unfold OwnB at ff
  have hok := HK.out.below HN12.out.bel
  have HKR := Lib.hid hok.row
  have s5 := HN12.out.req.c5
  clear hok
  go_wp2_with fail
  refine (refHNorm_any r.A r.n r.c _ r.xs _ HK.out.len (Nat.le_refl _) HKR.out HK.out.sm).mono ?_
  rintro e w13 ⟨v, rfl, hrow, hb⟩
  have HN13 : Hid (NrAt w w13 r a3 g4 g6 (g6 + 1) A B n C D s h k) := HN12.out.next hb
  have hsz : g6 + 1 < (w11.setCell ⟨g6 + 1, 2, none⟩ (.string so)).heap.size := HN12.out.z.lt
  have HROW := Lib.hid hrow
  obtain ⟨N, nn, cn, ys, rfl, hnn, hys, _, _⟩ := hrow.row
  have HNN := Lib.hid hnn
  have HYS := Lib.hid hys
  clear hb ff s0 s5 HN12 hrow hnn hys
  obtain ⟨a4, ha4⟩ : ∃ a, a = { a3 with A := N, n := nn, c := cn, xs := ys } := ⟨_, rfl⟩
  have HNA : Hid (NrAt w (w13.setCell ⟨g6 + 1, 5, none⟩ (.slice N nn cn)) r a4 g4 g6 (g6 + 1) A B n C D s h k) := by rw [ha4]; exact HN13.out.set5 N nn cn ys
  have HA4 : Hid (a4 = { r with m := sm, u := su, o := so, A := N, n := nn, c := cn, xs := ys }) := by rw [ha4, HA3.out]; rfl
  have HRA : Hid (HdRow (w13.setCell ⟨g6 + 1, 5, none⟩ (.slice N nn cn)) (w11.setCell ⟨g6 + 1, 2, none⟩ (.string so)).heap.size (.slice N nn cn) (normL (r.xs.map hd))) := own_set HROW.out (by omega)
  have HX4 : Hid (a4.A = N ∧ a4.n = nn ∧ a4.c = cn) := by rw [HA4.out]; exact ⟨rfl, rfl, rfl⟩
  clear ha4
  have s9 := HN13.out.z.c5
  have f9 := HN13.out.ownz
  unfold OwnB at f9
  obtain ⟨r0, r1, r2, r3, r4, r5, r6, r7, r8, r9⟩ := HNA.out.z
  rw [HX4.out.1, HX4.out.2.1, HX4.out.2.2] at r5
  obtain ⟨c0, c1, c2, c3, c4, c5, c6, c7, c8, c9⟩ := HNA.out.res
  have ff := HNA.out.own
  unfold OwnB at ff
  go_wp2
  obtain ⟨q0, q1, q2, q3, q4, q5, q6, q7, q8, q9⟩ := HNA.out.res.put_at a4
  dsimp only [RqAt.put] at q0 q1 q2 q3 q4 q5 q6 q7 q8 q9
  rw [HX4.out.1, HX4.out.2.1, HX4.out.2.2] at q0 q1 q2 q3 q4 q5 q6 q7 q8 q9
  refine bodyPost_ret (v := .agg #[.string a4.m, .string a4.u, .string a4.o, .int .i64 a4.mode, .bool a4.cr, .slice N nn cn, .int .i64 a4.cl, .int .u64 a4.tm, .int .i64 a4.gr, .int .i64 a4.sg]) (by simp [results, Tryz.results42, go_sem, q0, q1, q2, q3, q4, q5, q6, q7, q8, q9]) rfl ?_
  have hl7 := HNA.out.lt7
  have e4 := HA4.out
  subst e4
  have e1 : sm.data.toList = Lk.normL r.m.data.toList := by rw [HSM.out, mk_data]
  have e2 : su.data.toList = (tgtL r.q.u).1.show_ := by rw [HSU.out, mk_data, HTU.out]
  have e3 : so.data.toList = showL (orgO r.q.o).1 (orgO r.q.o).2.1 (orgO r.q.o).2.2 := by rw [HSO.out, mk_data, ← show _ = orgO r.q.o from HOO.out]
  have h5 := own_rq (g := w.heap.size + 1) HRA.out (by omega) { r with m := sm, u := su, o := so, A := N, n := nn, c := cn, xs := ys }
  obtain ⟨A', n', c', ys', e', hn', hy', _, hp'⟩ := HdRow.row h5
  injection e' with eA en ec
  have ey : ys' = ys := row_alike (hy'.trans HYS.out.symm)
  subst eA en ec ey
  refine ⟨{ r with m := sm, u := su, o := so, A := N, n := nn, c := cn, xs := ys' }, rfl, ?_, ⟨hp', HNN.out, ?_, HZ.out.2.2, HZ.out.2.1, HZ.out.1⟩, RqAt.put_below HNA.out.bel (Nat.le_succ _) { r with m := sm, u := su, o := so, A := N, n := nn, c := cn, xs := ys' }⟩
  · rw [HNQ.out]
    show (⟨sm.data.toList, su.data.toList, so.data.toList, r.mode, r.cr, ys'.map hd, r.cl, r.tm, r.gr, r.sg⟩ : Rq) = _
    rw [e1, e2, e3, HYS.out]
    rfl
  · show Sm (ys'.map hd)
    rw [HYS.out]
    exact sm_norm HK.out.sm

theorem want_o {q : Rq} (h : askI q = 0) : (wantQ q).o = (normQ q).o ∧ (wantQ q).u = (normQ q).u ∧ (wantQ q).cr = q.cr ∧ (wantQ q).m = Lk.normL q.m ∧ (wantQ q).n = comL (namesQ q) := by
  unfold wantQ namesQ; rw [if_pos h, if_pos h, norm_is h]; exact ⟨rfl, rfl, rfl, rfl, rfl⟩
theorem want_no {q : Rq} (h : ¬ askI q = 0) : wantQ q = ⟨[], [], false, [], []⟩ := by unfold wantQ; rw [if_neg h]
/-- what holds all through: the request in the first block, nothing in the second, which is the result's (a cell) -/
structure RcAt (w W : World) (r : Rv) : Prop where
  bel : Below w.heap.size w W
  env0 : Env8 w
  ok0 : RqOk w r
  req : RqAt W w.heap.size r
  e0 : W.cell? ⟨w.heap.size + 1, 0, none⟩ = some (.string ⟨#[]⟩)
  e1 : W.cell? ⟨w.heap.size + 1, 1, none⟩ = some (.string ⟨#[]⟩)
  e2 : W.cell? ⟨w.heap.size + 1, 2, none⟩ = some (.bool false)
  own : OwnB W (w.heap.size + 1)
  lt : w.heap.size + 1 < W.heap.size
theorem RcAt.env {w W : World} {r : Rv} (h : RcAt w W r) : Env8 W := h.env0.below h.bel
theorem RcAt.ok {w W : World} {r : Rv} (h : RcAt w W r) : RqOk W r := h.ok0.below h.bel
theorem RcAt.next {w W W' : World} {r : Rv} (h : RcAt w W r) (hb : Below W.heap.size W W') : RcAt w W' r :=
  ⟨h.bel.trans (hb.mono h.bel.size), h.env0, h.ok0, h.req.below hb h.req.lt, (hb.cell (p := ⟨w.heap.size + 1, 0, none⟩) h.lt).trans h.e0, (hb.cell (p := ⟨w.heap.size + 1, 1, none⟩) h.lt).trans h.e1, (hb.cell (p := ⟨w.heap.size + 1, 2, none⟩) h.lt).trans h.e2, h.own.below hb h.lt, Nat.lt_of_lt_of_le h.lt hb.size⟩
theorem RcAt.new {w : World} {r : Rv} (he : Env8 w) (hr : RqOk w r) (t t' : TypeId) : RcAt w ((w.alloc (.cells #[.string r.m, .string r.u, .string r.o, .int .i64 r.mode, .bool r.cr, .slice r.A r.n r.c, .int .i64 r.cl, .int .u64 r.tm, .int .i64 r.gr, .int .i64 r.sg] t)).alloc (.cells #[.string ⟨#[]⟩, .string ⟨#[]⟩, .bool false] t')) r := by
  have e : (w.alloc (.cells #[.string r.m, .string r.u, .string r.o, .int .i64 r.mode, .bool r.cr, .slice r.A r.n r.c, .int .i64 r.cl, .int .u64 r.tm, .int .i64 r.gr, .int .i64 r.sg] t)).heap.size = w.heap.size + 1 := by simp
  have h3 := OwnB.new (w.alloc (.cells #[.string r.m, .string r.u, .string r.o, .int .i64 r.mode, .bool r.cr, .slice r.A r.n r.c, .int .i64 r.cl, .int .u64 r.tm, .int .i64 r.gr, .int .i64 r.sg] t)) #[.string ⟨#[]⟩, .string ⟨#[]⟩, .bool false] t'
  rw [e] at h3
  refine ⟨((Below.refl _ _).alloc (Nat.le_refl _) _).alloc (by rw [e]; omega) _, he, hr, (RqAt.new w r t).below ((Below.refl _ _).alloc (Nat.le_refl _) _) (RqAt.new w r t).lt, ?_, ?_, ?_, h3, by simp⟩
  · rw [← e]; simp
  · rw [← e]; simp
  · rw [← e]; simp
theorem RcAt.ret {w W : World} {r : Rv} (h : RcAt w W r) (zo zu : ByteArray) (zc : Bool) :
    (((W.setCell ⟨w.heap.size + 1, 0, none⟩ (.string zo)).setCell ⟨w.heap.size + 1, 1, none⟩ (.string zu)).setCell ⟨w.heap.size + 1, 2, none⟩ (.bool zc)).cell? ⟨w.heap.size + 1, 0, none⟩ = some (.string zo) ∧
    (((W.setCell ⟨w.heap.size + 1, 0, none⟩ (.string zo)).setCell ⟨w.heap.size + 1, 1, none⟩ (.string zu)).setCell ⟨w.heap.size + 1, 2, none⟩ (.bool zc)).cell? ⟨w.heap.size + 1, 1, none⟩ = some (.string zu) ∧
    (((W.setCell ⟨w.heap.size + 1, 0, none⟩ (.string zo)).setCell ⟨w.heap.size + 1, 1, none⟩ (.string zu)).setCell ⟨w.heap.size + 1, 2, none⟩ (.bool zc)).cell? ⟨w.heap.size + 1, 2, none⟩ = some (.bool zc) :=
  ⟨cell_keep (j := 2) (v := .bool zc) (cell_keep (j := 1) (v := .string zu) (World.cell?_setCell_same W ⟨w.heap.size + 1, 0, none⟩ (.string zo) h.e0) (by decide)) (by decide),
   cell_keep (j := 2) (v := .bool zc) (World.cell?_setCell_same (W.setCell ⟨w.heap.size + 1, 0, none⟩ (.string zo)) ⟨w.heap.size + 1, 1, none⟩ (.string zu) (cell_keep h.e1 (by decide))) (by decide),
   World.cell?_setCell_same ((W.setCell ⟨w.heap.size + 1, 0, none⟩ (.string zo)).setCell ⟨w.heap.size + 1, 1, none⟩ (.string zu)) ⟨w.heap.size + 1, 2, none⟩ (.bool zc) (cell_keep (cell_keep h.e2 (by decide)) (by decide))⟩

set_option maxRecDepth 100000 in
set_option maxHeartbeats 4000000 in
theorem refCell8_any (r : Rv) (w : World) (hr : RqOk w r) (he : Env8 w) :
    Calls Tryz.prog 53 #[r.v] w fun e w' => e = .returned (.agg #[.string (mk (wantQ r.q).o), .string (mk (wantQ r.q).u), .bool (wantQ r.q).cr]) ∧ Below w.heap.size w w' := by
  unfold Rv.v
  obtain ⟨W, hW⟩ : ∃ W, W = (w.alloc (Obj.cells #[.string r.m, .string r.u, .string r.o, .int .i64 r.mode, .bool r.cr, .slice r.A r.n r.c, .int .i64 r.cl, .int .u64 r.tm, .int .i64 r.gr, .int .i64 r.sg] 25)).alloc (Obj.cells #[.string ⟨#[]⟩, .string ⟨#[]⟩, .bool false] 45) := ⟨_, rfl⟩
  have HP0 : Hid (RcAt w W r) := by rw [hW]; exact RcAt.new he hr _ _
  clear hr he
  go_enter Tryz.func53, Tryz.ntmps53
  go_wp2_with fail
  rw [← hW]
  clear hW
  refine (refCheck8_any r _ HP0.out.ok HP0.out.env).mono ?_
  rintro e w1 ⟨rfl, hb⟩
  have HP1 : Hid (RcAt w w1 r) := HP0.out.next hb
  clear hb HP0
  obtain ⟨ac, hac⟩ : ∃ c, c = askI r.q := ⟨_, rfl⟩
  rw [← hac]
  by_cases h0 : ac = 0
  case neg =>
    have HA := Lib.hid (want_no (by rw [← hac]; exact h0 : ¬ askI r.q = 0))
    clear hac
    have e0 := HP1.out.e0
    have e1 := HP1.out.e1
    have e2 := HP1.out.e2
    have ff := HP1.out.own
    unfold OwnB at ff
    go_wp2
    obtain ⟨q0, q1, q2⟩ := HP1.out.ret ⟨#[]⟩ ⟨#[]⟩ false
    refine bodyPost_ret (v := .agg #[.string ⟨#[]⟩, .string ⟨#[]⟩, .bool false]) (by simp [results, Tryz.results53, go_sem, q0, q1, q2]) rfl ?_
    exact ⟨by rw [HA.out]; rfl, ((HP1.out.bel.setCell (Nat.le_succ _) _).setCell (Nat.le_succ _) _).setCell (Nat.le_succ _) _⟩
  have HC : Hid (askI r.q = 0) := by show _ = _; rw [← hac, h0]
  subst h0
  clear hac
  have HWO := Lib.hid (want_o HC.out)
  obtain ⟨r0, r1, r2, r3, r4, r5, r6, r7, r8, r9⟩ := HP1.out.req
  go_wp2_with fail
  refine (refNorm8_any r _ HP1.out.ok HP1.out.env).mono ?_
  rintro e w2 ⟨z, rfl, hzq, _, hb⟩
  have HP2 : Hid (RcAt w w2 r) := HP1.out.next hb
  have HEO : Hid (z.o = mk (wantQ r.q).o) := by show _ = _; rw [HWO.out.1, ← hzq]; exact (mk_eq z.o).symm
  have HEU : Hid (z.u = mk (wantQ r.q).u) := by show _ = _; rw [HWO.out.2.1, ← hzq]; exact (mk_eq z.u).symm
  clear hb hzq r0 r1 r2 r3 r4 r5 r6 r7 r8 r9
  simp only [Rv.v]
  have HA := Lib.hid ((Below.refl w2.heap.size w2).alloc (Nat.le_refl _) (Obj.cells #[.string z.m, .string z.u, .string z.o, .int .i64 z.mode, .bool z.cr, .slice z.A z.n z.c, .int .i64 z.cl, .int .u64 z.tm, .int .i64 z.gr, .int .i64 z.sg] 25))
  have HP3 := Lib.hid (HP2.out.next HA.out)
  obtain ⟨t0, t1, t2, t3, t4, t5, t6, t7, t8, t9⟩ := RqAt.new w2 z 25
  obtain ⟨r0, r1, r2, r3, r4, r5, r6, r7, r8, r9⟩ := HP3.out.req
  have e0 := HP3.out.e0
  have e1 := HP3.out.e1
  have e2 := HP3.out.e2
  have ff := HP3.out.own
  unfold OwnB at ff
  go_wp2
  obtain ⟨q0, q1, q2⟩ := HP3.out.ret z.o z.u r.cr
  refine bodyPost_ret (v := .agg #[.string z.o, .string z.u, .bool r.cr]) (by simp [results, Tryz.results53, go_sem, q0, q1, q2]) rfl ?_
  exact ⟨by rw [HEO.out, HEU.out, HWO.out.2.2.1]; rfl, ((HP3.out.bel.setCell (Nat.le_succ _) _).setCell (Nat.le_succ _) _).setCell (Nat.le_succ _) _⟩
end Go.Proofs.YtlkneapidmdpbaaGreatDoor

namespace Go.Proofs.YtlkneapidmdpbaaGreatDoor
open Go.RowKit

theorem com_sum {l : List (List UInt8)} (h : (∀ x ∈ l, x.length ≤ 100000) ∧ l.length ≤ 1000) : ((l.map mk).map ByteArray.size).sum + (l.map mk).length ≤ 1099511627776 := by
  have e : (l.map mk).map ByteArray.size = l.map List.length := by rw [List.map_map]; exact List.map_congr_left fun x _ => mk_size x
  have h2 := sum_le8 h.1
  have h3 : 100000 * l.length ≤ 100000 * 1000 := Nat.mul_le_mul_left _ h.2
  have := h.2
  rw [e, List.length_map]; omega
theorem refCommas_own (N : Option Addr) (nn cn : Nat) (l : List (List UInt8)) (w : World) (t : ByteArray) (hn : nn = (l.map mk).length) (hx : SRow w w.heap.size N (l.map mk)) (hl : (∀ x ∈ l, x.length ≤ 100000) ∧ l.length ≤ 1000) (ht : t = mk (comL l)) :
    Calls Tryz.prog 50 #[.slice N nn cn] w fun e w' => e = .returned (.string t) ∧ Below w.heap.size w w' := by
  refine (refCommas_any N nn cn w.heap.size (l.map mk) w hn hx (com_sum hl)).mono ?_
  rintro e w' ⟨rfl, rfl⟩
  exact ⟨ret_string (by rw [dat_mk8, ht]), Below.refl _ _⟩

end Go.Proofs.YtlkneapidmdpbaaGreatDoor
