/-
  Contracts of the document's own answer of layer 8 over this seat's program: Check, Cross, Names, Needs, Key, Commas. Conditions: the request's headers lie where it says and are not too many; the library's variables and the tables of methods are as they are laid.
-/
import Derived.Test.YticedcnmajcgbaaGreatDoorAWant
import Derived.Test.YticedcnmajcgbaaGreatDoorLRef4
import Derived.Test.YticedcnmajcgbaaGreatDoorLRef5
namespace Go.Proofs.YticedcnmajcgbaaGreatDoor
open Go.RowKit

/-- what holds all through: the request in the first block -/
structure RfAt (w W : World) (r : Rv) : Prop where
  bel : Below w.heap.size w W
  env0 : Env8 w
  ok0 : RqOk w r
  req : RqAt W w.heap.size r
theorem RfAt.env {w W : World} {r : Rv} (h : RfAt w W r) : Env8 W := h.env0.below h.bel
theorem RfAt.ok {w W : World} {r : Rv} (h : RfAt w W r) : RqOk W r := h.ok0.below h.bel
theorem RfAt.next {w W W' : World} {r : Rv} (h : RfAt w W r) (hb : Below W.heap.size W W') : RfAt w W' r :=
  ⟨h.bel.trans (hb.mono h.bel.size), h.env0, h.ok0, h.req.below hb h.req.lt⟩
theorem RfAt.alloc {w W : World} {r : Rv} (h : RfAt w W r) (o : Obj) : RfAt w (W.alloc o) r := h.next ((Below.refl _ _).alloc (Nat.le_refl _) o)
theorem RfAt.new {w : World} {r : Rv} (he : Env8 w) (hr : RqOk w r) (t : TypeId) : RfAt w (w.alloc (.cells #[.string r.m, .string r.u, .string r.o, .int .i64 r.mode, .bool r.cr, .slice r.A r.n r.c, .int .i64 r.cl, .int .u64 r.tm, .int .i64 r.gr, .int .i64 r.sg] t)) r :=
  ⟨(Below.refl _ _).alloc (Nat.le_refl _) _, he, hr, RqAt.new w r t⟩
theorem mode_low {k : Int} (h : k < 1) : modeOk k = false := by
  unfold modeOk; simp; omega
theorem mode_high {k : Int} (h : 3 < k) : modeOk k = false := by
  unfold modeOk; simp; omega
theorem mode_in {k : Int} (h1 : ¬ k < 1) (h2 : ¬ 3 < k) : modeOk k = true := by
  unfold modeOk; simp; omega

set_option maxRecDepth 100000 in
set_option maxHeartbeats 8000000 in
theorem refCheck8_any (r : Rv) (w : World) (hr : RqOk w r) (he : Env8 w) :
    Calls Tryz.prog 11 #[r.v] w fun e w' => e = .returned (.int .i64 (askI r.q)) ∧ Below w.heap.size w w' := by
  unfold Rv.v
  obtain ⟨A, B, n, C, D, k0, hv, htl, hok, b1, b2, b3⟩ := tgt_view r.u.data.toList
  have HV := Lib.hid hv
  have HTC : Hid ((tgtL r.q.u).2 = k0) := by show (tgtL r.u.data.toList).2 = _; rw [htl]
  have HTU : Hid ((tgtL r.q.u).1 = urlOf A B n C D) := by show (tgtL r.u.data.toList).1 = _; rw [htl]
  clear hv htl hok
  obtain ⟨W, hW⟩ : ∃ W, W = w.alloc (Obj.cells #[.string r.m, .string r.u, .string r.o, .int .i64 r.mode, .bool r.cr, .slice r.A r.n r.c, .int .i64 r.cl, .int .u64 r.tm, .int .i64 r.gr, .int .i64 r.sg] 25) := ⟨_, rfl⟩
  have HP0 : Hid (RfAt w W r) := by rw [hW]; exact RfAt.new he hr _
  have HK := Lib.hid hr
  clear hr he
  go_enter Tryz.func11, Tryz.ntmps11
  go_wp2_with fail
  rw [← hW]
  clear hW
  refine (refTParse_any r.u _ HK.out.hu HP0.out.env.e).mono ?_
  rintro e w1 ⟨rfl, hb⟩
  rw [HV.out]
  have HP1 : Hid (RfAt w w1 r) := HP0.out.next hb
  clear hb HV HP0
  have HP2 := Lib.hid (HP1.out.alloc (.cells #[.string A, .string B, .int .i64 n, .string C, .string D] 52))
  have HU2 := Lib.hid (UrlAt.new w1 A B n C D 52)
  by_cases hk : k0 = 0
  case neg =>
    have HA : Hid (askI r.q = k0) := ask_url HTC.out hk
    go_wp2
    go_ret
    exact ⟨ret_int HA.out.symm, HP2.out.bel⟩
  subst hk
  obtain ⟨s, h, k, c, hv, hor, hoc, b4⟩ := org_view r.o.data.toList
  have HV := Lib.hid hv
  have HOO := Lib.hid hor
  have HOC := Lib.hid hoc
  clear hv hor hoc
  obtain ⟨r0, r1, r2, r3, r4, r5, r6, r7, r8, r9⟩ := HP2.out.req
  go_wp2_with fail
  refine (refParse_any r.o _ HK.out.ho).mono ?_
  rintro e w3 ⟨rfl, hb⟩
  rw [HV.out]
  obtain ⟨g4, hg4⟩ : ∃ g, g = w1.heap.size := ⟨_, rfl⟩
  have HP3 : Hid (RfAt w w3 r) := HP2.out.next hb
  have HU3 : Hid (UrlAt w3 g4 A B n C D) := by rw [hg4]; exact HU2.out.below hb HU2.out.lt
  rw [← hg4]
  clear hb hg4 HP2 HU2 HV HP1 r0 r1 r2 r3 r4 r5 r6 r7 r8 r9
  have HP4 := Lib.hid (HP3.out.alloc (.cells #[.string s, .string h, .int .i64 k] 50))
  have HU4 := Lib.hid (HU3.out.alloc (.cells #[.string s, .string h, .int .i64 k] 50))
  have HO4 := Lib.hid (OrgAt.new w3 s h k 50)
  by_cases hk : c = 0
  case neg =>
    have HA : Hid (askI r.q = c) := ask_org HTC.out HOC.out.symm hk
    go_wp2
    go_ret
    exact ⟨ret_int HA.out.symm, HP4.out.bel⟩
  subst hk
  obtain ⟨r0, r1, r2, r3, r4, r5, r6, r7, r8, r9⟩ := HP4.out.req
  go_wp2_with fail
  refine (refMCheck_any r.m _ HK.out.hm).mono ?_
  rintro e w5 ⟨rfl, hb⟩
  obtain ⟨g6, hg6⟩ : ∃ g, g = w3.heap.size := ⟨_, rfl⟩
  have HP5 : Hid (RfAt w w5 r) := HP4.out.next hb
  have HU5 : Hid (UrlAt w5 g4 A B n C D) := HU4.out.below hb HU4.out.lt
  have HO5 : Hid (OrgAt w5 g6 s h k) := by rw [hg6]; exact HO4.out.below hb HO4.out.lt
  rw [← hg6]
  clear hb hg6 HP4 HU4 HO4 HP3 HU3 r0 r1 r2 r3 r4 r5 r6 r7 r8 r9
  obtain ⟨mi, hk⟩ : ∃ k, k = Lk.methI r.m.data.toList := ⟨_, rfl⟩
  rw [← hk]
  by_cases h0 : mi = 0
  case neg =>
    have HA : Hid (askI r.q = mi) := ask_fld HTC.out HOC.out.symm (by rw [hk] at h0 ⊢; exact fields_meth h0) h0
    clear hk
    go_wp2
    go_ret
    exact ⟨ret_int HA.out.symm, HP5.out.bel⟩
  have H0 : Hid (Lk.methI r.q.m = 0) := by show _ = _; rw [← h0, hk]; rfl
  subst h0
  clear hk
  obtain ⟨r0, r1, r2, r3, r4, r5, r6, r7, r8, r9⟩ := HP5.out.req
  obtain ⟨md, hmd⟩ : ∃ m, m = r.mode := ⟨_, rfl⟩
  rw [← hmd] at r3
  have HM : Hid (md = r.q.mode) := hmd
  clear hmd
  by_cases m1 : md < 1
  case pos =>
    have HA : Hid (askI r.q = 7) := ask_fld HTC.out HOC.out.symm (fields_mode H0.out (by rw [← HM.out]; exact mode_low m1)) (by decide)
    go_wp2
    go_ret
    exact ⟨ret_int HA.out.symm, HP5.out.bel⟩
  by_cases m2 : 3 < md
  case pos =>
    have HA : Hid (askI r.q = 7) := ask_fld HTC.out HOC.out.symm (fields_mode H0.out (by rw [← HM.out]; exact mode_high m2)) (by decide)
    go_wp2
    go_ret
    exact ⟨ret_int HA.out.symm, HP5.out.bel⟩
  have H1 : Hid (modeOk r.q.mode = true) := by show _ = _; rw [← HM.out]; exact mode_in m1 m2
  go_wp2_with fail
  refine (refHCheck_any r.A r.n r.c w5.heap.size r.xs _ HK.out.len HP5.out.ok.row HK.out.sm).mono ?_
  rintro e w' ⟨rfl, rfl⟩
  obtain ⟨ki, hk⟩ : ∃ k, k = checkH (r.xs.map hd) := ⟨_, rfl⟩
  rw [← hk]
  by_cases h0 : ki = 0
  case neg =>
    have HA : Hid (askI r.q = ki) := ask_fld HTC.out HOC.out.symm (by rw [hk] at h0 ⊢; exact fields_head H0.out H1.out h0) h0
    clear hk
    go_wp2
    go_ret
    exact ⟨ret_int HA.out.symm, HP5.out.bel⟩
  have HF : Hid (fieldsI r.q = numsI r.q) := by show _ = _; exact fields_nums H0.out H1.out (by rw [← h0, hk]; rfl)
  subst h0
  clear hk
  have HN : Hid (numsI r.q = if r.cl < 1 ∨ 6 < r.cl then 8 else if 600 < r.tm then 9 else if r.gr < 0 ∨ r.sg < 0 then 2 else 0) := rfl
  by_cases n1 : r.cl < 1
  case pos =>
    have HA : Hid (askI r.q = 8) := ask_fld HTC.out HOC.out.symm (by rw [HF.out, HN.out]; simp [n1]) (by decide)
    go_wp2
    go_ret
    exact ⟨ret_int HA.out.symm, HP5.out.bel⟩
  by_cases n2 : 6 < r.cl
  case pos =>
    have HA : Hid (askI r.q = 8) := ask_fld HTC.out HOC.out.symm (by rw [HF.out, HN.out]; simp [n1, n2]) (by decide)
    go_wp2
    go_ret
    exact ⟨ret_int HA.out.symm, HP5.out.bel⟩
  by_cases n3 : 600 < r.tm
  case pos =>
    have HA : Hid (askI r.q = 9) := ask_fld HTC.out HOC.out.symm (by rw [HF.out, HN.out]; simp [n1, n2, n3]) (by decide)
    go_wp2
    go_ret
    exact ⟨ret_int HA.out.symm, HP5.out.bel⟩
  by_cases n4 : r.gr < 0
  case pos =>
    have HA : Hid (askI r.q = 2) := ask_fld HTC.out HOC.out.symm (by rw [HF.out, HN.out]; simp [n1, n2, n3, n4]) (by decide)
    go_wp2
    go_ret
    exact ⟨ret_int HA.out.symm, HP5.out.bel⟩
  by_cases n5 : r.sg < 0
  case pos =>
    have HA : Hid (askI r.q = 2) := ask_fld HTC.out HOC.out.symm (by rw [HF.out, HN.out]; simp [n1, n2, n3, n4, n5]) (by decide)
    go_wp2
    go_ret
    exact ⟨ret_int HA.out.symm, HP5.out.bel⟩
  have HASK : Hid (askI r.q = if suitB r.q.mode (crossB r.q) (plainB r.q) = true then 0 else 7) := ask_suit HTC.out HOC.out.symm (by rw [HF.out, HN.out]; simp [n1, n2, n3, n4, n5])
  clear HF HN
  obtain ⟨xx, hxx⟩ : ∃ b, b = !((A.toList == s.toList) && (B.toList == h.toList) && (n == k)) := ⟨_, rfl⟩
  have HX : Hid (crossB r.q = xx) := by
    show _ = _
    unfold crossB
    rw [HTU.out, ← show _ = orgO r.q.o from HOO.out, hxx, ByteArray.toList_eq, ByteArray.toList_eq, ByteArray.toList_eq, ByteArray.toList_eq]
    rfl
  have hcmp : ∀ W, (binOp .neq 50 (.agg #[.string A, .string B, .int .i64 n]) (.agg #[.string s, .string h, .int .i64 k])).run Tryz.prog W = .ok (.bool xx) W := fun W => by rw [neq_org, ← hxx]
  clear hxx
  obtain ⟨u0, u1, u2, u3, u4⟩ := HU5.out
  obtain ⟨o0, o1, o2⟩ := HO5.out
  by_cases q1 : md = 1
  case pos =>
    subst q1
    cases xx
    case true =>
      have HA : Hid (askI r.q = 7) := by show _ = _; rw [HASK.out, HX.out, ← HM.out]; rfl
      go_wp2
      go_ret
      exact ⟨ret_int HA.out.symm, HP5.out.bel⟩
    have HA : Hid (askI r.q = 0) := by show _ = _; rw [HASK.out, HX.out, ← HM.out]; rfl
    go_wp2
    go_ret
    exact ⟨ret_int HA.out.symm, HP5.out.bel⟩
  clear u0 u1 u2 u3 u4 o0 o1 o2 hcmp
  by_cases q2 : md = 2
  case pos =>
    subst q2
    obtain ⟨sf, hsf⟩ : ∃ b, b = Lk.safeL r.m.data.toList := ⟨_, rfl⟩
    have HSF := Lib.hid hsf
    clear hsf
    go_wp2_with fail
    refine (refSafe_any r.m _ HK.out.hm).mono ?_
    rintro e w6 ⟨rfl, hb⟩
    rw [← HSF.out]
    have HP6 : Hid (RfAt w w6 r) := HP5.out.next hb
    clear hb r0 r1 r2 r3 r4 r5 r6 r7 r8 r9
    cases sf
    case false =>
      have HA : Hid (askI r.q = 7) := by show _ = _; rw [HASK.out, ← HM.out]; unfold plainB; rw [show Lk.safeL r.q.m = false from HSF.out.symm]; rfl
      go_wp2
      go_ret
      exact ⟨ret_int HA.out.symm, HP6.out.bel⟩
    obtain ⟨r0, r1, r2, r3, r4, r5, r6, r7, r8, r9⟩ := HP6.out.req
    go_wp2_with fail
    refine (refNames7_any r.A r.n r.c w6.heap.size r.xs _ HK.out.len (Nat.le_refl _) HP6.out.ok.row HK.out.sm).mono ?_
    rintro e w7 ⟨v, rfl, hs, hb⟩
    have HP7 : Hid (RfAt w w7 r) := HP6.out.next hb
    clear hb r0 r1 r2 r3 r4 r5 r6 r7 r8 r9
    obtain ⟨N, nn, cn, rfl, hnn, _⟩ := trow_row hs
    have HPL : Hid (plainB r.q = decide (nn = 0)) := by show _ = _; unfold plainB; rw [show Lk.safeL r.q.m = true from HSF.out.symm, hnn, List.length_map]; rfl
    clear hs hnn
    by_cases hz : nn = 0
    case pos =>
      subst hz
      have HA : Hid (askI r.q = 0) := by show _ = _; rw [HASK.out, ← HM.out, HPL.out]; rfl
      go_wp2
      go_ret
      exact ⟨ret_int HA.out.symm, HP7.out.bel⟩
    have HA : Hid (askI r.q = 7) := by show _ = _; rw [HASK.out, ← HM.out, HPL.out]; simp [hz, suitB]
    have hpos : 0 < nn := by omega
    clear hz
    go_wp2
    go_ret
    exact ⟨ret_int HA.out.symm, HP7.out.bel⟩
  have HA : Hid (askI r.q = 0) := by show _ = _; rw [HASK.out, ← HM.out]; simp [suitB, q1, q2]
  go_wp2
  go_ret
  exact ⟨ret_int HA.out.symm, HP5.out.bel⟩

set_option maxRecDepth 100000 in
set_option maxHeartbeats 4000000 in
theorem refCross8_any (r : Rv) (w : World) (hr : RqOk w r) (he : Env8 w) :
    Calls Tryz.prog 16 #[r.v] w fun e w' => e = .returned (.bool (crossQ r.q)) ∧ Below w.heap.size w w' := by
  unfold Rv.v
  obtain ⟨A, B, n, C, D, k0, hv, htl, hok, b1, b2, b3⟩ := tgt_view r.u.data.toList
  have HV := Lib.hid hv
  have HTC : Hid ((tgtL r.q.u).2 = k0) := by show (tgtL r.u.data.toList).2 = _; rw [htl]
  have HTU : Hid ((tgtL r.q.u).1 = urlOf A B n C D) := by show (tgtL r.u.data.toList).1 = _; rw [htl]
  clear hv htl hok
  obtain ⟨W, hW⟩ : ∃ W, W = w.alloc (Obj.cells #[.string r.m, .string r.u, .string r.o, .int .i64 r.mode, .bool r.cr, .slice r.A r.n r.c, .int .i64 r.cl, .int .u64 r.tm, .int .i64 r.gr, .int .i64 r.sg] 25) := ⟨_, rfl⟩
  have HP0 : Hid (RfAt w W r) := by rw [hW]; exact RfAt.new he hr _
  have HK := Lib.hid hr
  clear hr he
  go_enter Tryz.func16, Tryz.ntmps16
  go_wp2_with fail
  rw [← hW]
  clear hW
  refine (refTParse_any r.u _ HK.out.hu HP0.out.env.e).mono ?_
  rintro e w1 ⟨rfl, hb⟩
  rw [HV.out]
  have HP1 : Hid (RfAt w w1 r) := HP0.out.next hb
  clear hb HV HP0
  have HP2 := Lib.hid (HP1.out.alloc (.cells #[.string A, .string B, .int .i64 n, .string C, .string D] 52))
  have HU2 := Lib.hid (UrlAt.new w1 A B n C D 52)
  obtain ⟨s, h, k, c, hv, hor, hoc, b4⟩ := org_view r.o.data.toList
  have HV := Lib.hid hv
  have HOO := Lib.hid hor
  have HOC := Lib.hid hoc
  clear hv hor hoc
  obtain ⟨r0, r1, r2, r3, r4, r5, r6, r7, r8, r9⟩ := HP2.out.req
  go_wp2_with fail
  refine (refParse_any r.o _ HK.out.ho).mono ?_
  rintro e w3 ⟨rfl, hb⟩
  rw [HV.out]
  obtain ⟨g4, hg4⟩ : ∃ g, g = w1.heap.size := ⟨_, rfl⟩
  have HP3 : Hid (RfAt w w3 r) := HP2.out.next hb
  have HU3 : Hid (UrlAt w3 g4 A B n C D) := by rw [hg4]; exact HU2.out.below hb HU2.out.lt
  rw [← hg4]
  clear hb hg4 HP2 HU2 HV HP1 r0 r1 r2 r3 r4 r5 r6 r7 r8 r9
  have HP4 := Lib.hid (HP3.out.alloc (.cells #[.string s, .string h, .int .i64 k] 50))
  have HU4 := Lib.hid (HU3.out.alloc (.cells #[.string s, .string h, .int .i64 k] 50))
  have HO4 := Lib.hid (OrgAt.new w3 s h k 50)
  obtain ⟨r0, r1, r2, r3, r4, r5, r6, r7, r8, r9⟩ := HP4.out.req
  go_wp2_with fail
  refine (refCheck8_any r _ HP4.out.ok HP4.out.env).mono ?_
  rintro e w5 ⟨rfl, hb⟩
  obtain ⟨g6, hg6⟩ : ∃ g, g = w3.heap.size := ⟨_, rfl⟩
  have HP5 : Hid (RfAt w w5 r) := HP4.out.next hb
  have HU5 : Hid (UrlAt w5 g4 A B n C D) := HU4.out.below hb HU4.out.lt
  have HO5 : Hid (OrgAt w5 g6 s h k) := by rw [hg6]; exact HO4.out.below hb HO4.out.lt
  rw [← hg6]
  clear hb hg6 HP4 HU4 HO4 HP3 HU3 r0 r1 r2 r3 r4 r5 r6 r7 r8 r9
  obtain ⟨ac, hac⟩ : ∃ c, c = askI r.q := ⟨_, rfl⟩
  rw [← hac]
  by_cases h0 : ac = 0
  case neg =>
    have HA : Hid (crossQ r.q = false) := by show _ = _; rw [crossQ, if_neg (by rw [← hac]; exact h0)]
    clear hac
    go_wp2
    go_ret
    exact ⟨ret_bool HA.out.symm, HP5.out.bel⟩
  subst h0
  obtain ⟨xx, hxx⟩ : ∃ b, b = !((A.toList == s.toList) && (B.toList == h.toList) && (n == k)) := ⟨_, rfl⟩
  have HX : Hid (crossB r.q = xx) := by
    show _ = _
    unfold crossB
    rw [HTU.out, ← show _ = orgO r.q.o from HOO.out, hxx, ByteArray.toList_eq, ByteArray.toList_eq, ByteArray.toList_eq, ByteArray.toList_eq]
    rfl
  have hcmp : ∀ W, (binOp .neq 50 (.agg #[.string A, .string B, .int .i64 n]) (.agg #[.string s, .string h, .int .i64 k])).run Tryz.prog W = .ok (.bool xx) W := fun W => by rw [neq_org, ← hxx]
  clear hxx
  have HA : Hid (crossQ r.q = xx) := by show _ = _; rw [crossQ, if_pos hac.symm, HX.out]
  clear hac
  obtain ⟨u0, u1, u2, u3, u4⟩ := HU5.out
  obtain ⟨o0, o1, o2⟩ := HO5.out
  go_wp2
  go_ret
  exact ⟨ret_bool HA.out.symm, HP5.out.bel⟩

set_option maxRecDepth 100000 in
set_option maxHeartbeats 2000000 in
theorem refNames8_any (r : Rv) (w : World) (hr : RqOk w r) (he : Env8 w) :
    Calls Tryz.prog 19 #[r.v] w fun e w' => ∃ v, e = .returned v ∧ sown w' w.heap.size v (namesQ r.q) ∧ Below w.heap.size w w' := by
  unfold Rv.v
  obtain ⟨W, hW⟩ : ∃ W, W = w.alloc (Obj.cells #[.string r.m, .string r.u, .string r.o, .int .i64 r.mode, .bool r.cr, .slice r.A r.n r.c, .int .i64 r.cl, .int .u64 r.tm, .int .i64 r.gr, .int .i64 r.sg] 25) := ⟨_, rfl⟩
  have HP0 : Hid (RfAt w W r) := by rw [hW]; exact RfAt.new he hr _
  have HK := Lib.hid hr
  clear hr he
  go_enter Tryz.func19, Tryz.ntmps19
  go_wp2_with fail
  rw [← hW]
  clear hW
  refine (refCheck8_any r _ HP0.out.ok HP0.out.env).mono ?_
  rintro e w1 ⟨rfl, hb⟩
  have HP1 : Hid (RfAt w w1 r) := HP0.out.next hb
  clear hb HP0
  obtain ⟨ac, hac⟩ : ∃ c, c = askI r.q := ⟨_, rfl⟩
  rw [← hac]
  by_cases h0 : ac = 0
  case neg =>
    have HA : Hid (namesQ r.q = []) := by show _ = _; rw [namesQ, if_neg (by rw [← hac]; exact h0)]
    clear hac
    go_wp2
    go_ret
    exact ⟨_, rfl, by rw [HA.out]; exact World.ownsRow_nil _ _ _ _, HP1.out.bel⟩
  have HC : Hid (askI r.q = 0) := by show _ = _; rw [← hac, h0]
  subst h0
  clear hac
  obtain ⟨r0, r1, r2, r3, r4, r5, r6, r7, r8, r9⟩ := HP1.out.req
  go_wp2_with fail
  refine (refNames7_any r.A r.n r.c w1.heap.size r.xs _ HK.out.len (Nat.le_refl _) HP1.out.ok.row HK.out.sm).mono ?_
  rintro e w2 ⟨v, rfl, hs, hb⟩
  have HP2 : Hid (RfAt w w2 r) := HP1.out.next hb
  have HS := Lib.hid hs
  have hsz := HP1.out.bel.size
  clear hb hs r0 r1 r2 r3 r4 r5 r6 r7 r8 r9
  go_wp2
  go_ret
  exact ⟨v, rfl, by rw [namesQ, if_pos HC.out]; exact ownsRow_base HS.out hsz, HP2.out.bel⟩

set_option maxRecDepth 100000 in
set_option maxHeartbeats 4000000 in
theorem refNeeds8_any (r : Rv) (w : World) (hr : RqOk w r) (he : Env8 w) :
    Calls Tryz.prog 21 #[r.v] w fun e w' => e = .returned (.bool (needsQ r.q)) ∧ Below w.heap.size w w' := by
  obtain ⟨zm, zu, zo, md, zc, zA, zn, zk, zx, zl, zt, zg, zs⟩ := r
  by_cases h3 : md = 3
  case neg =>
    have HV : Hid (needsQ (Rv.mk zm zu zo md zc zA zn zk zx zl zt zg zs).q = false) := by show _ = _; unfold needsQ; simp [Rv.q, h3]
    have HB : Hid (Below w.heap.size w (w.alloc (Obj.cells #[.string zm, .string zu, .string zo, .int .i64 md, .bool zc, .slice zA zn zk, .int .i64 zl, .int .u64 zt, .int .i64 zg, .int .i64 zs] 25))) := (Below.refl _ _).alloc (Nat.le_refl _) _
    unfold Rv.v
    dsimp only
    clear hr he
    go_enter Tryz.func21, Tryz.ntmps21
    go_wp2
    go_ret
    exact ⟨ret_bool HV.out.symm, HB.out⟩
  subst h3
  obtain ⟨r, hR⟩ : ∃ r : Rv, r = ⟨zm, zu, zo, 3, zc, zA, zn, zk, zx, zl, zt, zg, zs⟩ := ⟨_, rfl⟩
  have e3 : Rv.v ⟨zm, zu, zo, 3, zc, zA, zn, zk, zx, zl, zt, zg, zs⟩ = .agg #[.string zm, .string zu, .string zo, .int .i64 3, .bool zc, .slice zA zn zk, .int .i64 zl, .int .u64 zt, .int .i64 zg, .int .i64 zs] := rfl
  rw [e3, ← hR]
  rw [← hR] at hr
  have HR3 : Hid (.agg #[.string zm, .string zu, .string zo, .int .i64 3, .bool zc, .slice zA zn zk, .int .i64 zl, .int .u64 zt, .int .i64 zg, .int .i64 zs] = r.v) := by show _ = _; rw [hR]; rfl
  have HN : Hid (needsQ r.q = (crossQ r.q && !plainQ r.q)) := by show _ = _; unfold needsQ; rw [show r.q.mode = 3 by rw [hR]; rfl]; simp
  obtain ⟨W, hW⟩ : ∃ W, W = w.alloc (Obj.cells #[.string zm, .string zu, .string zo, .int .i64 3, .bool zc, .slice zA zn zk, .int .i64 zl, .int .u64 zt, .int .i64 zg, .int .i64 zs] 25) := ⟨_, rfl⟩
  have HP0 : Hid (RfAt w W r) := by rw [hW]; have := RfAt.new he hr 25; rw [hR] at this ⊢; exact this
  have HK := Lib.hid hr
  clear hr he hR e3
  go_enter Tryz.func21, Tryz.ntmps21
  go_wp2_with fail
  rw [← hW, HR3.out]
  clear hW
  refine (refCross8_any r _ HP0.out.ok HP0.out.env).mono ?_
  rintro e w1 ⟨rfl, hb⟩
  have HP1 : Hid (RfAt w w1 r) := HP0.out.next hb
  clear hb HP0
  obtain ⟨cx, hcx⟩ : ∃ b, b = crossQ r.q := ⟨_, rfl⟩
  rw [← hcx]
  cases cx
  case false =>
    have HV : Hid (needsQ r.q = false) := by show _ = _; rw [HN.out, ← hcx]; rfl
    clear hcx
    go_wp2
    go_ret
    exact ⟨ret_bool HV.out.symm, HP1.out.bel⟩
  have HC : Hid (askI r.q = 0) := by
    show _ = _
    apply Classical.byContradiction
    intro hh
    rw [crossQ, if_neg hh] at hcx
    cases hcx
  have HV : Hid (needsQ r.q = !plainB r.q) := by show _ = _; rw [HN.out, ← hcx, plainQ, if_pos HC.out]; rfl
  clear hcx
  obtain ⟨sf, hsf⟩ : ∃ b, b = Lk.safeL r.m.data.toList := ⟨_, rfl⟩
  have HSF := Lib.hid hsf
  clear hsf
  obtain ⟨r0, r1, r2, r3, r4, r5, r6, r7, r8, r9⟩ := HP1.out.req
  go_wp2_with fail
  refine (refSafe_any r.m _ HK.out.hm).mono ?_
  rintro e w2 ⟨rfl, hb⟩
  rw [← HSF.out]
  have HP2 : Hid (RfAt w w2 r) := HP1.out.next hb
  clear hb r0 r1 r2 r3 r4 r5 r6 r7 r8 r9
  cases sf
  case false =>
    have HA : Hid (needsQ r.q = true) := by show _ = _; rw [HV.out]; unfold plainB; rw [show Lk.safeL r.q.m = false from HSF.out.symm]; rfl
    go_wp2
    go_ret
    exact ⟨ret_bool HA.out.symm, HP2.out.bel⟩
  obtain ⟨r0, r1, r2, r3, r4, r5, r6, r7, r8, r9⟩ := HP2.out.req
  go_wp2_with fail
  refine (refNames8_any r _ HP2.out.ok HP2.out.env).mono ?_
  rintro e w3 ⟨v, rfl, hs, hb⟩
  have HP3 : Hid (RfAt w w3 r) := HP2.out.next hb
  clear hb r0 r1 r2 r3 r4 r5 r6 r7 r8 r9
  obtain ⟨N, nn, cn, rfl, hnn, _⟩ := trow_row hs
  have HPL : Hid (plainB r.q = decide (nn = 0)) := by show _ = _; unfold plainB; rw [show Lk.safeL r.q.m = true from HSF.out.symm, hnn, List.length_map, namesQ, if_pos HC.out]; rfl
  clear hs hnn
  by_cases hz : nn = 0
  case pos =>
    subst hz
    have HA : Hid (needsQ r.q = false) := by show _ = _; rw [HV.out, HPL.out]; rfl
    go_wp2
    go_ret
    exact ⟨ret_bool HA.out.symm, HP3.out.bel⟩
  have HA : Hid (needsQ r.q = true) := by show _ = _; rw [HV.out, HPL.out]; simp [hz]
  have hpos : 0 < nn := by omega
  clear hz
  go_wp2
  go_ret
  exact ⟨ret_bool HA.out.symm, HP3.out.bel⟩

set_option maxRecDepth 100000 in
set_option maxHeartbeats 2000000 in
theorem refKey8_any (r : Rv) (w : World) (hr : RqOk w r) (he : Env8 w) :
    Calls Tryz.prog 23 #[r.v] w fun e w' => e = .returned (.string (mk (keyQ r.q))) ∧ Below w.heap.size w w' := by
  unfold Rv.v
  obtain ⟨A, B, n, C, D, k0, hv, htl, hok, b1, b2, b3⟩ := tgt_view r.u.data.toList
  have HV := Lib.hid hv
  have HTC : Hid ((tgtL r.q.u).2 = k0) := by show (tgtL r.u.data.toList).2 = _; rw [htl]
  have HTU : Hid ((tgtL r.q.u).1 = urlOf A B n C D) := by show (tgtL r.u.data.toList).1 = _; rw [htl]
  clear hv htl hok
  obtain ⟨W, hW⟩ : ∃ W, W = w.alloc (Obj.cells #[.string r.m, .string r.u, .string r.o, .int .i64 r.mode, .bool r.cr, .slice r.A r.n r.c, .int .i64 r.cl, .int .u64 r.tm, .int .i64 r.gr, .int .i64 r.sg] 25) := ⟨_, rfl⟩
  have HP0 : Hid (RfAt w W r) := by rw [hW]; exact RfAt.new he hr _
  have HK := Lib.hid hr
  clear hr he
  go_enter Tryz.func23, Tryz.ntmps23
  go_wp2_with fail
  rw [← hW]
  clear hW
  refine (refCheck8_any r _ HP0.out.ok HP0.out.env).mono ?_
  rintro e w1 ⟨rfl, hb⟩
  have HP1 : Hid (RfAt w w1 r) := HP0.out.next hb
  clear hb HP0
  obtain ⟨ac, hac⟩ : ∃ c, c = askI r.q := ⟨_, rfl⟩
  rw [← hac]
  by_cases h0 : ac = 0
  case neg =>
    have HA : Hid (mk (keyQ r.q) = (⟨#[]⟩ : ByteArray)) := by show _ = _; rw [keyQ, if_neg (by rw [← hac]; exact h0)]; rfl
    clear hac
    go_wp2
    go_ret
    exact ⟨ret_string HA.out.symm, HP1.out.bel⟩
  have HC : Hid (askI r.q = 0) := by show _ = _; rw [← hac, h0]
  subst h0
  clear hac
  obtain ⟨r0, r1, r2, r3, r4, r5, r6, r7, r8, r9⟩ := HP1.out.req
  go_wp2_with fail
  refine (refTParse_any r.u _ HK.out.hu HP1.out.env.e).mono ?_
  rintro e w2 ⟨rfl, hb⟩
  rw [HV.out]
  have HP2 : Hid (RfAt w w2 r) := HP1.out.next hb
  have HP3 := Lib.hid (HP2.out.alloc (.cells #[.string A, .string B, .int .i64 n, .string C, .string D] 52))
  clear hb HV r0 r1 r2 r3 r4 r5 r6 r7 r8 r9
  go_wp2_with fail
  refine (refKey_any A B n _ (by unfold maxLen; omega)).mono ?_
  rintro e w4 ⟨rfl, hb⟩
  have HP4 : Hid (RfAt w w4 r) := HP3.out.next hb
  clear hb
  go_wp2
  go_ret
  exact ⟨ret_string (by rw [keyQ, if_pos HC.out, HTU.out]; rfl), HP4.out.bel⟩

theorem com_take (xs : List ByteArray) (k : Nat) (hk : k ≤ xs.length) : (mk (comL (dat (xs.take k)))).size ≤ (xs.map ByteArray.size).sum + xs.length := by
  have h1 := com_len (dat (xs.take k))
  have h2 := sum_take xs k
  rw [dat_sum, dat_len, List.length_take] at h1
  rw [mk_size]; omega
set_option maxHeartbeats 1000000 in
theorem refCommas_any (A : Option Addr) (len c B : Nat) (xs : List ByteArray) (w : World) (hlen : len = xs.length) (hx : SRow w B A xs) (hsum : (xs.map ByteArray.size).sum + xs.length ≤ 1099511627776) :
    Calls Tryz.prog 49 #[.slice A len c] w fun e w' => e = .returned (.string (mk (comL (dat xs)))) ∧ w = w' := by
  subst hlen
  have HX := Lib.hid hx
  have HSUM := Lib.hid hsum
  have hl : xs.length ≤ 1099511627776 := by omega
  clear hx hsum
  go_enter Tryz.func49, Tryz.ntmps49
  go_wp2
  go_loop [3, 4] (fun s i => ∃ k : Nat, k ≤ xs.length ∧ i = .int .i64 k ∧ s = .string (mk (comL (dat (xs.take k))))) (fun _ i => xs.length - (intOf i).toNat)
  case atStart => exact ⟨0, Nat.zero_le _, rfl, rfl⟩
  case round =>
    obtain ⟨k, hk, rfl, rfl⟩ := hrel
    have hz : (mk (comL (dat (xs.take k)))).size ≤ 1099511627776 := Nat.le_trans (com_take xs k hk) HSUM.out
    by_cases hlt : k < xs.length
    · obtain ⟨ad, hA, _, hc⟩ := HX.out k xs[k] (List.getElem?_eq_getElem hlt)
      have hxz : xs[k].size ≤ 1099511627776 := by have h1 := size_le_sum (List.getElem_mem hlt); have h2 := HSUM.out; omega
      have HTK : Hid (xs.take (k + 1) = xs.take k ++ [xs[k]]) := List.take_succ_eq_append_getElem hlt
      generalize xs[k] = x at *
      subst hA
      by_cases h0 : k = 0
      · have HM : Hid (mk (comL (dat (xs.take k))) ++ x = mk (comL (dat (xs.take (k + 1))))) := by
          show _ = _
          rw [HTK.out]
          subst h0
          simp only [List.take_zero, List.nil_append]
          have e : mk (comL (dat [x])) = x := mk_eq x
          rw [e]
          apply WideShapes.bytes_inj
          simp [mk, comL, dat]
        have hpos : ¬ 0 < k := by omega
        clear h0
        go_wp2
        go_round
        case rel => exact ⟨k + 1, by omega, by go_num, by rw [HM.out]⟩
        case measure => simp [intOf]; omega
      · have HM : Hid (mk (comL (dat (xs.take k))) ++ (⟨#[44]⟩ : ByteArray) ++ x = mk (comL (dat (xs.take (k + 1))))) := by
          show _ = _
          have hne : dat (xs.take k) ≠ [] := by
            intro h
            have := congrArg List.length h
            rw [dat_len, List.length_take] at this
            simp only [List.length_nil] at this; omega
          rw [HTK.out, dat_snoc, com_snoc _ _ hne]
          apply WideShapes.bytes_inj
          rw [mk_data]
          simp [mk]
        have hpos : 0 < k := by omega
        have h2s : (ByteArray.mk #[44]).size = 1 := rfl
        clear h0
        go_wp2
        go_round
        case rel => exact ⟨k + 1, by omega, by go_num, by rw [HM.out]⟩
        case measure => simp [intOf]; omega
    · have HK : Hid (xs.take k = xs) := List.take_of_length_le (by omega)
      go_wp2
      go_ret
      exact ⟨ret_string (by rw [HK.out]), rfl⟩
end Go.Proofs.YticedcnmajcgbaaGreatDoor
