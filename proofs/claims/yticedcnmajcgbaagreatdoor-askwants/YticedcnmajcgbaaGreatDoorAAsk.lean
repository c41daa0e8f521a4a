/-
  Contracts of ask over this seat's program: Check, Cross, Names, Needs, Key. Conditions: the request's headers lie where it says and are not too many; the library's variables and the tables of methods are as they are laid.
-/
import Derived.Test.YticedcnmajcgbaaGreatDoorARead
namespace Go.Proofs.YticedcnmajcgbaaGreatDoor
open Go.RowKit

theorem key_zero : keyL [] [] 0 = [] := by decide
theorem key_is {q : Rq} {p : Pv} (h : PvIs q p) : keyL p.a.data.toList p.b.data.toList p.n = keyQ q := by
  have e := h.url
  unfold urlQ at e
  unfold keyQ
  split
  · rename_i h0
    rw [if_pos h0] at e
    rw [← e]; rfl
  · rename_i h0
    rw [if_neg h0] at e
    have e1 : p.a.data.toList = [] := congrArg Url.sc e
    have e2 : p.b.data.toList = [] := congrArg Url.h e
    have e3 : p.n = 0 := congrArg Url.p e
    rw [e1, e2, e3, key_zero]

set_option maxHeartbeats 2000000 in
theorem aCheck_any (r : Rv) (w : World) (hr : RqOk w r) (he : Env8 w) :
    Calls Tryz.prog 10 #[r.v] w fun e w' => e = .returned (.int .i64 (askI r.q)) ∧ Below w.heap.size w w' := by
  unfold Rv.v
  obtain ⟨W, hW⟩ : ∃ W, W = w.alloc (Obj.cells #[.string r.m, .string r.u, .string r.o, .int .i64 r.mode, .bool r.cr, .slice r.A r.n r.c, .int .i64 r.cl, .int .u64 r.tm, .int .i64 r.gr, .int .i64 r.sg] 25) := ⟨_, rfl⟩
  have hb0 : Below w.heap.size w W := by rw [hW]; exact (Below.refl _ _).alloc (Nat.le_refl _) _
  have HB0 := Lib.hid hb0
  have HR0 : Hid (RqAt W w.heap.size r) := by rw [hW]; exact RqAt.new w r _
  have HK := Lib.hid hr
  have HE := Lib.hid he
  clear hr he hb0
  go_enter Tryz.func10, Tryz.ntmps10
  go_wp2_with fail
  rw [← hW]
  clear hW
  refine (read_any r _ (HK.out.below HB0.out) (HE.out.below HB0.out)).mono ?_
  rintro e w1 ⟨p, rfl, hp, hs, hb⟩
  have HPV := Lib.hid hp
  have HS := Lib.hid hs
  have HB1 : Hid (Below w.heap.size w w1) := HB0.out.trans (hb.mono HB0.out.size)
  have HR1 : Hid (RqAt w1 w.heap.size r) := HR0.out.below hb HR0.out.lt
  clear hp hs hb
  simp only [Pv.v]
  have HA := Lib.hid ((Below.refl w1.heap.size w1).alloc (Nat.le_refl _) (Obj.cells #[.string p.a, .string p.b, .int .i64 p.n, .string p.c, .string p.d, .string p.s, .string p.h, .int .i64 p.k, .slice p.N p.nn p.cn, .bool p.x, .bool p.y] 54))
  have HB2 : Hid (Below w.heap.size w (w1.alloc (Obj.cells #[.string p.a, .string p.b, .int .i64 p.n, .string p.c, .string p.d, .string p.s, .string p.h, .int .i64 p.k, .slice p.N p.nn p.cn, .bool p.x, .bool p.y] 54))) := HB1.out.trans (HA.out.mono HB1.out.size)
  go_wp2
  go_ret
  exact ⟨rfl, HB2.out⟩

set_option maxHeartbeats 2000000 in
theorem aCross_any (r : Rv) (w : World) (hr : RqOk w r) (he : Env8 w) :
    Calls Tryz.prog 15 #[r.v] w fun e w' => e = .returned (.bool (crossQ r.q)) ∧ Below w.heap.size w w' := by
  unfold Rv.v
  obtain ⟨W, hW⟩ : ∃ W, W = w.alloc (Obj.cells #[.string r.m, .string r.u, .string r.o, .int .i64 r.mode, .bool r.cr, .slice r.A r.n r.c, .int .i64 r.cl, .int .u64 r.tm, .int .i64 r.gr, .int .i64 r.sg] 25) := ⟨_, rfl⟩
  have hb0 : Below w.heap.size w W := by rw [hW]; exact (Below.refl _ _).alloc (Nat.le_refl _) _
  have HB0 := Lib.hid hb0
  have HR0 : Hid (RqAt W w.heap.size r) := by rw [hW]; exact RqAt.new w r _
  have HK := Lib.hid hr
  have HE := Lib.hid he
  clear hr he hb0
  go_enter Tryz.func15, Tryz.ntmps15
  go_wp2_with fail
  rw [← hW]
  clear hW
  refine (read_any r _ (HK.out.below HB0.out) (HE.out.below HB0.out)).mono ?_
  rintro e w1 ⟨p, rfl, hp, hs, hb⟩
  have HPV := Lib.hid hp
  have HS := Lib.hid hs
  have HB1 : Hid (Below w.heap.size w w1) := HB0.out.trans (hb.mono HB0.out.size)
  have HR1 : Hid (RqAt w1 w.heap.size r) := HR0.out.below hb HR0.out.lt
  clear hp hs hb
  simp only [Pv.v]
  have HA := Lib.hid ((Below.refl w1.heap.size w1).alloc (Nat.le_refl _) (Obj.cells #[.string p.a, .string p.b, .int .i64 p.n, .string p.c, .string p.d, .string p.s, .string p.h, .int .i64 p.k, .slice p.N p.nn p.cn, .bool p.x, .bool p.y] 54))
  have HB2 : Hid (Below w.heap.size w (w1.alloc (Obj.cells #[.string p.a, .string p.b, .int .i64 p.n, .string p.c, .string p.d, .string p.s, .string p.h, .int .i64 p.k, .slice p.N p.nn p.cn, .bool p.x, .bool p.y] 54))) := HB1.out.trans (HA.out.mono HB1.out.size)
  go_wp2
  go_ret
  exact ⟨ret_bool HPV.out.x, HB2.out⟩

set_option maxHeartbeats 2000000 in
theorem aNames_any (r : Rv) (w : World) (hr : RqOk w r) (he : Env8 w) :
    Calls Tryz.prog 18 #[r.v] w fun e w' => ∃ v, e = .returned v ∧ sown w' w.heap.size v (namesQ r.q) ∧ Below w.heap.size w w' := by
  unfold Rv.v
  obtain ⟨W, hW⟩ : ∃ W, W = w.alloc (Obj.cells #[.string r.m, .string r.u, .string r.o, .int .i64 r.mode, .bool r.cr, .slice r.A r.n r.c, .int .i64 r.cl, .int .u64 r.tm, .int .i64 r.gr, .int .i64 r.sg] 25) := ⟨_, rfl⟩
  have hb0 : Below w.heap.size w W := by rw [hW]; exact (Below.refl _ _).alloc (Nat.le_refl _) _
  have HB0 := Lib.hid hb0
  have HR0 : Hid (RqAt W w.heap.size r) := by rw [hW]; exact RqAt.new w r _
  have HK := Lib.hid hr
  have HE := Lib.hid he
  clear hr he hb0
  go_enter Tryz.func18, Tryz.ntmps18
  go_wp2_with fail
  rw [← hW]
  clear hW
  refine (read_any r _ (HK.out.below HB0.out) (HE.out.below HB0.out)).mono ?_
  rintro e w1 ⟨p, rfl, hp, hs, hb⟩
  have HPV := Lib.hid hp
  have HS := Lib.hid hs
  have HB1 : Hid (Below w.heap.size w w1) := HB0.out.trans (hb.mono HB0.out.size)
  have HR1 : Hid (RqAt w1 w.heap.size r) := HR0.out.below hb HR0.out.lt
  clear hp hs hb
  simp only [Pv.v]
  have HA := Lib.hid ((Below.refl w1.heap.size w1).alloc (Nat.le_refl _) (Obj.cells #[.string p.a, .string p.b, .int .i64 p.n, .string p.c, .string p.d, .string p.s, .string p.h, .int .i64 p.k, .slice p.N p.nn p.cn, .bool p.x, .bool p.y] 54))
  have HB2 : Hid (Below w.heap.size w (w1.alloc (Obj.cells #[.string p.a, .string p.b, .int .i64 p.n, .string p.c, .string p.d, .string p.s, .string p.h, .int .i64 p.k, .slice p.N p.nn p.cn, .bool p.x, .bool p.y] 54))) := HB1.out.trans (HA.out.mono HB1.out.size)
  go_wp2
  go_ret
  exact ⟨_, rfl, ownsRow_base (ownsRow_below HS.out HA.out) HB0.out.size, HB2.out⟩

set_option maxHeartbeats 2000000 in
theorem aNeeds_any (r : Rv) (w : World) (hr : RqOk w r) (he : Env8 w) :
    Calls Tryz.prog 20 #[r.v] w fun e w' => e = .returned (.bool (needsQ r.q)) ∧ Below w.heap.size w w' := by
  unfold Rv.v
  obtain ⟨W, hW⟩ : ∃ W, W = w.alloc (Obj.cells #[.string r.m, .string r.u, .string r.o, .int .i64 r.mode, .bool r.cr, .slice r.A r.n r.c, .int .i64 r.cl, .int .u64 r.tm, .int .i64 r.gr, .int .i64 r.sg] 25) := ⟨_, rfl⟩
  have hb0 : Below w.heap.size w W := by rw [hW]; exact (Below.refl _ _).alloc (Nat.le_refl _) _
  have HB0 := Lib.hid hb0
  have HR0 : Hid (RqAt W w.heap.size r) := by rw [hW]; exact RqAt.new w r _
  have HK := Lib.hid hr
  have HE := Lib.hid he
  clear hr he hb0
  go_enter Tryz.func20, Tryz.ntmps20
  go_wp2_with fail
  rw [← hW]
  clear hW
  refine (read_any r _ (HK.out.below HB0.out) (HE.out.below HB0.out)).mono ?_
  rintro e w1 ⟨p, rfl, hp, hs, hb⟩
  obtain ⟨pa, pb, pn, pc, pd, ps, ph, pk, pN, pnn, pcn, px, py⟩ := p
  have HPX : Hid (px = crossQ r.q) := hp.x
  have HPY : Hid (py = plainQ r.q) := hp.y
  have HB1 : Hid (Below w.heap.size w w1) := HB0.out.trans (hb.mono HB0.out.size)
  have HR1 : Hid (RqAt w1 w.heap.size r) := HR0.out.below hb HR0.out.lt
  clear hp hs hb
  simp only [Pv.v]
  have HA := Lib.hid ((Below.refl w1.heap.size w1).alloc (Nat.le_refl _) (Obj.cells #[.string pa, .string pb, .int .i64 pn, .string pc, .string pd, .string ps, .string ph, .int .i64 pk, .slice pN pnn pcn, .bool px, .bool py] 54))
  have HB2 : Hid (Below w.heap.size w (w1.alloc (Obj.cells #[.string pa, .string pb, .int .i64 pn, .string pc, .string pd, .string ps, .string ph, .int .i64 pk, .slice pN pnn pcn, .bool px, .bool py] 54))) := HB1.out.trans (HA.out.mono HB1.out.size)
  have HR2 := Lib.hid (HR1.out.below HA.out HR1.out.lt)
  obtain ⟨r0, r1, r2, r3, r4, r5, r6, r7, r8, r9⟩ := HR2.out
  have HN : Hid (needsQ r.q = ((r.mode == 3) && px && !py)) := by show _ = _; rw [HPX.out, HPY.out]; rfl
  obtain ⟨md, hmd⟩ : ∃ m, m = r.mode := ⟨_, rfl⟩
  rw [← hmd] at r3
  have HM := Lib.hid hmd
  clear hmd
  by_cases h3 : md = 3
  case neg =>
    have HV : Hid (needsQ r.q = false) := by show _ = _; rw [HN.out, ← HM.out]; simp [h3]
    go_wp2
    go_ret
    exact ⟨ret_bool HV.out.symm, HB2.out⟩
  subst h3
  cases px
  case false =>
    have HV : Hid (needsQ r.q = false) := by show _ = _; rw [HN.out]; simp
    go_wp2
    go_ret
    exact ⟨ret_bool HV.out.symm, HB2.out⟩
  have HV : Hid (needsQ r.q = !py) := by show _ = _; rw [HN.out, ← HM.out]; simp
  go_wp2
  go_ret
  exact ⟨ret_bool HV.out.symm, HB2.out⟩

set_option maxHeartbeats 2000000 in
theorem aKey_any (r : Rv) (w : World) (hr : RqOk w r) (he : Env8 w) :
    Calls Tryz.prog 22 #[r.v] w fun e w' => e = .returned (.string (mk (keyQ r.q))) ∧ Below w.heap.size w w' := by
  unfold Rv.v
  obtain ⟨W, hW⟩ : ∃ W, W = w.alloc (Obj.cells #[.string r.m, .string r.u, .string r.o, .int .i64 r.mode, .bool r.cr, .slice r.A r.n r.c, .int .i64 r.cl, .int .u64 r.tm, .int .i64 r.gr, .int .i64 r.sg] 25) := ⟨_, rfl⟩
  have hb0 : Below w.heap.size w W := by rw [hW]; exact (Below.refl _ _).alloc (Nat.le_refl _) _
  have HB0 := Lib.hid hb0
  have HR0 : Hid (RqAt W w.heap.size r) := by rw [hW]; exact RqAt.new w r _
  have HK := Lib.hid hr
  have HE := Lib.hid he
  clear hr he hb0
  go_enter Tryz.func22, Tryz.ntmps22
  go_wp2_with fail
  rw [← hW]
  clear hW
  refine (read_any r _ (HK.out.below HB0.out) (HE.out.below HB0.out)).mono ?_
  rintro e w1 ⟨p, rfl, hp, hs, hb⟩
  have HPV := Lib.hid hp
  have HS := Lib.hid hs
  have HB1 : Hid (Below w.heap.size w w1) := HB0.out.trans (hb.mono HB0.out.size)
  have HR1 : Hid (RqAt w1 w.heap.size r) := HR0.out.below hb HR0.out.lt
  clear hp hs hb
  simp only [Pv.v]
  have HA := Lib.hid ((Below.refl w1.heap.size w1).alloc (Nat.le_refl _) (Obj.cells #[.string p.a, .string p.b, .int .i64 p.n, .string p.c, .string p.d, .string p.s, .string p.h, .int .i64 p.k, .slice p.N p.nn p.cn, .bool p.x, .bool p.y] 54))
  have HB2 : Hid (Below w.heap.size w (w1.alloc (Obj.cells #[.string p.a, .string p.b, .int .i64 p.n, .string p.c, .string p.d, .string p.s, .string p.h, .int .i64 p.k, .slice p.N p.nn p.cn, .bool p.x, .bool p.y] 54))) := HB1.out.trans (HA.out.mono HB1.out.size)
  go_wp2_with fail
  refine (Key_any p.a p.b p.n _ (by have := HPV.out.hb; unfold maxLen; omega) (HE.out.below HB2.out).e).mono ?_
  rintro e w3 ⟨rfl, hb⟩
  have HB3 : Hid (Below w.heap.size w w3) := HB2.out.trans (hb.mono HB2.out.size)
  clear hb
  go_wp2
  go_ret
  exact ⟨ret_string (by rw [key_is HPV.out]), HB3.out⟩
end Go.Proofs.YticedcnmajcgbaaGreatDoor
