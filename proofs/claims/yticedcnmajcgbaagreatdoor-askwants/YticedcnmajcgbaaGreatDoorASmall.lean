/-
  Contracts of ask's small functions over this seat's program: isMode, suits, checkFields. Conditions: the request's headers lie where it says and are not too many; the library's variables and the tables of methods are as they are laid.
-/
import Derived.Test.YticedcnmajcgbaaGreatDoorAReq
import Derived.WalkMore
namespace Go.Proofs.YticedcnmajcgbaaGreatDoor
open Go.RowKit

theorem isMode_any (k : Int) (w : World) : Calls Tryz.prog 92 #[.int .i64 k] w fun e w' => e = .returned (.bool (modeOk k)) ∧ w = w' := by
  by_cases h1 : k = 1
  · subst h1
    go_enter Tryz.func92, Tryz.ntmps92
    go_wp2
    go_ret
    exact ⟨rfl, rfl⟩
  by_cases h2 : k = 2
  · subst h2
    go_enter Tryz.func92, Tryz.ntmps92
    go_wp2
    go_ret
    exact ⟨rfl, rfl⟩
  by_cases h3 : k = 3
  · subst h3
    go_enter Tryz.func92, Tryz.ntmps92
    go_wp2
    go_ret
    exact ⟨rfl, rfl⟩
  have HM : Hid (modeOk k = false) := by show _ = _; unfold modeOk; simp [h1, h2, h3]
  go_enter Tryz.func92, Tryz.ntmps92
  go_wp2
  go_ret
  exact ⟨ret_bool HM.out.symm, rfl⟩

theorem suits_any (p : Pv) (k : Int) (w : World) : Calls Tryz.prog 55 #[p.v, .int .i64 k] w fun e w' => e = .returned (.bool (suitB k p.x p.y)) ∧ Below w.heap.size w w' := by
  unfold Pv.v
  have HB : Hid (Below w.heap.size w (w.alloc (.cells #[.string p.a, .string p.b, .int .i64 p.n, .string p.c, .string p.d, .string p.s, .string p.h, .int .i64 p.k, .slice p.N p.nn p.cn, .bool p.x, .bool p.y] 54))) := (Below.refl _ _).alloc (Nat.le_refl _) _
  by_cases h1 : k = 1
  · subst h1
    go_enter Tryz.func55, Tryz.ntmps55
    go_wp2
    go_ret
    exact ⟨rfl, HB.out⟩
  by_cases h2 : k = 2
  · subst h2
    go_enter Tryz.func55, Tryz.ntmps55
    go_wp2
    go_ret
    exact ⟨rfl, HB.out⟩
  have HM : Hid (suitB k p.x p.y = true) := by show _ = _; unfold suitB; simp [h1, h2]
  go_enter Tryz.func55, Tryz.ntmps55
  go_wp2
  go_ret
  exact ⟨ret_bool HM.out.symm, HB.out⟩

theorem fields_meth {r : Rq} (h : Lk.methI r.m ≠ 0) : fieldsI r = Lk.methI r.m := by unfold fieldsI; rw [if_pos h]
theorem fields_mode {r : Rq} (h0 : Lk.methI r.m = 0) (h : modeOk r.mode = false) : fieldsI r = 7 := by unfold fieldsI; simp [h0, h]
theorem fields_head {r : Rq} (h0 : Lk.methI r.m = 0) (h1 : modeOk r.mode = true) (h : checkH r.hs ≠ 0) : fieldsI r = checkH r.hs := by unfold fieldsI; simp [h0, h1, h]
theorem fields_nums {r : Rq} (h0 : Lk.methI r.m = 0) (h1 : modeOk r.mode = true) (h : checkH r.hs = 0) : fieldsI r = numsI r := by unfold fieldsI; simp [h0, h1, h]

set_option maxHeartbeats 2000000 in
theorem checkFields_any (r : Rv) (w : World) (hr : RqOk w r) (he : Env8 w) :
    Calls Tryz.prog 52 #[r.v] w fun e w' => e = .returned (.int .i64 (fieldsI r.q)) ∧ Below w.heap.size w w' := by
  unfold Rv.v
  obtain ⟨W, hW⟩ : ∃ W, W = w.alloc (Obj.cells #[.string r.m, .string r.u, .string r.o, .int .i64 r.mode, .bool r.cr, .slice r.A r.n r.c, .int .i64 r.cl, .int .u64 r.tm, .int .i64 r.gr, .int .i64 r.sg] 25) := ⟨_, rfl⟩
  have hb0 : Below w.heap.size w W := by rw [hW]; exact (Below.refl _ _).alloc (Nat.le_refl _) _
  have HB0 := Lib.hid hb0
  have HR0 : Hid (RqAt W w.heap.size r) := by rw [hW]; exact RqAt.new w r _
  have HK := Lib.hid hr
  have HE := Lib.hid he
  clear hr he hb0
  go_enter Tryz.func52, Tryz.ntmps52
  go_wp2_with fail
  rw [← hW]
  clear hW
  refine (MCheck_any r.m _ HK.out.hm (HE.out.below HB0.out).m).mono ?_
  rintro e w1 ⟨rfl, n1, hw1⟩
  have hb : Below W.heap.size W w1 := by rw [hw1]; exact below_drewN (Below.refl _ _) _
  have HB1 : Hid (Below w.heap.size w w1) := HB0.out.trans (hb.mono HB0.out.size)
  have HR1 : Hid (RqAt w1 w.heap.size r) := HR0.out.below hb HR0.out.lt
  clear hb hw1
  obtain ⟨k, hk⟩ : ∃ k, k = Lk.methI r.m.data.toList := ⟨_, rfl⟩
  rw [← hk]
  by_cases h0 : k = 0
  case neg =>
    have HF : Hid (fieldsI r.q = k) := by show _ = _; rw [hk] at h0 ⊢; exact fields_meth h0
    clear hk
    go_wp2
    go_ret
    exact ⟨ret_int HF.out.symm, HB1.out⟩
  have H0 : Hid (Lk.methI r.q.m = 0) := by show _ = _; rw [← h0, hk]; rfl
  subst h0
  clear hk
  obtain ⟨r0, r1, r2, r3, r4, r5, r6, r7, r8, r9⟩ := HR1.out
  go_wp2_with fail
  refine (isMode_any r.mode _).mono ?_
  rintro e w' ⟨rfl, rfl⟩
  cases h1 : modeOk r.mode
  case false =>
    have HF : Hid (fieldsI r.q = 7) := fields_mode H0.out h1
    clear h1
    go_wp2
    go_ret
    exact ⟨ret_int HF.out.symm, HB1.out⟩
  have H1 : Hid (modeOk r.q.mode = true) := h1
  clear h1
  go_wp2_with fail
  refine (Check6_any r.A r.n r.c w.heap.size r.xs _ HK.out.len HB1.out.size (HK.out.row.below HB1.out) (by have := HK.out.sm.1; simp at this; unfold maxLen; omega) (fun x hx => by have := HK.out.sm.sizes.2 x hx; unfold maxLen; omega)).mono ?_
  rintro e w2 ⟨rfl, hb⟩
  have HB2 : Hid (Below w.heap.size w w2) := HB1.out.trans (hb.mono HB1.out.size)
  have HR2 : Hid (RqAt w2 w.heap.size r) := HR1.out.below hb HR1.out.lt
  clear hb r0 r1 r2 r3 r4 r5 r6 r7 r8 r9
  obtain ⟨k, hk⟩ : ∃ k, k = checkH (r.xs.map hd) := ⟨_, rfl⟩
  rw [← hk]
  by_cases h0 : k = 0
  case neg =>
    have HF : Hid (fieldsI r.q = k) := by show _ = _; rw [hk] at h0 ⊢; exact fields_head H0.out H1.out h0
    clear hk
    go_wp2
    go_ret
    exact ⟨ret_int HF.out.symm, HB2.out⟩
  have HF : Hid (fieldsI r.q = numsI r.q) := by show _ = _; exact fields_nums H0.out H1.out (by rw [← h0, hk]; rfl)
  subst h0
  clear hk
  have HN : Hid (numsI r.q = if r.cl < 1 ∨ 6 < r.cl then 8 else if 600 < r.tm then 9 else if r.gr < 0 ∨ r.sg < 0 then 2 else 0) := rfl
  obtain ⟨r0, r1, r2, r3, r4, r5, r6, r7, r8, r9⟩ := HR2.out
  by_cases n1 : r.cl < 1
  case pos =>
    have HV : Hid (fieldsI r.q = 8) := by show _ = _; rw [HF.out, HN.out]; simp [n1]
    go_wp2
    go_ret
    exact ⟨ret_int HV.out.symm, HB2.out⟩
  by_cases n2 : 6 < r.cl
  case pos =>
    have HV : Hid (fieldsI r.q = 8) := by show _ = _; rw [HF.out, HN.out]; simp [n1, n2]
    go_wp2
    go_ret
    exact ⟨ret_int HV.out.symm, HB2.out⟩
  by_cases n3 : 600 < r.tm
  case pos =>
    have HV : Hid (fieldsI r.q = 9) := by show _ = _; rw [HF.out, HN.out]; simp [n1, n2, n3]
    go_wp2
    go_ret
    exact ⟨ret_int HV.out.symm, HB2.out⟩
  by_cases n4 : r.gr < 0
  case pos =>
    have HV : Hid (fieldsI r.q = 2) := by show _ = _; rw [HF.out, HN.out]; simp [n1, n2, n3, n4]
    go_wp2
    go_ret
    exact ⟨ret_int HV.out.symm, HB2.out⟩
  by_cases n5 : r.sg < 0
  case pos =>
    have HV : Hid (fieldsI r.q = 2) := by show _ = _; rw [HF.out, HN.out]; simp [n1, n2, n3, n4, n5]
    go_wp2
    go_ret
    exact ⟨ret_int HV.out.symm, HB2.out⟩
  have HV : Hid (fieldsI r.q = 0) := by show _ = _; rw [HF.out, HN.out]; simp [n1, n2, n3, n4, n5]
  go_wp2
  go_ret
  exact ⟨ret_int HV.out.symm, HB2.out⟩
end Go.Proofs.YticedcnmajcgbaaGreatDoor
