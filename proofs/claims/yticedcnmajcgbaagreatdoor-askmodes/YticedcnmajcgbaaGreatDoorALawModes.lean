/-
  The walk of the law AskModes: whatever the input, it returns true, and nothing that was there has turned. Conditions: the library's variables and the tables of methods are as they are laid.
-/
import Derived.Test.YticedcnmajcgbaaGreatDoorAAwake
namespace Go.Proofs.YticedcnmajcgbaaGreatDoor
open Go.RowKit

/-- what holds all through: the request in its block -/
structure MdF (w W : World) (r : Rv) : Prop where
  bel : Below w.heap.size w W
  env0 : Env8 w
  kr : RqOk W r
  ar : RqAt W w.heap.size r
theorem MdF.env {w W : World} {r : Rv} (h : MdF w W r) : Env8 W := h.env0.below h.bel
theorem MdF.next {w W W' : World} {r : Rv} (h : MdF w W r) (hb : Below W.heap.size W W') : MdF w W' r :=
  ⟨h.bel.trans (hb.mono h.bel.size), h.env0, h.kr.below hb, h.ar.below hb h.ar.lt⟩
theorem MdF.new {w : World} (he : Env8 w) (r : Rv) (t : TypeId) (h1 : r.n = 0) (h2 : r.xs = []) (hm : r.m.size ≤ maxLen) (hu : r.u.size ≤ maxLen) (ho : r.o.size ≤ maxLen) : MdF w (w.alloc (.cells #[.string r.m, .string r.u, .string r.o, .int .i64 r.mode, .bool r.cr, .slice r.A r.n r.c, .int .i64 r.cl, .int .u64 r.tm, .int .i64 r.gr, .int .i64 r.sg] t)) r :=
  ⟨(Below.refl _ _).alloc (Nat.le_refl _) _, he, RqOk.none_ _ h1 h2 hm hu ho, RqAt.new w r t⟩
theorem MdF.own {w : World} (he : Env8 w) (r : Rv) (t t' : TypeId) (hA : r.A = some ⟨w.heap.size + 1, 0, none⟩) (h1 : r.n = 1) (h2 : r.xs = [(⟨#[88, 45, 79, 119, 110]⟩, ⟨#[49]⟩)]) (hm : r.m.size ≤ maxLen) (hu : r.u.size ≤ maxLen) (ho : r.o.size ≤ maxLen) :
    MdF w ((w.alloc (.cells #[.string r.m, .string r.u, .string r.o, .int .i64 r.mode, .bool r.cr, .slice r.A r.n r.c, .int .i64 r.cl, .int .u64 r.tm, .int .i64 r.gr, .int .i64 r.sg] t)).alloc (.cells #[.string ⟨#[88, 45, 79, 119, 110]⟩, .string ⟨#[49]⟩] t')) r := by
  have e : (w.alloc (.cells #[.string r.m, .string r.u, .string r.o, .int .i64 r.mode, .bool r.cr, .slice r.A r.n r.c, .int .i64 r.cl, .int .u64 r.tm, .int .i64 r.gr, .int .i64 r.sg] t)).heap.size = w.heap.size + 1 := by simp
  have h3 := PRow.one_at (w.alloc (.cells #[.string r.m, .string r.u, .string r.o, .int .i64 r.mode, .bool r.cr, .slice r.A r.n r.c, .int .i64 r.cl, .int .u64 r.tm, .int .i64 r.gr, .int .i64 r.sg] t)) ⟨#[88, 45, 79, 119, 110]⟩ ⟨#[49]⟩ t' (w.heap.size + 1) e.symm
  refine ⟨((Below.refl _ _).alloc (Nat.le_refl _) _).alloc (by rw [e]; omega) _, he, ⟨?_, by rw [h1, h2]; rfl, ?_, hm, hu, ho⟩, (RqAt.new w r t).below ((Below.refl _ _).alloc (Nat.le_refl _) _) (RqAt.new w r t).lt⟩
  · rw [← hA, ← h2] at h3; exact h3.mono (by simp)
  · rw [h2]; exact ⟨by decide, by intro h hh; simp at hh; subst hh; decide⟩

def mdR0000 (_g : Nat) : Rv := ⟨⟨#[71, 69, 84]⟩, ⟨#[104, 116, 116, 112, 115, 58, 47, 47, 97, 46, 98, 47, 120]⟩, ⟨#[104, 116, 116, 112, 115, 58, 47, 47, 97, 46, 98]⟩, 1, false, none, 0, 0, [], 2, 0, 0, 0⟩
theorem md_ask0000 (g : Nat) : askI (mdR0000 g).q = 0 := by kernel_rfl
theorem md_need0000 (g : Nat) : needsQ (mdR0000 g).q = false := by kernel_rfl
theorem md_cross0000 (g : Nat) : crossQ (mdR0000 g).q = false := by kernel_rfl
set_option maxRecDepth 100000 in
set_option maxHeartbeats 4000000 in
theorem md_0000 (a1 : Int) (w : World) (hk : lowV a1 3 = 0) (he : Env8 w) :
    Calls Tryz.prog 5 #[.bool false, .int .i64 a1, .bool false, .bool false] w fun e w' => e = .returned (.bool true) ∧ Below w.heap.size w w' := by
  obtain ⟨w0, hW⟩ : ∃ W, W = (w.alloc (Obj.cells #[.string ⟨#[71, 69, 84]⟩, .string ⟨#[104, 116, 116, 112, 115, 58, 47, 47, 97, 46, 98, 47, 120]⟩, .string ⟨#[104, 116, 116, 112, 115, 58, 47, 47, 97, 46, 98]⟩, .int .i64 1, .bool false, .slice none 0 0, .int .i64 2, .int .u64 0, .int .i64 0, .int .i64 0] 25)) := ⟨_, rfl⟩
  have HN0 : Hid (MdF w w0 (mdR0000 w.heap.size)) := by rw [hW]; exact MdF.new he (mdR0000 w.heap.size) _ rfl rfl (by dsimp only [mdR0000]; decide) (by dsimp only [mdR0000]; decide) (by dsimp only [mdR0000]; decide)
  have HK := Lib.hid hk
  clear hk he
  go_enter Tryz.func5, Tryz.ntmps5
  go_wp2_with fail
  refine (Low_any a1 3 _ (by omega) (by omega)).mono ?_
  rintro e w' ⟨rfl, rfl⟩
  rw [HK.out]
  go_wp2_with fail
  rw [← hW]
  clear hW
  refine mix_start (fun W => MdF w W (mdR0000 w.heap.size)) (by kernel_rfl) ?_
  have hne : Nonempty (Held (fun W => MdF w W (mdR0000 w.heap.size))) := ⟨⟨_, HN0.out⟩⟩
  have zz0 : ∀ q : Held (fun W => MdF w W (mdR0000 w.heap.size)), q.w.cell? ⟨w.heap.size, 0, none⟩ = some (.string ⟨#[71, 69, 84]⟩) := fun q => q.h.ar.c0
  have zz1 : ∀ q : Held (fun W => MdF w W (mdR0000 w.heap.size)), q.w.cell? ⟨w.heap.size, 1, none⟩ = some (.string ⟨#[104, 116, 116, 112, 115, 58, 47, 47, 97, 46, 98, 47, 120]⟩) := fun q => q.h.ar.c1
  have zz2 : ∀ q : Held (fun W => MdF w W (mdR0000 w.heap.size)), q.w.cell? ⟨w.heap.size, 2, none⟩ = some (.string ⟨#[104, 116, 116, 112, 115, 58, 47, 47, 97, 46, 98]⟩) := fun q => q.h.ar.c2
  have zz3 : ∀ q : Held (fun W => MdF w W (mdR0000 w.heap.size)), q.w.cell? ⟨w.heap.size, 3, none⟩ = some (.int .i64 1) := fun q => q.h.ar.c3
  have zz4 : ∀ q : Held (fun W => MdF w W (mdR0000 w.heap.size)), q.w.cell? ⟨w.heap.size, 4, none⟩ = some (.bool false) := fun q => q.h.ar.c4
  have zz5 : ∀ q : Held (fun W => MdF w W (mdR0000 w.heap.size)), q.w.cell? ⟨w.heap.size, 5, none⟩ = some (.slice none 0 0) := fun q => q.h.ar.c5
  have zz6 : ∀ q : Held (fun W => MdF w W (mdR0000 w.heap.size)), q.w.cell? ⟨w.heap.size, 6, none⟩ = some (.int .i64 2) := fun q => q.h.ar.c6
  have zz7 : ∀ q : Held (fun W => MdF w W (mdR0000 w.heap.size)), q.w.cell? ⟨w.heap.size, 7, none⟩ = some (.int .u64 0) := fun q => q.h.ar.c7
  have zz8 : ∀ q : Held (fun W => MdF w W (mdR0000 w.heap.size)), q.w.cell? ⟨w.heap.size, 8, none⟩ = some (.int .i64 0) := fun q => q.h.ar.c8
  have zz9 : ∀ q : Held (fun W => MdF w W (mdR0000 w.heap.size)), q.w.cell? ⟨w.heap.size, 9, none⟩ = some (.int .i64 0) := fun q => q.h.ar.c9
  obtain ⟨w1, hwd⟩ : ∃ W, W = w0.drew := ⟨_, rfl⟩
  rw [← hwd]
  have hb : Below w0.heap.size w0 w1 := by rw [hwd]; exact (Below.refl _ _).drew
  have HN1 : Hid (MdF w w1 (mdR0000 w.heap.size)) := HN0.out.next hb
  clear hb hwd
  refine mix_seg [0] (by kernel_rfl) HN1.out ?_
  simp only [segOf, pickOps, pickOp]
  repeat (go_big_quiet_step (fail))
  refine wpQuiet_nil ?_
  refine mix_run 1 (by kernel_rfl) ?_
  simp only [segOf, pickOps, pickOp]
  go_wp2_with fail
  refine (aCheck_any (mdR0000 w.heap.size) _ HN1.out.kr HN1.out.env).mono ?_
  rintro e w2 ⟨rfl, hb⟩
  rw [md_ask0000]
  have HN2 : Hid (MdF w w2 (mdR0000 w.heap.size)) := HN1.out.next hb
  clear hb
  go_wp2_with fail
  refine MixPost.normal HN2.out ?_
  refine mix_seg [2, 3, 4, 6] (by kernel_rfl) HN2.out ?_
  simp only [segOf, pickOps, pickOp]
  repeat (go_big_quiet_step (fail))
  refine wpQuiet_nil ?_
  refine mix_run 5 (by kernel_rfl) ?_
  simp only [segOf, pickOps, pickOp]
  go_wp2_with fail
  refine (aCross_any (mdR0000 w.heap.size) _ HN2.out.kr HN2.out.env).mono ?_
  rintro e w3 ⟨rfl, hb⟩
  rw [md_cross0000]
  have HN3 : Hid (MdF w w3 (mdR0000 w.heap.size)) := HN2.out.next hb
  clear hb
  go_wp2_with fail
  refine MixPost.normal HN3.out ?_
  refine mix_seg [7, 8, 9, 10, 12, 13, 14] (by kernel_rfl) HN3.out ?_
  simp only [segOf, pickOps, pickOp]
  repeat (go_big_quiet_step (fail))
  refine wpQuiet_nil ?_
  refine mix_run 11 (by kernel_rfl) ?_
  simp only [segOf, pickOps, pickOp]
  go_wp2_with fail
  refine (aNeeds_any (mdR0000 w.heap.size) _ HN3.out.kr HN3.out.env).mono ?_
  rintro e w4 ⟨rfl, hb⟩
  rw [md_need0000]
  have HN4 : Hid (MdF w w4 (mdR0000 w.heap.size)) := HN3.out.next hb
  clear hb
  go_wp2_with fail
  refine MixPost.normal HN4.out ?_
  refine mix_seg [15, 16, 17, 18, 19, 20, 21, 22, 23, 24, 25, 26] (by kernel_rfl) HN4.out ?_
  simp only [segOf, pickOps, pickOp]
  repeat (go_big_quiet_step (fail))
  refine wpQuiet_nil ?_
  refine mix_run 27 (by kernel_rfl) ?_
  simp only [segOf, pickOps, pickOp]
  go_wp2_with fail
  refine (awake8_any _ HN4.out.env).mono ?_
  rintro e w5 ⟨rfl, hb⟩
  have HN5 : Hid (MdF w w5 (mdR0000 w.heap.size)) := HN4.out.next hb
  clear hb
  go_wp2_with fail
  refine MixPost.normal HN5.out ?_
  refine mix_seg [28, 29] (by kernel_rfl) HN5.out ?_
  simp only [segOf, pickOps, pickOp]
  repeat (go_big_quiet_step (fail))
  refine wpQuiet_nil ?_
  refine mix_done (by kernel_rfl) ?_
  go_wp2
  go_ret
  exact ⟨rfl, HN5.out.bel⟩

def mdR0001 (_g : Nat) : Rv := ⟨⟨#[71, 69, 84]⟩, ⟨#[104, 116, 116, 112, 115, 58, 47, 47, 97, 46, 98, 47, 120]⟩, ⟨#[104, 116, 116, 112, 115, 58, 47, 47, 97, 46, 98]⟩, 2, false, none, 0, 0, [], 2, 0, 0, 0⟩
theorem md_ask0001 (g : Nat) : askI (mdR0001 g).q = 0 := by kernel_rfl
theorem md_need0001 (g : Nat) : needsQ (mdR0001 g).q = false := by kernel_rfl
theorem md_cross0001 (g : Nat) : crossQ (mdR0001 g).q = false := by kernel_rfl
set_option maxRecDepth 100000 in
set_option maxHeartbeats 4000000 in
theorem md_0001 (a1 : Int) (w : World) (hk : lowV a1 3 = 1) (he : Env8 w) :
    Calls Tryz.prog 5 #[.bool false, .int .i64 a1, .bool false, .bool false] w fun e w' => e = .returned (.bool true) ∧ Below w.heap.size w w' := by
  obtain ⟨w0, hW⟩ : ∃ W, W = (w.alloc (Obj.cells #[.string ⟨#[71, 69, 84]⟩, .string ⟨#[104, 116, 116, 112, 115, 58, 47, 47, 97, 46, 98, 47, 120]⟩, .string ⟨#[104, 116, 116, 112, 115, 58, 47, 47, 97, 46, 98]⟩, .int .i64 2, .bool false, .slice none 0 0, .int .i64 2, .int .u64 0, .int .i64 0, .int .i64 0] 25)) := ⟨_, rfl⟩
  have HN0 : Hid (MdF w w0 (mdR0001 w.heap.size)) := by rw [hW]; exact MdF.new he (mdR0001 w.heap.size) _ rfl rfl (by dsimp only [mdR0001]; decide) (by dsimp only [mdR0001]; decide) (by dsimp only [mdR0001]; decide)
  have HK := Lib.hid hk
  clear hk he
  go_enter Tryz.func5, Tryz.ntmps5
  go_wp2_with fail
  refine (Low_any a1 3 _ (by omega) (by omega)).mono ?_
  rintro e w' ⟨rfl, rfl⟩
  rw [HK.out]
  go_wp2_with fail
  rw [← hW]
  clear hW
  refine mix_start (fun W => MdF w W (mdR0001 w.heap.size)) (by kernel_rfl) ?_
  have hne : Nonempty (Held (fun W => MdF w W (mdR0001 w.heap.size))) := ⟨⟨_, HN0.out⟩⟩
  have zz0 : ∀ q : Held (fun W => MdF w W (mdR0001 w.heap.size)), q.w.cell? ⟨w.heap.size, 0, none⟩ = some (.string ⟨#[71, 69, 84]⟩) := fun q => q.h.ar.c0
  have zz1 : ∀ q : Held (fun W => MdF w W (mdR0001 w.heap.size)), q.w.cell? ⟨w.heap.size, 1, none⟩ = some (.string ⟨#[104, 116, 116, 112, 115, 58, 47, 47, 97, 46, 98, 47, 120]⟩) := fun q => q.h.ar.c1
  have zz2 : ∀ q : Held (fun W => MdF w W (mdR0001 w.heap.size)), q.w.cell? ⟨w.heap.size, 2, none⟩ = some (.string ⟨#[104, 116, 116, 112, 115, 58, 47, 47, 97, 46, 98]⟩) := fun q => q.h.ar.c2
  have zz3 : ∀ q : Held (fun W => MdF w W (mdR0001 w.heap.size)), q.w.cell? ⟨w.heap.size, 3, none⟩ = some (.int .i64 2) := fun q => q.h.ar.c3
  have zz4 : ∀ q : Held (fun W => MdF w W (mdR0001 w.heap.size)), q.w.cell? ⟨w.heap.size, 4, none⟩ = some (.bool false) := fun q => q.h.ar.c4
  have zz5 : ∀ q : Held (fun W => MdF w W (mdR0001 w.heap.size)), q.w.cell? ⟨w.heap.size, 5, none⟩ = some (.slice none 0 0) := fun q => q.h.ar.c5
  have zz6 : ∀ q : Held (fun W => MdF w W (mdR0001 w.heap.size)), q.w.cell? ⟨w.heap.size, 6, none⟩ = some (.int .i64 2) := fun q => q.h.ar.c6
  have zz7 : ∀ q : Held (fun W => MdF w W (mdR0001 w.heap.size)), q.w.cell? ⟨w.heap.size, 7, none⟩ = some (.int .u64 0) := fun q => q.h.ar.c7
  have zz8 : ∀ q : Held (fun W => MdF w W (mdR0001 w.heap.size)), q.w.cell? ⟨w.heap.size, 8, none⟩ = some (.int .i64 0) := fun q => q.h.ar.c8
  have zz9 : ∀ q : Held (fun W => MdF w W (mdR0001 w.heap.size)), q.w.cell? ⟨w.heap.size, 9, none⟩ = some (.int .i64 0) := fun q => q.h.ar.c9
  obtain ⟨w1, hwd⟩ : ∃ W, W = w0.drew := ⟨_, rfl⟩
  rw [← hwd]
  have hb : Below w0.heap.size w0 w1 := by rw [hwd]; exact (Below.refl _ _).drew
  have HN1 : Hid (MdF w w1 (mdR0001 w.heap.size)) := HN0.out.next hb
  clear hb hwd
  refine mix_seg [0] (by kernel_rfl) HN1.out ?_
  simp only [segOf, pickOps, pickOp]
  repeat (go_big_quiet_step (fail))
  refine wpQuiet_nil ?_
  refine mix_run 1 (by kernel_rfl) ?_
  simp only [segOf, pickOps, pickOp]
  go_wp2_with fail
  refine (aCheck_any (mdR0001 w.heap.size) _ HN1.out.kr HN1.out.env).mono ?_
  rintro e w2 ⟨rfl, hb⟩
  rw [md_ask0001]
  have HN2 : Hid (MdF w w2 (mdR0001 w.heap.size)) := HN1.out.next hb
  clear hb
  go_wp2_with fail
  refine MixPost.normal HN2.out ?_
  refine mix_seg [2, 3, 4, 6] (by kernel_rfl) HN2.out ?_
  simp only [segOf, pickOps, pickOp]
  repeat (go_big_quiet_step (fail))
  refine wpQuiet_nil ?_
  refine mix_run 5 (by kernel_rfl) ?_
  simp only [segOf, pickOps, pickOp]
  go_wp2_with fail
  refine (aCross_any (mdR0001 w.heap.size) _ HN2.out.kr HN2.out.env).mono ?_
  rintro e w3 ⟨rfl, hb⟩
  rw [md_cross0001]
  have HN3 : Hid (MdF w w3 (mdR0001 w.heap.size)) := HN2.out.next hb
  clear hb
  go_wp2_with fail
  refine MixPost.normal HN3.out ?_
  refine mix_seg [7, 8, 9, 10, 12, 13, 14] (by kernel_rfl) HN3.out ?_
  simp only [segOf, pickOps, pickOp]
  repeat (go_big_quiet_step (fail))
  refine wpQuiet_nil ?_
  refine mix_run 11 (by kernel_rfl) ?_
  simp only [segOf, pickOps, pickOp]
  go_wp2_with fail
  refine (aNeeds_any (mdR0001 w.heap.size) _ HN3.out.kr HN3.out.env).mono ?_
  rintro e w4 ⟨rfl, hb⟩
  rw [md_need0001]
  have HN4 : Hid (MdF w w4 (mdR0001 w.heap.size)) := HN3.out.next hb
  clear hb
  go_wp2_with fail
  refine MixPost.normal HN4.out ?_
  refine mix_seg [15, 16, 17, 18, 19, 20, 21, 22, 23, 24, 25, 26] (by kernel_rfl) HN4.out ?_
  simp only [segOf, pickOps, pickOp]
  repeat (go_big_quiet_step (fail))
  refine wpQuiet_nil ?_
  refine mix_run 27 (by kernel_rfl) ?_
  simp only [segOf, pickOps, pickOp]
  go_wp2_with fail
  refine (awake8_any _ HN4.out.env).mono ?_
  rintro e w5 ⟨rfl, hb⟩
  have HN5 : Hid (MdF w w5 (mdR0001 w.heap.size)) := HN4.out.next hb
  clear hb
  go_wp2_with fail
  refine MixPost.normal HN5.out ?_
  refine mix_seg [28, 29] (by kernel_rfl) HN5.out ?_
  simp only [segOf, pickOps, pickOp]
  repeat (go_big_quiet_step (fail))
  refine wpQuiet_nil ?_
  refine mix_done (by kernel_rfl) ?_
  go_wp2
  go_ret
  exact ⟨rfl, HN5.out.bel⟩

def mdR0002 (_g : Nat) : Rv := ⟨⟨#[71, 69, 84]⟩, ⟨#[104, 116, 116, 112, 115, 58, 47, 47, 97, 46, 98, 47, 120]⟩, ⟨#[104, 116, 116, 112, 115, 58, 47, 47, 97, 46, 98]⟩, 3, false, none, 0, 0, [], 2, 0, 0, 0⟩
theorem md_ask0002 (g : Nat) : askI (mdR0002 g).q = 0 := by kernel_rfl
theorem md_need0002 (g : Nat) : needsQ (mdR0002 g).q = false := by kernel_rfl
theorem md_cross0002 (g : Nat) : crossQ (mdR0002 g).q = false := by kernel_rfl
set_option maxRecDepth 100000 in
set_option maxHeartbeats 4000000 in
theorem md_0002 (a1 : Int) (w : World) (hk : lowV a1 3 = 2) (he : Env8 w) :
    Calls Tryz.prog 5 #[.bool false, .int .i64 a1, .bool false, .bool false] w fun e w' => e = .returned (.bool true) ∧ Below w.heap.size w w' := by
  obtain ⟨w0, hW⟩ : ∃ W, W = (w.alloc (Obj.cells #[.string ⟨#[71, 69, 84]⟩, .string ⟨#[104, 116, 116, 112, 115, 58, 47, 47, 97, 46, 98, 47, 120]⟩, .string ⟨#[104, 116, 116, 112, 115, 58, 47, 47, 97, 46, 98]⟩, .int .i64 3, .bool false, .slice none 0 0, .int .i64 2, .int .u64 0, .int .i64 0, .int .i64 0] 25)) := ⟨_, rfl⟩
  have HN0 : Hid (MdF w w0 (mdR0002 w.heap.size)) := by rw [hW]; exact MdF.new he (mdR0002 w.heap.size) _ rfl rfl (by dsimp only [mdR0002]; decide) (by dsimp only [mdR0002]; decide) (by dsimp only [mdR0002]; decide)
  have HK := Lib.hid hk
  clear hk he
  go_enter Tryz.func5, Tryz.ntmps5
  go_wp2_with fail
  refine (Low_any a1 3 _ (by omega) (by omega)).mono ?_
  rintro e w' ⟨rfl, rfl⟩
  rw [HK.out]
  go_wp2_with fail
  rw [← hW]
  clear hW
  refine mix_start (fun W => MdF w W (mdR0002 w.heap.size)) (by kernel_rfl) ?_
  have hne : Nonempty (Held (fun W => MdF w W (mdR0002 w.heap.size))) := ⟨⟨_, HN0.out⟩⟩
  have zz0 : ∀ q : Held (fun W => MdF w W (mdR0002 w.heap.size)), q.w.cell? ⟨w.heap.size, 0, none⟩ = some (.string ⟨#[71, 69, 84]⟩) := fun q => q.h.ar.c0
  have zz1 : ∀ q : Held (fun W => MdF w W (mdR0002 w.heap.size)), q.w.cell? ⟨w.heap.size, 1, none⟩ = some (.string ⟨#[104, 116, 116, 112, 115, 58, 47, 47, 97, 46, 98, 47, 120]⟩) := fun q => q.h.ar.c1
  have zz2 : ∀ q : Held (fun W => MdF w W (mdR0002 w.heap.size)), q.w.cell? ⟨w.heap.size, 2, none⟩ = some (.string ⟨#[104, 116, 116, 112, 115, 58, 47, 47, 97, 46, 98]⟩) := fun q => q.h.ar.c2
  have zz3 : ∀ q : Held (fun W => MdF w W (mdR0002 w.heap.size)), q.w.cell? ⟨w.heap.size, 3, none⟩ = some (.int .i64 3) := fun q => q.h.ar.c3
  have zz4 : ∀ q : Held (fun W => MdF w W (mdR0002 w.heap.size)), q.w.cell? ⟨w.heap.size, 4, none⟩ = some (.bool false) := fun q => q.h.ar.c4
  have zz5 : ∀ q : Held (fun W => MdF w W (mdR0002 w.heap.size)), q.w.cell? ⟨w.heap.size, 5, none⟩ = some (.slice none 0 0) := fun q => q.h.ar.c5
  have zz6 : ∀ q : Held (fun W => MdF w W (mdR0002 w.heap.size)), q.w.cell? ⟨w.heap.size, 6, none⟩ = some (.int .i64 2) := fun q => q.h.ar.c6
  have zz7 : ∀ q : Held (fun W => MdF w W (mdR0002 w.heap.size)), q.w.cell? ⟨w.heap.size, 7, none⟩ = some (.int .u64 0) := fun q => q.h.ar.c7
  have zz8 : ∀ q : Held (fun W => MdF w W (mdR0002 w.heap.size)), q.w.cell? ⟨w.heap.size, 8, none⟩ = some (.int .i64 0) := fun q => q.h.ar.c8
  have zz9 : ∀ q : Held (fun W => MdF w W (mdR0002 w.heap.size)), q.w.cell? ⟨w.heap.size, 9, none⟩ = some (.int .i64 0) := fun q => q.h.ar.c9
  obtain ⟨w1, hwd⟩ : ∃ W, W = w0.drew := ⟨_, rfl⟩
  rw [← hwd]
  have hb : Below w0.heap.size w0 w1 := by rw [hwd]; exact (Below.refl _ _).drew
  have HN1 : Hid (MdF w w1 (mdR0002 w.heap.size)) := HN0.out.next hb
  clear hb hwd
  refine mix_seg [0] (by kernel_rfl) HN1.out ?_
  simp only [segOf, pickOps, pickOp]
  repeat (go_big_quiet_step (fail))
  refine wpQuiet_nil ?_
  refine mix_run 1 (by kernel_rfl) ?_
  simp only [segOf, pickOps, pickOp]
  go_wp2_with fail
  refine (aCheck_any (mdR0002 w.heap.size) _ HN1.out.kr HN1.out.env).mono ?_
  rintro e w2 ⟨rfl, hb⟩
  rw [md_ask0002]
  have HN2 : Hid (MdF w w2 (mdR0002 w.heap.size)) := HN1.out.next hb
  clear hb
  go_wp2_with fail
  refine MixPost.normal HN2.out ?_
  refine mix_seg [2, 3, 4, 6] (by kernel_rfl) HN2.out ?_
  simp only [segOf, pickOps, pickOp]
  repeat (go_big_quiet_step (fail))
  refine wpQuiet_nil ?_
  refine mix_run 5 (by kernel_rfl) ?_
  simp only [segOf, pickOps, pickOp]
  go_wp2_with fail
  refine (aCross_any (mdR0002 w.heap.size) _ HN2.out.kr HN2.out.env).mono ?_
  rintro e w3 ⟨rfl, hb⟩
  rw [md_cross0002]
  have HN3 : Hid (MdF w w3 (mdR0002 w.heap.size)) := HN2.out.next hb
  clear hb
  go_wp2_with fail
  refine MixPost.normal HN3.out ?_
  refine mix_seg [7, 8, 9, 10, 12, 13, 14] (by kernel_rfl) HN3.out ?_
  simp only [segOf, pickOps, pickOp]
  repeat (go_big_quiet_step (fail))
  refine wpQuiet_nil ?_
  refine mix_run 11 (by kernel_rfl) ?_
  simp only [segOf, pickOps, pickOp]
  go_wp2_with fail
  refine (aNeeds_any (mdR0002 w.heap.size) _ HN3.out.kr HN3.out.env).mono ?_
  rintro e w4 ⟨rfl, hb⟩
  rw [md_need0002]
  have HN4 : Hid (MdF w w4 (mdR0002 w.heap.size)) := HN3.out.next hb
  clear hb
  go_wp2_with fail
  refine MixPost.normal HN4.out ?_
  refine mix_seg [15, 16, 17, 18, 19, 20, 21, 22, 23, 24, 25, 26] (by kernel_rfl) HN4.out ?_
  simp only [segOf, pickOps, pickOp]
  repeat (go_big_quiet_step (fail))
  refine wpQuiet_nil ?_
  refine mix_run 27 (by kernel_rfl) ?_
  simp only [segOf, pickOps, pickOp]
  go_wp2_with fail
  refine (awake8_any _ HN4.out.env).mono ?_
  rintro e w5 ⟨rfl, hb⟩
  have HN5 : Hid (MdF w w5 (mdR0002 w.heap.size)) := HN4.out.next hb
  clear hb
  go_wp2_with fail
  refine MixPost.normal HN5.out ?_
  refine mix_seg [28, 29] (by kernel_rfl) HN5.out ?_
  simp only [segOf, pickOps, pickOp]
  repeat (go_big_quiet_step (fail))
  refine wpQuiet_nil ?_
  refine mix_done (by kernel_rfl) ?_
  go_wp2
  go_ret
  exact ⟨rfl, HN5.out.bel⟩

def mdR0010 (g : Nat) : Rv := ⟨⟨#[71, 69, 84]⟩, ⟨#[104, 116, 116, 112, 115, 58, 47, 47, 97, 46, 98, 47, 120]⟩, ⟨#[104, 116, 116, 112, 115, 58, 47, 47, 97, 46, 98]⟩, 1, false, some ⟨g + 1, 0, none⟩, 1, 1, [(⟨#[88, 45, 79, 119, 110]⟩, ⟨#[49]⟩)], 2, 0, 0, 0⟩
theorem md_ask0010 (g : Nat) : askI (mdR0010 g).q = 0 := by kernel_rfl
theorem md_need0010 (g : Nat) : needsQ (mdR0010 g).q = false := by kernel_rfl
theorem md_cross0010 (g : Nat) : crossQ (mdR0010 g).q = false := by kernel_rfl
set_option maxRecDepth 100000 in
set_option maxHeartbeats 4000000 in
theorem md_0010 (a1 : Int) (w : World) (hk : lowV a1 3 = 0) (he : Env8 w) :
    Calls Tryz.prog 5 #[.bool false, .int .i64 a1, .bool false, .bool true] w fun e w' => e = .returned (.bool true) ∧ Below w.heap.size w w' := by
  obtain ⟨w0, hW⟩ : ∃ W, W = (w.alloc (Obj.cells #[.string ⟨#[71, 69, 84]⟩, .string ⟨#[104, 116, 116, 112, 115, 58, 47, 47, 97, 46, 98, 47, 120]⟩, .string ⟨#[104, 116, 116, 112, 115, 58, 47, 47, 97, 46, 98]⟩, .int .i64 1, .bool false, .slice (some ⟨w.heap.size + 1, 0, none⟩) 1 1, .int .i64 2, .int .u64 0, .int .i64 0, .int .i64 0] 25)).alloc (Obj.cells #[.string ⟨#[88, 45, 79, 119, 110]⟩, .string ⟨#[49]⟩] 44) := ⟨_, rfl⟩
  have HN0 : Hid (MdF w w0 (mdR0010 w.heap.size)) := by rw [hW]; exact MdF.own he (mdR0010 w.heap.size) _ _ rfl rfl rfl (by dsimp only [mdR0010]; decide) (by dsimp only [mdR0010]; decide) (by dsimp only [mdR0010]; decide)
  have HK := Lib.hid hk
  clear hk he
  go_enter Tryz.func5, Tryz.ntmps5
  go_wp2_with fail
  refine (Low_any a1 3 _ (by omega) (by omega)).mono ?_
  rintro e w' ⟨rfl, rfl⟩
  rw [HK.out]
  go_wp2_with fail
  rw [← hW]
  clear hW
  refine mix_start (fun W => MdF w W (mdR0010 w.heap.size)) (by kernel_rfl) ?_
  have hne : Nonempty (Held (fun W => MdF w W (mdR0010 w.heap.size))) := ⟨⟨_, HN0.out⟩⟩
  have zz0 : ∀ q : Held (fun W => MdF w W (mdR0010 w.heap.size)), q.w.cell? ⟨w.heap.size, 0, none⟩ = some (.string ⟨#[71, 69, 84]⟩) := fun q => q.h.ar.c0
  have zz1 : ∀ q : Held (fun W => MdF w W (mdR0010 w.heap.size)), q.w.cell? ⟨w.heap.size, 1, none⟩ = some (.string ⟨#[104, 116, 116, 112, 115, 58, 47, 47, 97, 46, 98, 47, 120]⟩) := fun q => q.h.ar.c1
  have zz2 : ∀ q : Held (fun W => MdF w W (mdR0010 w.heap.size)), q.w.cell? ⟨w.heap.size, 2, none⟩ = some (.string ⟨#[104, 116, 116, 112, 115, 58, 47, 47, 97, 46, 98]⟩) := fun q => q.h.ar.c2
  have zz3 : ∀ q : Held (fun W => MdF w W (mdR0010 w.heap.size)), q.w.cell? ⟨w.heap.size, 3, none⟩ = some (.int .i64 1) := fun q => q.h.ar.c3
  have zz4 : ∀ q : Held (fun W => MdF w W (mdR0010 w.heap.size)), q.w.cell? ⟨w.heap.size, 4, none⟩ = some (.bool false) := fun q => q.h.ar.c4
  have zz5 : ∀ q : Held (fun W => MdF w W (mdR0010 w.heap.size)), q.w.cell? ⟨w.heap.size, 5, none⟩ = some (.slice (some ⟨w.heap.size + 1, 0, none⟩) 1 1) := fun q => q.h.ar.c5
  have zz6 : ∀ q : Held (fun W => MdF w W (mdR0010 w.heap.size)), q.w.cell? ⟨w.heap.size, 6, none⟩ = some (.int .i64 2) := fun q => q.h.ar.c6
  have zz7 : ∀ q : Held (fun W => MdF w W (mdR0010 w.heap.size)), q.w.cell? ⟨w.heap.size, 7, none⟩ = some (.int .u64 0) := fun q => q.h.ar.c7
  have zz8 : ∀ q : Held (fun W => MdF w W (mdR0010 w.heap.size)), q.w.cell? ⟨w.heap.size, 8, none⟩ = some (.int .i64 0) := fun q => q.h.ar.c8
  have zz9 : ∀ q : Held (fun W => MdF w W (mdR0010 w.heap.size)), q.w.cell? ⟨w.heap.size, 9, none⟩ = some (.int .i64 0) := fun q => q.h.ar.c9
  obtain ⟨w1, hwd⟩ : ∃ W, W = w0.drew := ⟨_, rfl⟩
  rw [← hwd]
  have hb : Below w0.heap.size w0 w1 := by rw [hwd]; exact (Below.refl _ _).drew
  have HN1 : Hid (MdF w w1 (mdR0010 w.heap.size)) := HN0.out.next hb
  clear hb hwd
  refine mix_seg [0] (by kernel_rfl) HN1.out ?_
  simp only [segOf, pickOps, pickOp]
  repeat (go_big_quiet_step (fail))
  refine wpQuiet_nil ?_
  refine mix_run 1 (by kernel_rfl) ?_
  simp only [segOf, pickOps, pickOp]
  go_wp2_with fail
  refine (aCheck_any (mdR0010 w.heap.size) _ HN1.out.kr HN1.out.env).mono ?_
  rintro e w2 ⟨rfl, hb⟩
  rw [md_ask0010]
  have HN2 : Hid (MdF w w2 (mdR0010 w.heap.size)) := HN1.out.next hb
  clear hb
  go_wp2_with fail
  refine MixPost.normal HN2.out ?_
  refine mix_seg [2, 3, 4, 6] (by kernel_rfl) HN2.out ?_
  simp only [segOf, pickOps, pickOp]
  repeat (go_big_quiet_step (fail))
  refine wpQuiet_nil ?_
  refine mix_run 5 (by kernel_rfl) ?_
  simp only [segOf, pickOps, pickOp]
  go_wp2_with fail
  refine (aCross_any (mdR0010 w.heap.size) _ HN2.out.kr HN2.out.env).mono ?_
  rintro e w3 ⟨rfl, hb⟩
  rw [md_cross0010]
  have HN3 : Hid (MdF w w3 (mdR0010 w.heap.size)) := HN2.out.next hb
  clear hb
  go_wp2_with fail
  refine MixPost.normal HN3.out ?_
  refine mix_seg [7, 8, 9, 10, 12, 13, 14] (by kernel_rfl) HN3.out ?_
  simp only [segOf, pickOps, pickOp]
  repeat (go_big_quiet_step (fail))
  refine wpQuiet_nil ?_
  refine mix_run 11 (by kernel_rfl) ?_
  simp only [segOf, pickOps, pickOp]
  go_wp2_with fail
  refine (aNeeds_any (mdR0010 w.heap.size) _ HN3.out.kr HN3.out.env).mono ?_
  rintro e w4 ⟨rfl, hb⟩
  rw [md_need0010]
  have HN4 : Hid (MdF w w4 (mdR0010 w.heap.size)) := HN3.out.next hb
  clear hb
  go_wp2_with fail
  refine MixPost.normal HN4.out ?_
  refine mix_seg [15, 16, 17, 18, 19, 20, 21, 22, 23, 24, 25, 26] (by kernel_rfl) HN4.out ?_
  simp only [segOf, pickOps, pickOp]
  repeat (go_big_quiet_step (fail))
  refine wpQuiet_nil ?_
  refine mix_run 27 (by kernel_rfl) ?_
  simp only [segOf, pickOps, pickOp]
  go_wp2_with fail
  refine (awake8_any _ HN4.out.env).mono ?_
  rintro e w5 ⟨rfl, hb⟩
  have HN5 : Hid (MdF w w5 (mdR0010 w.heap.size)) := HN4.out.next hb
  clear hb
  go_wp2_with fail
  refine MixPost.normal HN5.out ?_
  refine mix_seg [28, 29] (by kernel_rfl) HN5.out ?_
  simp only [segOf, pickOps, pickOp]
  repeat (go_big_quiet_step (fail))
  refine wpQuiet_nil ?_
  refine mix_done (by kernel_rfl) ?_
  go_wp2
  go_ret
  exact ⟨rfl, HN5.out.bel⟩

def mdR0011 (g : Nat) : Rv := ⟨⟨#[71, 69, 84]⟩, ⟨#[104, 116, 116, 112, 115, 58, 47, 47, 97, 46, 98, 47, 120]⟩, ⟨#[104, 116, 116, 112, 115, 58, 47, 47, 97, 46, 98]⟩, 2, false, some ⟨g + 1, 0, none⟩, 1, 1, [(⟨#[88, 45, 79, 119, 110]⟩, ⟨#[49]⟩)], 2, 0, 0, 0⟩
theorem md_ask0011 (g : Nat) : askI (mdR0011 g).q = 7 := by kernel_rfl
theorem md_need0011 (g : Nat) : needsQ (mdR0011 g).q = false := by kernel_rfl
set_option maxRecDepth 100000 in
set_option maxHeartbeats 4000000 in
theorem md_0011 (a1 : Int) (w : World) (hk : lowV a1 3 = 1) (he : Env8 w) :
    Calls Tryz.prog 5 #[.bool false, .int .i64 a1, .bool false, .bool true] w fun e w' => e = .returned (.bool true) ∧ Below w.heap.size w w' := by
  obtain ⟨w0, hW⟩ : ∃ W, W = (w.alloc (Obj.cells #[.string ⟨#[71, 69, 84]⟩, .string ⟨#[104, 116, 116, 112, 115, 58, 47, 47, 97, 46, 98, 47, 120]⟩, .string ⟨#[104, 116, 116, 112, 115, 58, 47, 47, 97, 46, 98]⟩, .int .i64 2, .bool false, .slice (some ⟨w.heap.size + 1, 0, none⟩) 1 1, .int .i64 2, .int .u64 0, .int .i64 0, .int .i64 0] 25)).alloc (Obj.cells #[.string ⟨#[88, 45, 79, 119, 110]⟩, .string ⟨#[49]⟩] 44) := ⟨_, rfl⟩
  have HN0 : Hid (MdF w w0 (mdR0011 w.heap.size)) := by rw [hW]; exact MdF.own he (mdR0011 w.heap.size) _ _ rfl rfl rfl (by dsimp only [mdR0011]; decide) (by dsimp only [mdR0011]; decide) (by dsimp only [mdR0011]; decide)
  have HK := Lib.hid hk
  clear hk he
  go_enter Tryz.func5, Tryz.ntmps5
  go_wp2_with fail
  refine (Low_any a1 3 _ (by omega) (by omega)).mono ?_
  rintro e w' ⟨rfl, rfl⟩
  rw [HK.out]
  go_wp2_with fail
  rw [← hW]
  clear hW
  refine (aCheck_any (mdR0011 w.heap.size) _ HN0.out.kr HN0.out.env).mono ?_
  rintro e w1 ⟨rfl, hb⟩
  rw [md_ask0011]
  have HN1 : Hid (MdF w w1 (mdR0011 w.heap.size)) := HN0.out.next hb
  clear hb
  obtain ⟨r0, r1, r2, r3, r4, r5, r6, r7, r8, r9⟩ := HN1.out.ar
  dsimp only [mdR0011] at r0 r1 r2 r3 r4 r5 r6 r7 r8 r9
  go_wp2_with fail
  refine (aNeeds_any (mdR0011 w.heap.size) _ HN1.out.kr HN1.out.env).mono ?_
  rintro e w2 ⟨rfl, hb⟩
  rw [md_need0011]
  have HN2 : Hid (MdF w w2 (mdR0011 w.heap.size)) := HN1.out.next hb
  clear hb r0 r1 r2 r3 r4 r5 r6 r7 r8 r9
  go_wp2_with fail
  refine (awake8_any _ HN2.out.env).mono ?_
  rintro e w3 ⟨rfl, hb⟩
  go_wp2
  go_ret
  exact ⟨rfl, HN2.out.bel.trans (hb.mono HN2.out.bel.size)⟩

def mdR0012 (g : Nat) : Rv := ⟨⟨#[71, 69, 84]⟩, ⟨#[104, 116, 116, 112, 115, 58, 47, 47, 97, 46, 98, 47, 120]⟩, ⟨#[104, 116, 116, 112, 115, 58, 47, 47, 97, 46, 98]⟩, 3, false, some ⟨g + 1, 0, none⟩, 1, 1, [(⟨#[88, 45, 79, 119, 110]⟩, ⟨#[49]⟩)], 2, 0, 0, 0⟩
theorem md_ask0012 (g : Nat) : askI (mdR0012 g).q = 0 := by kernel_rfl
theorem md_need0012 (g : Nat) : needsQ (mdR0012 g).q = false := by kernel_rfl
theorem md_cross0012 (g : Nat) : crossQ (mdR0012 g).q = false := by kernel_rfl
set_option maxRecDepth 100000 in
set_option maxHeartbeats 4000000 in
theorem md_0012 (a1 : Int) (w : World) (hk : lowV a1 3 = 2) (he : Env8 w) :
    Calls Tryz.prog 5 #[.bool false, .int .i64 a1, .bool false, .bool true] w fun e w' => e = .returned (.bool true) ∧ Below w.heap.size w w' := by
  obtain ⟨w0, hW⟩ : ∃ W, W = (w.alloc (Obj.cells #[.string ⟨#[71, 69, 84]⟩, .string ⟨#[104, 116, 116, 112, 115, 58, 47, 47, 97, 46, 98, 47, 120]⟩, .string ⟨#[104, 116, 116, 112, 115, 58, 47, 47, 97, 46, 98]⟩, .int .i64 3, .bool false, .slice (some ⟨w.heap.size + 1, 0, none⟩) 1 1, .int .i64 2, .int .u64 0, .int .i64 0, .int .i64 0] 25)).alloc (Obj.cells #[.string ⟨#[88, 45, 79, 119, 110]⟩, .string ⟨#[49]⟩] 44) := ⟨_, rfl⟩
  have HN0 : Hid (MdF w w0 (mdR0012 w.heap.size)) := by rw [hW]; exact MdF.own he (mdR0012 w.heap.size) _ _ rfl rfl rfl (by dsimp only [mdR0012]; decide) (by dsimp only [mdR0012]; decide) (by dsimp only [mdR0012]; decide)
  have HK := Lib.hid hk
  clear hk he
  go_enter Tryz.func5, Tryz.ntmps5
  go_wp2_with fail
  refine (Low_any a1 3 _ (by omega) (by omega)).mono ?_
  rintro e w' ⟨rfl, rfl⟩
  rw [HK.out]
  go_wp2_with fail
  rw [← hW]
  clear hW
  refine mix_start (fun W => MdF w W (mdR0012 w.heap.size)) (by kernel_rfl) ?_
  have hne : Nonempty (Held (fun W => MdF w W (mdR0012 w.heap.size))) := ⟨⟨_, HN0.out⟩⟩
  have zz0 : ∀ q : Held (fun W => MdF w W (mdR0012 w.heap.size)), q.w.cell? ⟨w.heap.size, 0, none⟩ = some (.string ⟨#[71, 69, 84]⟩) := fun q => q.h.ar.c0
  have zz1 : ∀ q : Held (fun W => MdF w W (mdR0012 w.heap.size)), q.w.cell? ⟨w.heap.size, 1, none⟩ = some (.string ⟨#[104, 116, 116, 112, 115, 58, 47, 47, 97, 46, 98, 47, 120]⟩) := fun q => q.h.ar.c1
  have zz2 : ∀ q : Held (fun W => MdF w W (mdR0012 w.heap.size)), q.w.cell? ⟨w.heap.size, 2, none⟩ = some (.string ⟨#[104, 116, 116, 112, 115, 58, 47, 47, 97, 46, 98]⟩) := fun q => q.h.ar.c2
  have zz3 : ∀ q : Held (fun W => MdF w W (mdR0012 w.heap.size)), q.w.cell? ⟨w.heap.size, 3, none⟩ = some (.int .i64 3) := fun q => q.h.ar.c3
  have zz4 : ∀ q : Held (fun W => MdF w W (mdR0012 w.heap.size)), q.w.cell? ⟨w.heap.size, 4, none⟩ = some (.bool false) := fun q => q.h.ar.c4
  have zz5 : ∀ q : Held (fun W => MdF w W (mdR0012 w.heap.size)), q.w.cell? ⟨w.heap.size, 5, none⟩ = some (.slice (some ⟨w.heap.size + 1, 0, none⟩) 1 1) := fun q => q.h.ar.c5
  have zz6 : ∀ q : Held (fun W => MdF w W (mdR0012 w.heap.size)), q.w.cell? ⟨w.heap.size, 6, none⟩ = some (.int .i64 2) := fun q => q.h.ar.c6
  have zz7 : ∀ q : Held (fun W => MdF w W (mdR0012 w.heap.size)), q.w.cell? ⟨w.heap.size, 7, none⟩ = some (.int .u64 0) := fun q => q.h.ar.c7
  have zz8 : ∀ q : Held (fun W => MdF w W (mdR0012 w.heap.size)), q.w.cell? ⟨w.heap.size, 8, none⟩ = some (.int .i64 0) := fun q => q.h.ar.c8
  have zz9 : ∀ q : Held (fun W => MdF w W (mdR0012 w.heap.size)), q.w.cell? ⟨w.heap.size, 9, none⟩ = some (.int .i64 0) := fun q => q.h.ar.c9
  obtain ⟨w1, hwd⟩ : ∃ W, W = w0.drew := ⟨_, rfl⟩
  rw [← hwd]
  have hb : Below w0.heap.size w0 w1 := by rw [hwd]; exact (Below.refl _ _).drew
  have HN1 : Hid (MdF w w1 (mdR0012 w.heap.size)) := HN0.out.next hb
  clear hb hwd
  refine mix_seg [0] (by kernel_rfl) HN1.out ?_
  simp only [segOf, pickOps, pickOp]
  repeat (go_big_quiet_step (fail))
  refine wpQuiet_nil ?_
  refine mix_run 1 (by kernel_rfl) ?_
  simp only [segOf, pickOps, pickOp]
  go_wp2_with fail
  refine (aCheck_any (mdR0012 w.heap.size) _ HN1.out.kr HN1.out.env).mono ?_
  rintro e w2 ⟨rfl, hb⟩
  rw [md_ask0012]
  have HN2 : Hid (MdF w w2 (mdR0012 w.heap.size)) := HN1.out.next hb
  clear hb
  go_wp2_with fail
  refine MixPost.normal HN2.out ?_
  refine mix_seg [2, 3, 4, 6] (by kernel_rfl) HN2.out ?_
  simp only [segOf, pickOps, pickOp]
  repeat (go_big_quiet_step (fail))
  refine wpQuiet_nil ?_
  refine mix_run 5 (by kernel_rfl) ?_
  simp only [segOf, pickOps, pickOp]
  go_wp2_with fail
  refine (aCross_any (mdR0012 w.heap.size) _ HN2.out.kr HN2.out.env).mono ?_
  rintro e w3 ⟨rfl, hb⟩
  rw [md_cross0012]
  have HN3 : Hid (MdF w w3 (mdR0012 w.heap.size)) := HN2.out.next hb
  clear hb
  go_wp2_with fail
  refine MixPost.normal HN3.out ?_
  refine mix_seg [7, 8, 9, 10, 12, 13, 14] (by kernel_rfl) HN3.out ?_
  simp only [segOf, pickOps, pickOp]
  repeat (go_big_quiet_step (fail))
  refine wpQuiet_nil ?_
  refine mix_run 11 (by kernel_rfl) ?_
  simp only [segOf, pickOps, pickOp]
  go_wp2_with fail
  refine (aNeeds_any (mdR0012 w.heap.size) _ HN3.out.kr HN3.out.env).mono ?_
  rintro e w4 ⟨rfl, hb⟩
  rw [md_need0012]
  have HN4 : Hid (MdF w w4 (mdR0012 w.heap.size)) := HN3.out.next hb
  clear hb
  go_wp2_with fail
  refine MixPost.normal HN4.out ?_
  refine mix_seg [15, 16, 17, 18, 19, 20, 21, 22, 23, 24, 25, 26] (by kernel_rfl) HN4.out ?_
  simp only [segOf, pickOps, pickOp]
  repeat (go_big_quiet_step (fail))
  refine wpQuiet_nil ?_
  refine mix_run 27 (by kernel_rfl) ?_
  simp only [segOf, pickOps, pickOp]
  go_wp2_with fail
  refine (awake8_any _ HN4.out.env).mono ?_
  rintro e w5 ⟨rfl, hb⟩
  have HN5 : Hid (MdF w w5 (mdR0012 w.heap.size)) := HN4.out.next hb
  clear hb
  go_wp2_with fail
  refine MixPost.normal HN5.out ?_
  refine mix_seg [28, 29] (by kernel_rfl) HN5.out ?_
  simp only [segOf, pickOps, pickOp]
  repeat (go_big_quiet_step (fail))
  refine wpQuiet_nil ?_
  refine mix_done (by kernel_rfl) ?_
  go_wp2
  go_ret
  exact ⟨rfl, HN5.out.bel⟩

def mdR0100 (_g : Nat) : Rv := ⟨⟨#[112, 117, 116]⟩, ⟨#[104, 116, 116, 112, 115, 58, 47, 47, 97, 46, 98, 47, 120]⟩, ⟨#[104, 116, 116, 112, 115, 58, 47, 47, 97, 46, 98]⟩, 1, false, none, 0, 0, [], 2, 0, 0, 0⟩
theorem md_ask0100 (g : Nat) : askI (mdR0100 g).q = 0 := by kernel_rfl
theorem md_need0100 (g : Nat) : needsQ (mdR0100 g).q = false := by kernel_rfl
theorem md_cross0100 (g : Nat) : crossQ (mdR0100 g).q = false := by kernel_rfl
set_option maxRecDepth 100000 in
set_option maxHeartbeats 4000000 in
theorem md_0100 (a1 : Int) (w : World) (hk : lowV a1 3 = 0) (he : Env8 w) :
    Calls Tryz.prog 5 #[.bool false, .int .i64 a1, .bool true, .bool false] w fun e w' => e = .returned (.bool true) ∧ Below w.heap.size w w' := by
  obtain ⟨w0, hW⟩ : ∃ W, W = (w.alloc (Obj.cells #[.string ⟨#[112, 117, 116]⟩, .string ⟨#[104, 116, 116, 112, 115, 58, 47, 47, 97, 46, 98, 47, 120]⟩, .string ⟨#[104, 116, 116, 112, 115, 58, 47, 47, 97, 46, 98]⟩, .int .i64 1, .bool false, .slice none 0 0, .int .i64 2, .int .u64 0, .int .i64 0, .int .i64 0] 25)) := ⟨_, rfl⟩
  have HN0 : Hid (MdF w w0 (mdR0100 w.heap.size)) := by rw [hW]; exact MdF.new he (mdR0100 w.heap.size) _ rfl rfl (by dsimp only [mdR0100]; decide) (by dsimp only [mdR0100]; decide) (by dsimp only [mdR0100]; decide)
  have HK := Lib.hid hk
  clear hk he
  go_enter Tryz.func5, Tryz.ntmps5
  go_wp2_with fail
  refine (Low_any a1 3 _ (by omega) (by omega)).mono ?_
  rintro e w' ⟨rfl, rfl⟩
  rw [HK.out]
  go_wp2_with fail
  rw [← hW]
  clear hW
  refine mix_start (fun W => MdF w W (mdR0100 w.heap.size)) (by kernel_rfl) ?_
  have hne : Nonempty (Held (fun W => MdF w W (mdR0100 w.heap.size))) := ⟨⟨_, HN0.out⟩⟩
  have zz0 : ∀ q : Held (fun W => MdF w W (mdR0100 w.heap.size)), q.w.cell? ⟨w.heap.size, 0, none⟩ = some (.string ⟨#[112, 117, 116]⟩) := fun q => q.h.ar.c0
  have zz1 : ∀ q : Held (fun W => MdF w W (mdR0100 w.heap.size)), q.w.cell? ⟨w.heap.size, 1, none⟩ = some (.string ⟨#[104, 116, 116, 112, 115, 58, 47, 47, 97, 46, 98, 47, 120]⟩) := fun q => q.h.ar.c1
  have zz2 : ∀ q : Held (fun W => MdF w W (mdR0100 w.heap.size)), q.w.cell? ⟨w.heap.size, 2, none⟩ = some (.string ⟨#[104, 116, 116, 112, 115, 58, 47, 47, 97, 46, 98]⟩) := fun q => q.h.ar.c2
  have zz3 : ∀ q : Held (fun W => MdF w W (mdR0100 w.heap.size)), q.w.cell? ⟨w.heap.size, 3, none⟩ = some (.int .i64 1) := fun q => q.h.ar.c3
  have zz4 : ∀ q : Held (fun W => MdF w W (mdR0100 w.heap.size)), q.w.cell? ⟨w.heap.size, 4, none⟩ = some (.bool false) := fun q => q.h.ar.c4
  have zz5 : ∀ q : Held (fun W => MdF w W (mdR0100 w.heap.size)), q.w.cell? ⟨w.heap.size, 5, none⟩ = some (.slice none 0 0) := fun q => q.h.ar.c5
  have zz6 : ∀ q : Held (fun W => MdF w W (mdR0100 w.heap.size)), q.w.cell? ⟨w.heap.size, 6, none⟩ = some (.int .i64 2) := fun q => q.h.ar.c6
  have zz7 : ∀ q : Held (fun W => MdF w W (mdR0100 w.heap.size)), q.w.cell? ⟨w.heap.size, 7, none⟩ = some (.int .u64 0) := fun q => q.h.ar.c7
  have zz8 : ∀ q : Held (fun W => MdF w W (mdR0100 w.heap.size)), q.w.cell? ⟨w.heap.size, 8, none⟩ = some (.int .i64 0) := fun q => q.h.ar.c8
  have zz9 : ∀ q : Held (fun W => MdF w W (mdR0100 w.heap.size)), q.w.cell? ⟨w.heap.size, 9, none⟩ = some (.int .i64 0) := fun q => q.h.ar.c9
  obtain ⟨w1, hwd⟩ : ∃ W, W = w0.drew := ⟨_, rfl⟩
  rw [← hwd]
  have hb : Below w0.heap.size w0 w1 := by rw [hwd]; exact (Below.refl _ _).drew
  have HN1 : Hid (MdF w w1 (mdR0100 w.heap.size)) := HN0.out.next hb
  clear hb hwd
  refine mix_seg [0] (by kernel_rfl) HN1.out ?_
  simp only [segOf, pickOps, pickOp]
  repeat (go_big_quiet_step (fail))
  refine wpQuiet_nil ?_
  refine mix_run 1 (by kernel_rfl) ?_
  simp only [segOf, pickOps, pickOp]
  go_wp2_with fail
  refine (aCheck_any (mdR0100 w.heap.size) _ HN1.out.kr HN1.out.env).mono ?_
  rintro e w2 ⟨rfl, hb⟩
  rw [md_ask0100]
  have HN2 : Hid (MdF w w2 (mdR0100 w.heap.size)) := HN1.out.next hb
  clear hb
  go_wp2_with fail
  refine MixPost.normal HN2.out ?_
  refine mix_seg [2, 3, 4, 6] (by kernel_rfl) HN2.out ?_
  simp only [segOf, pickOps, pickOp]
  repeat (go_big_quiet_step (fail))
  refine wpQuiet_nil ?_
  refine mix_run 5 (by kernel_rfl) ?_
  simp only [segOf, pickOps, pickOp]
  go_wp2_with fail
  refine (aCross_any (mdR0100 w.heap.size) _ HN2.out.kr HN2.out.env).mono ?_
  rintro e w3 ⟨rfl, hb⟩
  rw [md_cross0100]
  have HN3 : Hid (MdF w w3 (mdR0100 w.heap.size)) := HN2.out.next hb
  clear hb
  go_wp2_with fail
  refine MixPost.normal HN3.out ?_
  refine mix_seg [7, 8, 9, 10, 12, 13, 14] (by kernel_rfl) HN3.out ?_
  simp only [segOf, pickOps, pickOp]
  repeat (go_big_quiet_step (fail))
  refine wpQuiet_nil ?_
  refine mix_run 11 (by kernel_rfl) ?_
  simp only [segOf, pickOps, pickOp]
  go_wp2_with fail
  refine (aNeeds_any (mdR0100 w.heap.size) _ HN3.out.kr HN3.out.env).mono ?_
  rintro e w4 ⟨rfl, hb⟩
  rw [md_need0100]
  have HN4 : Hid (MdF w w4 (mdR0100 w.heap.size)) := HN3.out.next hb
  clear hb
  go_wp2_with fail
  refine MixPost.normal HN4.out ?_
  refine mix_seg [15, 16, 17, 18, 19, 20, 21, 22, 23, 24, 25, 26] (by kernel_rfl) HN4.out ?_
  simp only [segOf, pickOps, pickOp]
  repeat (go_big_quiet_step (fail))
  refine wpQuiet_nil ?_
  refine mix_run 27 (by kernel_rfl) ?_
  simp only [segOf, pickOps, pickOp]
  go_wp2_with fail
  refine (awake8_any _ HN4.out.env).mono ?_
  rintro e w5 ⟨rfl, hb⟩
  have HN5 : Hid (MdF w w5 (mdR0100 w.heap.size)) := HN4.out.next hb
  clear hb
  go_wp2_with fail
  refine MixPost.normal HN5.out ?_
  refine mix_seg [28, 29] (by kernel_rfl) HN5.out ?_
  simp only [segOf, pickOps, pickOp]
  repeat (go_big_quiet_step (fail))
  refine wpQuiet_nil ?_
  refine mix_done (by kernel_rfl) ?_
  go_wp2
  go_ret
  exact ⟨rfl, HN5.out.bel⟩

def mdR0101 (_g : Nat) : Rv := ⟨⟨#[112, 117, 116]⟩, ⟨#[104, 116, 116, 112, 115, 58, 47, 47, 97, 46, 98, 47, 120]⟩, ⟨#[104, 116, 116, 112, 115, 58, 47, 47, 97, 46, 98]⟩, 2, false, none, 0, 0, [], 2, 0, 0, 0⟩
theorem md_ask0101 (g : Nat) : askI (mdR0101 g).q = 7 := by kernel_rfl
theorem md_need0101 (g : Nat) : needsQ (mdR0101 g).q = false := by kernel_rfl
set_option maxRecDepth 100000 in
set_option maxHeartbeats 4000000 in
theorem md_0101 (a1 : Int) (w : World) (hk : lowV a1 3 = 1) (he : Env8 w) :
    Calls Tryz.prog 5 #[.bool false, .int .i64 a1, .bool true, .bool false] w fun e w' => e = .returned (.bool true) ∧ Below w.heap.size w w' := by
  obtain ⟨w0, hW⟩ : ∃ W, W = (w.alloc (Obj.cells #[.string ⟨#[112, 117, 116]⟩, .string ⟨#[104, 116, 116, 112, 115, 58, 47, 47, 97, 46, 98, 47, 120]⟩, .string ⟨#[104, 116, 116, 112, 115, 58, 47, 47, 97, 46, 98]⟩, .int .i64 2, .bool false, .slice none 0 0, .int .i64 2, .int .u64 0, .int .i64 0, .int .i64 0] 25)) := ⟨_, rfl⟩
  have HN0 : Hid (MdF w w0 (mdR0101 w.heap.size)) := by rw [hW]; exact MdF.new he (mdR0101 w.heap.size) _ rfl rfl (by dsimp only [mdR0101]; decide) (by dsimp only [mdR0101]; decide) (by dsimp only [mdR0101]; decide)
  have HK := Lib.hid hk
  clear hk he
  go_enter Tryz.func5, Tryz.ntmps5
  go_wp2_with fail
  refine (Low_any a1 3 _ (by omega) (by omega)).mono ?_
  rintro e w' ⟨rfl, rfl⟩
  rw [HK.out]
  go_wp2_with fail
  rw [← hW]
  clear hW
  refine (aCheck_any (mdR0101 w.heap.size) _ HN0.out.kr HN0.out.env).mono ?_
  rintro e w1 ⟨rfl, hb⟩
  rw [md_ask0101]
  have HN1 : Hid (MdF w w1 (mdR0101 w.heap.size)) := HN0.out.next hb
  clear hb
  obtain ⟨r0, r1, r2, r3, r4, r5, r6, r7, r8, r9⟩ := HN1.out.ar
  dsimp only [mdR0101] at r0 r1 r2 r3 r4 r5 r6 r7 r8 r9
  go_wp2_with fail
  refine (aNeeds_any (mdR0101 w.heap.size) _ HN1.out.kr HN1.out.env).mono ?_
  rintro e w2 ⟨rfl, hb⟩
  rw [md_need0101]
  have HN2 : Hid (MdF w w2 (mdR0101 w.heap.size)) := HN1.out.next hb
  clear hb r0 r1 r2 r3 r4 r5 r6 r7 r8 r9
  go_wp2_with fail
  refine (awake8_any _ HN2.out.env).mono ?_
  rintro e w3 ⟨rfl, hb⟩
  go_wp2
  go_ret
  exact ⟨rfl, HN2.out.bel.trans (hb.mono HN2.out.bel.size)⟩

def mdR0102 (_g : Nat) : Rv := ⟨⟨#[112, 117, 116]⟩, ⟨#[104, 116, 116, 112, 115, 58, 47, 47, 97, 46, 98, 47, 120]⟩, ⟨#[104, 116, 116, 112, 115, 58, 47, 47, 97, 46, 98]⟩, 3, false, none, 0, 0, [], 2, 0, 0, 0⟩
theorem md_ask0102 (g : Nat) : askI (mdR0102 g).q = 0 := by kernel_rfl
theorem md_need0102 (g : Nat) : needsQ (mdR0102 g).q = false := by kernel_rfl
theorem md_cross0102 (g : Nat) : crossQ (mdR0102 g).q = false := by kernel_rfl
set_option maxRecDepth 100000 in
set_option maxHeartbeats 4000000 in
theorem md_0102 (a1 : Int) (w : World) (hk : lowV a1 3 = 2) (he : Env8 w) :
    Calls Tryz.prog 5 #[.bool false, .int .i64 a1, .bool true, .bool false] w fun e w' => e = .returned (.bool true) ∧ Below w.heap.size w w' := by
  obtain ⟨w0, hW⟩ : ∃ W, W = (w.alloc (Obj.cells #[.string ⟨#[112, 117, 116]⟩, .string ⟨#[104, 116, 116, 112, 115, 58, 47, 47, 97, 46, 98, 47, 120]⟩, .string ⟨#[104, 116, 116, 112, 115, 58, 47, 47, 97, 46, 98]⟩, .int .i64 3, .bool false, .slice none 0 0, .int .i64 2, .int .u64 0, .int .i64 0, .int .i64 0] 25)) := ⟨_, rfl⟩
  have HN0 : Hid (MdF w w0 (mdR0102 w.heap.size)) := by rw [hW]; exact MdF.new he (mdR0102 w.heap.size) _ rfl rfl (by dsimp only [mdR0102]; decide) (by dsimp only [mdR0102]; decide) (by dsimp only [mdR0102]; decide)
  have HK := Lib.hid hk
  clear hk he
  go_enter Tryz.func5, Tryz.ntmps5
  go_wp2_with fail
  refine (Low_any a1 3 _ (by omega) (by omega)).mono ?_
  rintro e w' ⟨rfl, rfl⟩
  rw [HK.out]
  go_wp2_with fail
  rw [← hW]
  clear hW
  refine mix_start (fun W => MdF w W (mdR0102 w.heap.size)) (by kernel_rfl) ?_
  have hne : Nonempty (Held (fun W => MdF w W (mdR0102 w.heap.size))) := ⟨⟨_, HN0.out⟩⟩
  have zz0 : ∀ q : Held (fun W => MdF w W (mdR0102 w.heap.size)), q.w.cell? ⟨w.heap.size, 0, none⟩ = some (.string ⟨#[112, 117, 116]⟩) := fun q => q.h.ar.c0
  have zz1 : ∀ q : Held (fun W => MdF w W (mdR0102 w.heap.size)), q.w.cell? ⟨w.heap.size, 1, none⟩ = some (.string ⟨#[104, 116, 116, 112, 115, 58, 47, 47, 97, 46, 98, 47, 120]⟩) := fun q => q.h.ar.c1
  have zz2 : ∀ q : Held (fun W => MdF w W (mdR0102 w.heap.size)), q.w.cell? ⟨w.heap.size, 2, none⟩ = some (.string ⟨#[104, 116, 116, 112, 115, 58, 47, 47, 97, 46, 98]⟩) := fun q => q.h.ar.c2
  have zz3 : ∀ q : Held (fun W => MdF w W (mdR0102 w.heap.size)), q.w.cell? ⟨w.heap.size, 3, none⟩ = some (.int .i64 3) := fun q => q.h.ar.c3
  have zz4 : ∀ q : Held (fun W => MdF w W (mdR0102 w.heap.size)), q.w.cell? ⟨w.heap.size, 4, none⟩ = some (.bool false) := fun q => q.h.ar.c4
  have zz5 : ∀ q : Held (fun W => MdF w W (mdR0102 w.heap.size)), q.w.cell? ⟨w.heap.size, 5, none⟩ = some (.slice none 0 0) := fun q => q.h.ar.c5
  have zz6 : ∀ q : Held (fun W => MdF w W (mdR0102 w.heap.size)), q.w.cell? ⟨w.heap.size, 6, none⟩ = some (.int .i64 2) := fun q => q.h.ar.c6
  have zz7 : ∀ q : Held (fun W => MdF w W (mdR0102 w.heap.size)), q.w.cell? ⟨w.heap.size, 7, none⟩ = some (.int .u64 0) := fun q => q.h.ar.c7
  have zz8 : ∀ q : Held (fun W => MdF w W (mdR0102 w.heap.size)), q.w.cell? ⟨w.heap.size, 8, none⟩ = some (.int .i64 0) := fun q => q.h.ar.c8
  have zz9 : ∀ q : Held (fun W => MdF w W (mdR0102 w.heap.size)), q.w.cell? ⟨w.heap.size, 9, none⟩ = some (.int .i64 0) := fun q => q.h.ar.c9
  obtain ⟨w1, hwd⟩ : ∃ W, W = w0.drew := ⟨_, rfl⟩
  rw [← hwd]
  have hb : Below w0.heap.size w0 w1 := by rw [hwd]; exact (Below.refl _ _).drew
  have HN1 : Hid (MdF w w1 (mdR0102 w.heap.size)) := HN0.out.next hb
  clear hb hwd
  refine mix_seg [0] (by kernel_rfl) HN1.out ?_
  simp only [segOf, pickOps, pickOp]
  repeat (go_big_quiet_step (fail))
  refine wpQuiet_nil ?_
  refine mix_run 1 (by kernel_rfl) ?_
  simp only [segOf, pickOps, pickOp]
  go_wp2_with fail
  refine (aCheck_any (mdR0102 w.heap.size) _ HN1.out.kr HN1.out.env).mono ?_
  rintro e w2 ⟨rfl, hb⟩
  rw [md_ask0102]
  have HN2 : Hid (MdF w w2 (mdR0102 w.heap.size)) := HN1.out.next hb
  clear hb
  go_wp2_with fail
  refine MixPost.normal HN2.out ?_
  refine mix_seg [2, 3, 4, 6] (by kernel_rfl) HN2.out ?_
  simp only [segOf, pickOps, pickOp]
  repeat (go_big_quiet_step (fail))
  refine wpQuiet_nil ?_
  refine mix_run 5 (by kernel_rfl) ?_
  simp only [segOf, pickOps, pickOp]
  go_wp2_with fail
  refine (aCross_any (mdR0102 w.heap.size) _ HN2.out.kr HN2.out.env).mono ?_
  rintro e w3 ⟨rfl, hb⟩
  rw [md_cross0102]
  have HN3 : Hid (MdF w w3 (mdR0102 w.heap.size)) := HN2.out.next hb
  clear hb
  go_wp2_with fail
  refine MixPost.normal HN3.out ?_
  refine mix_seg [7, 8, 9, 10, 12, 13, 14] (by kernel_rfl) HN3.out ?_
  simp only [segOf, pickOps, pickOp]
  repeat (go_big_quiet_step (fail))
  refine wpQuiet_nil ?_
  refine mix_run 11 (by kernel_rfl) ?_
  simp only [segOf, pickOps, pickOp]
  go_wp2_with fail
  refine (aNeeds_any (mdR0102 w.heap.size) _ HN3.out.kr HN3.out.env).mono ?_
  rintro e w4 ⟨rfl, hb⟩
  rw [md_need0102]
  have HN4 : Hid (MdF w w4 (mdR0102 w.heap.size)) := HN3.out.next hb
  clear hb
  go_wp2_with fail
  refine MixPost.normal HN4.out ?_
  refine mix_seg [15, 16, 17, 18, 19, 20, 21, 22, 23, 24, 25, 26] (by kernel_rfl) HN4.out ?_
  simp only [segOf, pickOps, pickOp]
  repeat (go_big_quiet_step (fail))
  refine wpQuiet_nil ?_
  refine mix_run 27 (by kernel_rfl) ?_
  simp only [segOf, pickOps, pickOp]
  go_wp2_with fail
  refine (awake8_any _ HN4.out.env).mono ?_
  rintro e w5 ⟨rfl, hb⟩
  have HN5 : Hid (MdF w w5 (mdR0102 w.heap.size)) := HN4.out.next hb
  clear hb
  go_wp2_with fail
  refine MixPost.normal HN5.out ?_
  refine mix_seg [28, 29] (by kernel_rfl) HN5.out ?_
  simp only [segOf, pickOps, pickOp]
  repeat (go_big_quiet_step (fail))
  refine wpQuiet_nil ?_
  refine mix_done (by kernel_rfl) ?_
  go_wp2
  go_ret
  exact ⟨rfl, HN5.out.bel⟩

def mdR0110 (g : Nat) : Rv := ⟨⟨#[112, 117, 116]⟩, ⟨#[104, 116, 116, 112, 115, 58, 47, 47, 97, 46, 98, 47, 120]⟩, ⟨#[104, 116, 116, 112, 115, 58, 47, 47, 97, 46, 98]⟩, 1, false, some ⟨g + 1, 0, none⟩, 1, 1, [(⟨#[88, 45, 79, 119, 110]⟩, ⟨#[49]⟩)], 2, 0, 0, 0⟩
theorem md_ask0110 (g : Nat) : askI (mdR0110 g).q = 0 := by kernel_rfl
theorem md_need0110 (g : Nat) : needsQ (mdR0110 g).q = false := by kernel_rfl
theorem md_cross0110 (g : Nat) : crossQ (mdR0110 g).q = false := by kernel_rfl
set_option maxRecDepth 100000 in
set_option maxHeartbeats 4000000 in
theorem md_0110 (a1 : Int) (w : World) (hk : lowV a1 3 = 0) (he : Env8 w) :
    Calls Tryz.prog 5 #[.bool false, .int .i64 a1, .bool true, .bool true] w fun e w' => e = .returned (.bool true) ∧ Below w.heap.size w w' := by
  obtain ⟨w0, hW⟩ : ∃ W, W = (w.alloc (Obj.cells #[.string ⟨#[112, 117, 116]⟩, .string ⟨#[104, 116, 116, 112, 115, 58, 47, 47, 97, 46, 98, 47, 120]⟩, .string ⟨#[104, 116, 116, 112, 115, 58, 47, 47, 97, 46, 98]⟩, .int .i64 1, .bool false, .slice (some ⟨w.heap.size + 1, 0, none⟩) 1 1, .int .i64 2, .int .u64 0, .int .i64 0, .int .i64 0] 25)).alloc (Obj.cells #[.string ⟨#[88, 45, 79, 119, 110]⟩, .string ⟨#[49]⟩] 44) := ⟨_, rfl⟩
  have HN0 : Hid (MdF w w0 (mdR0110 w.heap.size)) := by rw [hW]; exact MdF.own he (mdR0110 w.heap.size) _ _ rfl rfl rfl (by dsimp only [mdR0110]; decide) (by dsimp only [mdR0110]; decide) (by dsimp only [mdR0110]; decide)
  have HK := Lib.hid hk
  clear hk he
  go_enter Tryz.func5, Tryz.ntmps5
  go_wp2_with fail
  refine (Low_any a1 3 _ (by omega) (by omega)).mono ?_
  rintro e w' ⟨rfl, rfl⟩
  rw [HK.out]
  go_wp2_with fail
  rw [← hW]
  clear hW
  refine mix_start (fun W => MdF w W (mdR0110 w.heap.size)) (by kernel_rfl) ?_
  have hne : Nonempty (Held (fun W => MdF w W (mdR0110 w.heap.size))) := ⟨⟨_, HN0.out⟩⟩
  have zz0 : ∀ q : Held (fun W => MdF w W (mdR0110 w.heap.size)), q.w.cell? ⟨w.heap.size, 0, none⟩ = some (.string ⟨#[112, 117, 116]⟩) := fun q => q.h.ar.c0
  have zz1 : ∀ q : Held (fun W => MdF w W (mdR0110 w.heap.size)), q.w.cell? ⟨w.heap.size, 1, none⟩ = some (.string ⟨#[104, 116, 116, 112, 115, 58, 47, 47, 97, 46, 98, 47, 120]⟩) := fun q => q.h.ar.c1
  have zz2 : ∀ q : Held (fun W => MdF w W (mdR0110 w.heap.size)), q.w.cell? ⟨w.heap.size, 2, none⟩ = some (.string ⟨#[104, 116, 116, 112, 115, 58, 47, 47, 97, 46, 98]⟩) := fun q => q.h.ar.c2
  have zz3 : ∀ q : Held (fun W => MdF w W (mdR0110 w.heap.size)), q.w.cell? ⟨w.heap.size, 3, none⟩ = some (.int .i64 1) := fun q => q.h.ar.c3
  have zz4 : ∀ q : Held (fun W => MdF w W (mdR0110 w.heap.size)), q.w.cell? ⟨w.heap.size, 4, none⟩ = some (.bool false) := fun q => q.h.ar.c4
  have zz5 : ∀ q : Held (fun W => MdF w W (mdR0110 w.heap.size)), q.w.cell? ⟨w.heap.size, 5, none⟩ = some (.slice (some ⟨w.heap.size + 1, 0, none⟩) 1 1) := fun q => q.h.ar.c5
  have zz6 : ∀ q : Held (fun W => MdF w W (mdR0110 w.heap.size)), q.w.cell? ⟨w.heap.size, 6, none⟩ = some (.int .i64 2) := fun q => q.h.ar.c6
  have zz7 : ∀ q : Held (fun W => MdF w W (mdR0110 w.heap.size)), q.w.cell? ⟨w.heap.size, 7, none⟩ = some (.int .u64 0) := fun q => q.h.ar.c7
  have zz8 : ∀ q : Held (fun W => MdF w W (mdR0110 w.heap.size)), q.w.cell? ⟨w.heap.size, 8, none⟩ = some (.int .i64 0) := fun q => q.h.ar.c8
  have zz9 : ∀ q : Held (fun W => MdF w W (mdR0110 w.heap.size)), q.w.cell? ⟨w.heap.size, 9, none⟩ = some (.int .i64 0) := fun q => q.h.ar.c9
  obtain ⟨w1, hwd⟩ : ∃ W, W = w0.drew := ⟨_, rfl⟩
  rw [← hwd]
  have hb : Below w0.heap.size w0 w1 := by rw [hwd]; exact (Below.refl _ _).drew
  have HN1 : Hid (MdF w w1 (mdR0110 w.heap.size)) := HN0.out.next hb
  clear hb hwd
  refine mix_seg [0] (by kernel_rfl) HN1.out ?_
  simp only [segOf, pickOps, pickOp]
  repeat (go_big_quiet_step (fail))
  refine wpQuiet_nil ?_
  refine mix_run 1 (by kernel_rfl) ?_
  simp only [segOf, pickOps, pickOp]
  go_wp2_with fail
  refine (aCheck_any (mdR0110 w.heap.size) _ HN1.out.kr HN1.out.env).mono ?_
  rintro e w2 ⟨rfl, hb⟩
  rw [md_ask0110]
  have HN2 : Hid (MdF w w2 (mdR0110 w.heap.size)) := HN1.out.next hb
  clear hb
  go_wp2_with fail
  refine MixPost.normal HN2.out ?_
  refine mix_seg [2, 3, 4, 6] (by kernel_rfl) HN2.out ?_
  simp only [segOf, pickOps, pickOp]
  repeat (go_big_quiet_step (fail))
  refine wpQuiet_nil ?_
  refine mix_run 5 (by kernel_rfl) ?_
  simp only [segOf, pickOps, pickOp]
  go_wp2_with fail
  refine (aCross_any (mdR0110 w.heap.size) _ HN2.out.kr HN2.out.env).mono ?_
  rintro e w3 ⟨rfl, hb⟩
  rw [md_cross0110]
  have HN3 : Hid (MdF w w3 (mdR0110 w.heap.size)) := HN2.out.next hb
  clear hb
  go_wp2_with fail
  refine MixPost.normal HN3.out ?_
  refine mix_seg [7, 8, 9, 10, 12, 13, 14] (by kernel_rfl) HN3.out ?_
  simp only [segOf, pickOps, pickOp]
  repeat (go_big_quiet_step (fail))
  refine wpQuiet_nil ?_
  refine mix_run 11 (by kernel_rfl) ?_
  simp only [segOf, pickOps, pickOp]
  go_wp2_with fail
  refine (aNeeds_any (mdR0110 w.heap.size) _ HN3.out.kr HN3.out.env).mono ?_
  rintro e w4 ⟨rfl, hb⟩
  rw [md_need0110]
  have HN4 : Hid (MdF w w4 (mdR0110 w.heap.size)) := HN3.out.next hb
  clear hb
  go_wp2_with fail
  refine MixPost.normal HN4.out ?_
  refine mix_seg [15, 16, 17, 18, 19, 20, 21, 22, 23, 24, 25, 26] (by kernel_rfl) HN4.out ?_
  simp only [segOf, pickOps, pickOp]
  repeat (go_big_quiet_step (fail))
  refine wpQuiet_nil ?_
  refine mix_run 27 (by kernel_rfl) ?_
  simp only [segOf, pickOps, pickOp]
  go_wp2_with fail
  refine (awake8_any _ HN4.out.env).mono ?_
  rintro e w5 ⟨rfl, hb⟩
  have HN5 : Hid (MdF w w5 (mdR0110 w.heap.size)) := HN4.out.next hb
  clear hb
  go_wp2_with fail
  refine MixPost.normal HN5.out ?_
  refine mix_seg [28, 29] (by kernel_rfl) HN5.out ?_
  simp only [segOf, pickOps, pickOp]
  repeat (go_big_quiet_step (fail))
  refine wpQuiet_nil ?_
  refine mix_done (by kernel_rfl) ?_
  go_wp2
  go_ret
  exact ⟨rfl, HN5.out.bel⟩

def mdR0111 (g : Nat) : Rv := ⟨⟨#[112, 117, 116]⟩, ⟨#[104, 116, 116, 112, 115, 58, 47, 47, 97, 46, 98, 47, 120]⟩, ⟨#[104, 116, 116, 112, 115, 58, 47, 47, 97, 46, 98]⟩, 2, false, some ⟨g + 1, 0, none⟩, 1, 1, [(⟨#[88, 45, 79, 119, 110]⟩, ⟨#[49]⟩)], 2, 0, 0, 0⟩
theorem md_ask0111 (g : Nat) : askI (mdR0111 g).q = 7 := by kernel_rfl
theorem md_need0111 (g : Nat) : needsQ (mdR0111 g).q = false := by kernel_rfl
set_option maxRecDepth 100000 in
set_option maxHeartbeats 4000000 in
theorem md_0111 (a1 : Int) (w : World) (hk : lowV a1 3 = 1) (he : Env8 w) :
    Calls Tryz.prog 5 #[.bool false, .int .i64 a1, .bool true, .bool true] w fun e w' => e = .returned (.bool true) ∧ Below w.heap.size w w' := by
  obtain ⟨w0, hW⟩ : ∃ W, W = (w.alloc (Obj.cells #[.string ⟨#[112, 117, 116]⟩, .string ⟨#[104, 116, 116, 112, 115, 58, 47, 47, 97, 46, 98, 47, 120]⟩, .string ⟨#[104, 116, 116, 112, 115, 58, 47, 47, 97, 46, 98]⟩, .int .i64 2, .bool false, .slice (some ⟨w.heap.size + 1, 0, none⟩) 1 1, .int .i64 2, .int .u64 0, .int .i64 0, .int .i64 0] 25)).alloc (Obj.cells #[.string ⟨#[88, 45, 79, 119, 110]⟩, .string ⟨#[49]⟩] 44) := ⟨_, rfl⟩
  have HN0 : Hid (MdF w w0 (mdR0111 w.heap.size)) := by rw [hW]; exact MdF.own he (mdR0111 w.heap.size) _ _ rfl rfl rfl (by dsimp only [mdR0111]; decide) (by dsimp only [mdR0111]; decide) (by dsimp only [mdR0111]; decide)
  have HK := Lib.hid hk
  clear hk he
  go_enter Tryz.func5, Tryz.ntmps5
  go_wp2_with fail
  refine (Low_any a1 3 _ (by omega) (by omega)).mono ?_
  rintro e w' ⟨rfl, rfl⟩
  rw [HK.out]
  go_wp2_with fail
  rw [← hW]
  clear hW
  refine (aCheck_any (mdR0111 w.heap.size) _ HN0.out.kr HN0.out.env).mono ?_
  rintro e w1 ⟨rfl, hb⟩
  rw [md_ask0111]
  have HN1 : Hid (MdF w w1 (mdR0111 w.heap.size)) := HN0.out.next hb
  clear hb
  obtain ⟨r0, r1, r2, r3, r4, r5, r6, r7, r8, r9⟩ := HN1.out.ar
  dsimp only [mdR0111] at r0 r1 r2 r3 r4 r5 r6 r7 r8 r9
  go_wp2_with fail
  refine (aNeeds_any (mdR0111 w.heap.size) _ HN1.out.kr HN1.out.env).mono ?_
  rintro e w2 ⟨rfl, hb⟩
  rw [md_need0111]
  have HN2 : Hid (MdF w w2 (mdR0111 w.heap.size)) := HN1.out.next hb
  clear hb r0 r1 r2 r3 r4 r5 r6 r7 r8 r9
  go_wp2_with fail
  refine (awake8_any _ HN2.out.env).mono ?_
  rintro e w3 ⟨rfl, hb⟩
  go_wp2
  go_ret
  exact ⟨rfl, HN2.out.bel.trans (hb.mono HN2.out.bel.size)⟩

def mdR0112 (g : Nat) : Rv := ⟨⟨#[112, 117, 116]⟩, ⟨#[104, 116, 116, 112, 115, 58, 47, 47, 97, 46, 98, 47, 120]⟩, ⟨#[104, 116, 116, 112, 115, 58, 47, 47, 97, 46, 98]⟩, 3, false, some ⟨g + 1, 0, none⟩, 1, 1, [(⟨#[88, 45, 79, 119, 110]⟩, ⟨#[49]⟩)], 2, 0, 0, 0⟩
theorem md_ask0112 (g : Nat) : askI (mdR0112 g).q = 0 := by kernel_rfl
theorem md_need0112 (g : Nat) : needsQ (mdR0112 g).q = false := by kernel_rfl
theorem md_cross0112 (g : Nat) : crossQ (mdR0112 g).q = false := by kernel_rfl
set_option maxRecDepth 100000 in
set_option maxHeartbeats 4000000 in
theorem md_0112 (a1 : Int) (w : World) (hk : lowV a1 3 = 2) (he : Env8 w) :
    Calls Tryz.prog 5 #[.bool false, .int .i64 a1, .bool true, .bool true] w fun e w' => e = .returned (.bool true) ∧ Below w.heap.size w w' := by
  obtain ⟨w0, hW⟩ : ∃ W, W = (w.alloc (Obj.cells #[.string ⟨#[112, 117, 116]⟩, .string ⟨#[104, 116, 116, 112, 115, 58, 47, 47, 97, 46, 98, 47, 120]⟩, .string ⟨#[104, 116, 116, 112, 115, 58, 47, 47, 97, 46, 98]⟩, .int .i64 3, .bool false, .slice (some ⟨w.heap.size + 1, 0, none⟩) 1 1, .int .i64 2, .int .u64 0, .int .i64 0, .int .i64 0] 25)).alloc (Obj.cells #[.string ⟨#[88, 45, 79, 119, 110]⟩, .string ⟨#[49]⟩] 44) := ⟨_, rfl⟩
  have HN0 : Hid (MdF w w0 (mdR0112 w.heap.size)) := by rw [hW]; exact MdF.own he (mdR0112 w.heap.size) _ _ rfl rfl rfl (by dsimp only [mdR0112]; decide) (by dsimp only [mdR0112]; decide) (by dsimp only [mdR0112]; decide)
  have HK := Lib.hid hk
  clear hk he
  go_enter Tryz.func5, Tryz.ntmps5
  go_wp2_with fail
  refine (Low_any a1 3 _ (by omega) (by omega)).mono ?_
  rintro e w' ⟨rfl, rfl⟩
  rw [HK.out]
  go_wp2_with fail
  rw [← hW]
  clear hW
  refine mix_start (fun W => MdF w W (mdR0112 w.heap.size)) (by kernel_rfl) ?_
  have hne : Nonempty (Held (fun W => MdF w W (mdR0112 w.heap.size))) := ⟨⟨_, HN0.out⟩⟩
  have zz0 : ∀ q : Held (fun W => MdF w W (mdR0112 w.heap.size)), q.w.cell? ⟨w.heap.size, 0, none⟩ = some (.string ⟨#[112, 117, 116]⟩) := fun q => q.h.ar.c0
  have zz1 : ∀ q : Held (fun W => MdF w W (mdR0112 w.heap.size)), q.w.cell? ⟨w.heap.size, 1, none⟩ = some (.string ⟨#[104, 116, 116, 112, 115, 58, 47, 47, 97, 46, 98, 47, 120]⟩) := fun q => q.h.ar.c1
  have zz2 : ∀ q : Held (fun W => MdF w W (mdR0112 w.heap.size)), q.w.cell? ⟨w.heap.size, 2, none⟩ = some (.string ⟨#[104, 116, 116, 112, 115, 58, 47, 47, 97, 46, 98]⟩) := fun q => q.h.ar.c2
  have zz3 : ∀ q : Held (fun W => MdF w W (mdR0112 w.heap.size)), q.w.cell? ⟨w.heap.size, 3, none⟩ = some (.int .i64 3) := fun q => q.h.ar.c3
  have zz4 : ∀ q : Held (fun W => MdF w W (mdR0112 w.heap.size)), q.w.cell? ⟨w.heap.size, 4, none⟩ = some (.bool false) := fun q => q.h.ar.c4
  have zz5 : ∀ q : Held (fun W => MdF w W (mdR0112 w.heap.size)), q.w.cell? ⟨w.heap.size, 5, none⟩ = some (.slice (some ⟨w.heap.size + 1, 0, none⟩) 1 1) := fun q => q.h.ar.c5
  have zz6 : ∀ q : Held (fun W => MdF w W (mdR0112 w.heap.size)), q.w.cell? ⟨w.heap.size, 6, none⟩ = some (.int .i64 2) := fun q => q.h.ar.c6
  have zz7 : ∀ q : Held (fun W => MdF w W (mdR0112 w.heap.size)), q.w.cell? ⟨w.heap.size, 7, none⟩ = some (.int .u64 0) := fun q => q.h.ar.c7
  have zz8 : ∀ q : Held (fun W => MdF w W (mdR0112 w.heap.size)), q.w.cell? ⟨w.heap.size, 8, none⟩ = some (.int .i64 0) := fun q => q.h.ar.c8
  have zz9 : ∀ q : Held (fun W => MdF w W (mdR0112 w.heap.size)), q.w.cell? ⟨w.heap.size, 9, none⟩ = some (.int .i64 0) := fun q => q.h.ar.c9
  obtain ⟨w1, hwd⟩ : ∃ W, W = w0.drew := ⟨_, rfl⟩
  rw [← hwd]
  have hb : Below w0.heap.size w0 w1 := by rw [hwd]; exact (Below.refl _ _).drew
  have HN1 : Hid (MdF w w1 (mdR0112 w.heap.size)) := HN0.out.next hb
  clear hb hwd
  refine mix_seg [0] (by kernel_rfl) HN1.out ?_
  simp only [segOf, pickOps, pickOp]
  repeat (go_big_quiet_step (fail))
  refine wpQuiet_nil ?_
  refine mix_run 1 (by kernel_rfl) ?_
  simp only [segOf, pickOps, pickOp]
  go_wp2_with fail
  refine (aCheck_any (mdR0112 w.heap.size) _ HN1.out.kr HN1.out.env).mono ?_
  rintro e w2 ⟨rfl, hb⟩
  rw [md_ask0112]
  have HN2 : Hid (MdF w w2 (mdR0112 w.heap.size)) := HN1.out.next hb
  clear hb
  go_wp2_with fail
  refine MixPost.normal HN2.out ?_
  refine mix_seg [2, 3, 4, 6] (by kernel_rfl) HN2.out ?_
  simp only [segOf, pickOps, pickOp]
  repeat (go_big_quiet_step (fail))
  refine wpQuiet_nil ?_
  refine mix_run 5 (by kernel_rfl) ?_
  simp only [segOf, pickOps, pickOp]
  go_wp2_with fail
  refine (aCross_any (mdR0112 w.heap.size) _ HN2.out.kr HN2.out.env).mono ?_
  rintro e w3 ⟨rfl, hb⟩
  rw [md_cross0112]
  have HN3 : Hid (MdF w w3 (mdR0112 w.heap.size)) := HN2.out.next hb
  clear hb
  go_wp2_with fail
  refine MixPost.normal HN3.out ?_
  refine mix_seg [7, 8, 9, 10, 12, 13, 14] (by kernel_rfl) HN3.out ?_
  simp only [segOf, pickOps, pickOp]
  repeat (go_big_quiet_step (fail))
  refine wpQuiet_nil ?_
  refine mix_run 11 (by kernel_rfl) ?_
  simp only [segOf, pickOps, pickOp]
  go_wp2_with fail
  refine (aNeeds_any (mdR0112 w.heap.size) _ HN3.out.kr HN3.out.env).mono ?_
  rintro e w4 ⟨rfl, hb⟩
  rw [md_need0112]
  have HN4 : Hid (MdF w w4 (mdR0112 w.heap.size)) := HN3.out.next hb
  clear hb
  go_wp2_with fail
  refine MixPost.normal HN4.out ?_
  refine mix_seg [15, 16, 17, 18, 19, 20, 21, 22, 23, 24, 25, 26] (by kernel_rfl) HN4.out ?_
  simp only [segOf, pickOps, pickOp]
  repeat (go_big_quiet_step (fail))
  refine wpQuiet_nil ?_
  refine mix_run 27 (by kernel_rfl) ?_
  simp only [segOf, pickOps, pickOp]
  go_wp2_with fail
  refine (awake8_any _ HN4.out.env).mono ?_
  rintro e w5 ⟨rfl, hb⟩
  have HN5 : Hid (MdF w w5 (mdR0112 w.heap.size)) := HN4.out.next hb
  clear hb
  go_wp2_with fail
  refine MixPost.normal HN5.out ?_
  refine mix_seg [28, 29] (by kernel_rfl) HN5.out ?_
  simp only [segOf, pickOps, pickOp]
  repeat (go_big_quiet_step (fail))
  refine wpQuiet_nil ?_
  refine mix_done (by kernel_rfl) ?_
  go_wp2
  go_ret
  exact ⟨rfl, HN5.out.bel⟩

def mdR1000 (_g : Nat) : Rv := ⟨⟨#[71, 69, 84]⟩, ⟨#[104, 116, 116, 112, 115, 58, 47, 47, 97, 46, 98, 58, 52, 52, 52, 47, 120]⟩, ⟨#[104, 116, 116, 112, 115, 58, 47, 47, 97, 46, 98]⟩, 1, false, none, 0, 0, [], 2, 0, 0, 0⟩
theorem md_ask1000 (g : Nat) : askI (mdR1000 g).q = 7 := by kernel_rfl
theorem md_need1000 (g : Nat) : needsQ (mdR1000 g).q = false := by kernel_rfl
set_option maxRecDepth 100000 in
set_option maxHeartbeats 4000000 in
theorem md_1000 (a1 : Int) (w : World) (hk : lowV a1 3 = 0) (he : Env8 w) :
    Calls Tryz.prog 5 #[.bool true, .int .i64 a1, .bool false, .bool false] w fun e w' => e = .returned (.bool true) ∧ Below w.heap.size w w' := by
  obtain ⟨w0, hW⟩ : ∃ W, W = (w.alloc (Obj.cells #[.string ⟨#[71, 69, 84]⟩, .string ⟨#[104, 116, 116, 112, 115, 58, 47, 47, 97, 46, 98, 58, 52, 52, 52, 47, 120]⟩, .string ⟨#[104, 116, 116, 112, 115, 58, 47, 47, 97, 46, 98]⟩, .int .i64 1, .bool false, .slice none 0 0, .int .i64 2, .int .u64 0, .int .i64 0, .int .i64 0] 25)) := ⟨_, rfl⟩
  have HN0 : Hid (MdF w w0 (mdR1000 w.heap.size)) := by rw [hW]; exact MdF.new he (mdR1000 w.heap.size) _ rfl rfl (by dsimp only [mdR1000]; decide) (by dsimp only [mdR1000]; decide) (by dsimp only [mdR1000]; decide)
  have HK := Lib.hid hk
  clear hk he
  go_enter Tryz.func5, Tryz.ntmps5
  go_wp2_with fail
  refine (Low_any a1 3 _ (by omega) (by omega)).mono ?_
  rintro e w' ⟨rfl, rfl⟩
  rw [HK.out]
  go_wp2_with fail
  rw [← hW]
  clear hW
  refine (aCheck_any (mdR1000 w.heap.size) _ HN0.out.kr HN0.out.env).mono ?_
  rintro e w1 ⟨rfl, hb⟩
  rw [md_ask1000]
  have HN1 : Hid (MdF w w1 (mdR1000 w.heap.size)) := HN0.out.next hb
  clear hb
  obtain ⟨r0, r1, r2, r3, r4, r5, r6, r7, r8, r9⟩ := HN1.out.ar
  dsimp only [mdR1000] at r0 r1 r2 r3 r4 r5 r6 r7 r8 r9
  go_wp2_with fail
  refine (aNeeds_any (mdR1000 w.heap.size) _ HN1.out.kr HN1.out.env).mono ?_
  rintro e w2 ⟨rfl, hb⟩
  rw [md_need1000]
  have HN2 : Hid (MdF w w2 (mdR1000 w.heap.size)) := HN1.out.next hb
  clear hb r0 r1 r2 r3 r4 r5 r6 r7 r8 r9
  go_wp2_with fail
  refine (awake8_any _ HN2.out.env).mono ?_
  rintro e w3 ⟨rfl, hb⟩
  go_wp2
  go_ret
  exact ⟨rfl, HN2.out.bel.trans (hb.mono HN2.out.bel.size)⟩

def mdR1001 (_g : Nat) : Rv := ⟨⟨#[71, 69, 84]⟩, ⟨#[104, 116, 116, 112, 115, 58, 47, 47, 97, 46, 98, 58, 52, 52, 52, 47, 120]⟩, ⟨#[104, 116, 116, 112, 115, 58, 47, 47, 97, 46, 98]⟩, 2, false, none, 0, 0, [], 2, 0, 0, 0⟩
theorem md_ask1001 (g : Nat) : askI (mdR1001 g).q = 0 := by kernel_rfl
theorem md_need1001 (g : Nat) : needsQ (mdR1001 g).q = false := by kernel_rfl
theorem md_cross1001 (g : Nat) : crossQ (mdR1001 g).q = true := by kernel_rfl
set_option maxRecDepth 100000 in
set_option maxHeartbeats 4000000 in
theorem md_1001 (a1 : Int) (w : World) (hk : lowV a1 3 = 1) (he : Env8 w) :
    Calls Tryz.prog 5 #[.bool true, .int .i64 a1, .bool false, .bool false] w fun e w' => e = .returned (.bool true) ∧ Below w.heap.size w w' := by
  obtain ⟨w0, hW⟩ : ∃ W, W = (w.alloc (Obj.cells #[.string ⟨#[71, 69, 84]⟩, .string ⟨#[104, 116, 116, 112, 115, 58, 47, 47, 97, 46, 98, 58, 52, 52, 52, 47, 120]⟩, .string ⟨#[104, 116, 116, 112, 115, 58, 47, 47, 97, 46, 98]⟩, .int .i64 2, .bool false, .slice none 0 0, .int .i64 2, .int .u64 0, .int .i64 0, .int .i64 0] 25)) := ⟨_, rfl⟩
  have HN0 : Hid (MdF w w0 (mdR1001 w.heap.size)) := by rw [hW]; exact MdF.new he (mdR1001 w.heap.size) _ rfl rfl (by dsimp only [mdR1001]; decide) (by dsimp only [mdR1001]; decide) (by dsimp only [mdR1001]; decide)
  have HK := Lib.hid hk
  clear hk he
  go_enter Tryz.func5, Tryz.ntmps5
  go_wp2_with fail
  refine (Low_any a1 3 _ (by omega) (by omega)).mono ?_
  rintro e w' ⟨rfl, rfl⟩
  rw [HK.out]
  go_wp2_with fail
  rw [← hW]
  clear hW
  refine mix_start (fun W => MdF w W (mdR1001 w.heap.size)) (by kernel_rfl) ?_
  have hne : Nonempty (Held (fun W => MdF w W (mdR1001 w.heap.size))) := ⟨⟨_, HN0.out⟩⟩
  have zz0 : ∀ q : Held (fun W => MdF w W (mdR1001 w.heap.size)), q.w.cell? ⟨w.heap.size, 0, none⟩ = some (.string ⟨#[71, 69, 84]⟩) := fun q => q.h.ar.c0
  have zz1 : ∀ q : Held (fun W => MdF w W (mdR1001 w.heap.size)), q.w.cell? ⟨w.heap.size, 1, none⟩ = some (.string ⟨#[104, 116, 116, 112, 115, 58, 47, 47, 97, 46, 98, 58, 52, 52, 52, 47, 120]⟩) := fun q => q.h.ar.c1
  have zz2 : ∀ q : Held (fun W => MdF w W (mdR1001 w.heap.size)), q.w.cell? ⟨w.heap.size, 2, none⟩ = some (.string ⟨#[104, 116, 116, 112, 115, 58, 47, 47, 97, 46, 98]⟩) := fun q => q.h.ar.c2
  have zz3 : ∀ q : Held (fun W => MdF w W (mdR1001 w.heap.size)), q.w.cell? ⟨w.heap.size, 3, none⟩ = some (.int .i64 2) := fun q => q.h.ar.c3
  have zz4 : ∀ q : Held (fun W => MdF w W (mdR1001 w.heap.size)), q.w.cell? ⟨w.heap.size, 4, none⟩ = some (.bool false) := fun q => q.h.ar.c4
  have zz5 : ∀ q : Held (fun W => MdF w W (mdR1001 w.heap.size)), q.w.cell? ⟨w.heap.size, 5, none⟩ = some (.slice none 0 0) := fun q => q.h.ar.c5
  have zz6 : ∀ q : Held (fun W => MdF w W (mdR1001 w.heap.size)), q.w.cell? ⟨w.heap.size, 6, none⟩ = some (.int .i64 2) := fun q => q.h.ar.c6
  have zz7 : ∀ q : Held (fun W => MdF w W (mdR1001 w.heap.size)), q.w.cell? ⟨w.heap.size, 7, none⟩ = some (.int .u64 0) := fun q => q.h.ar.c7
  have zz8 : ∀ q : Held (fun W => MdF w W (mdR1001 w.heap.size)), q.w.cell? ⟨w.heap.size, 8, none⟩ = some (.int .i64 0) := fun q => q.h.ar.c8
  have zz9 : ∀ q : Held (fun W => MdF w W (mdR1001 w.heap.size)), q.w.cell? ⟨w.heap.size, 9, none⟩ = some (.int .i64 0) := fun q => q.h.ar.c9
  obtain ⟨w1, hwd⟩ : ∃ W, W = w0.drew := ⟨_, rfl⟩
  rw [← hwd]
  have hb : Below w0.heap.size w0 w1 := by rw [hwd]; exact (Below.refl _ _).drew
  have HN1 : Hid (MdF w w1 (mdR1001 w.heap.size)) := HN0.out.next hb
  clear hb hwd
  refine mix_seg [0] (by kernel_rfl) HN1.out ?_
  simp only [segOf, pickOps, pickOp]
  repeat (go_big_quiet_step (fail))
  refine wpQuiet_nil ?_
  refine mix_run 1 (by kernel_rfl) ?_
  simp only [segOf, pickOps, pickOp]
  go_wp2_with fail
  refine (aCheck_any (mdR1001 w.heap.size) _ HN1.out.kr HN1.out.env).mono ?_
  rintro e w2 ⟨rfl, hb⟩
  rw [md_ask1001]
  have HN2 : Hid (MdF w w2 (mdR1001 w.heap.size)) := HN1.out.next hb
  clear hb
  go_wp2_with fail
  refine MixPost.normal HN2.out ?_
  refine mix_seg [2, 3, 4, 6] (by kernel_rfl) HN2.out ?_
  simp only [segOf, pickOps, pickOp]
  repeat (go_big_quiet_step (fail))
  refine wpQuiet_nil ?_
  refine mix_run 5 (by kernel_rfl) ?_
  simp only [segOf, pickOps, pickOp]
  go_wp2_with fail
  refine (aCross_any (mdR1001 w.heap.size) _ HN2.out.kr HN2.out.env).mono ?_
  rintro e w3 ⟨rfl, hb⟩
  rw [md_cross1001]
  have HN3 : Hid (MdF w w3 (mdR1001 w.heap.size)) := HN2.out.next hb
  clear hb
  go_wp2_with fail
  refine MixPost.normal HN3.out ?_
  refine mix_seg [7, 8, 9, 10, 12, 13, 14] (by kernel_rfl) HN3.out ?_
  simp only [segOf, pickOps, pickOp]
  repeat (go_big_quiet_step (fail))
  refine wpQuiet_nil ?_
  refine mix_run 11 (by kernel_rfl) ?_
  simp only [segOf, pickOps, pickOp]
  go_wp2_with fail
  refine (aNeeds_any (mdR1001 w.heap.size) _ HN3.out.kr HN3.out.env).mono ?_
  rintro e w4 ⟨rfl, hb⟩
  rw [md_need1001]
  have HN4 : Hid (MdF w w4 (mdR1001 w.heap.size)) := HN3.out.next hb
  clear hb
  go_wp2_with fail
  refine MixPost.normal HN4.out ?_
  refine mix_seg [15, 16, 17, 18, 19, 20, 21, 22, 23, 24, 25, 26] (by kernel_rfl) HN4.out ?_
  simp only [segOf, pickOps, pickOp]
  repeat (go_big_quiet_step (fail))
  refine wpQuiet_nil ?_
  refine mix_run 27 (by kernel_rfl) ?_
  simp only [segOf, pickOps, pickOp]
  go_wp2_with fail
  refine (awake8_any _ HN4.out.env).mono ?_
  rintro e w5 ⟨rfl, hb⟩
  have HN5 : Hid (MdF w w5 (mdR1001 w.heap.size)) := HN4.out.next hb
  clear hb
  go_wp2_with fail
  refine MixPost.normal HN5.out ?_
  refine mix_seg [28, 29] (by kernel_rfl) HN5.out ?_
  simp only [segOf, pickOps, pickOp]
  repeat (go_big_quiet_step (fail))
  refine wpQuiet_nil ?_
  refine mix_done (by kernel_rfl) ?_
  go_wp2
  go_ret
  exact ⟨rfl, HN5.out.bel⟩

def mdR1002 (_g : Nat) : Rv := ⟨⟨#[71, 69, 84]⟩, ⟨#[104, 116, 116, 112, 115, 58, 47, 47, 97, 46, 98, 58, 52, 52, 52, 47, 120]⟩, ⟨#[104, 116, 116, 112, 115, 58, 47, 47, 97, 46, 98]⟩, 3, false, none, 0, 0, [], 2, 0, 0, 0⟩
theorem md_ask1002 (g : Nat) : askI (mdR1002 g).q = 0 := by kernel_rfl
theorem md_need1002 (g : Nat) : needsQ (mdR1002 g).q = false := by kernel_rfl
theorem md_cross1002 (g : Nat) : crossQ (mdR1002 g).q = true := by kernel_rfl
set_option maxRecDepth 100000 in
set_option maxHeartbeats 4000000 in
theorem md_1002 (a1 : Int) (w : World) (hk : lowV a1 3 = 2) (he : Env8 w) :
    Calls Tryz.prog 5 #[.bool true, .int .i64 a1, .bool false, .bool false] w fun e w' => e = .returned (.bool true) ∧ Below w.heap.size w w' := by
  obtain ⟨w0, hW⟩ : ∃ W, W = (w.alloc (Obj.cells #[.string ⟨#[71, 69, 84]⟩, .string ⟨#[104, 116, 116, 112, 115, 58, 47, 47, 97, 46, 98, 58, 52, 52, 52, 47, 120]⟩, .string ⟨#[104, 116, 116, 112, 115, 58, 47, 47, 97, 46, 98]⟩, .int .i64 3, .bool false, .slice none 0 0, .int .i64 2, .int .u64 0, .int .i64 0, .int .i64 0] 25)) := ⟨_, rfl⟩
  have HN0 : Hid (MdF w w0 (mdR1002 w.heap.size)) := by rw [hW]; exact MdF.new he (mdR1002 w.heap.size) _ rfl rfl (by dsimp only [mdR1002]; decide) (by dsimp only [mdR1002]; decide) (by dsimp only [mdR1002]; decide)
  have HK := Lib.hid hk
  clear hk he
  go_enter Tryz.func5, Tryz.ntmps5
  go_wp2_with fail
  refine (Low_any a1 3 _ (by omega) (by omega)).mono ?_
  rintro e w' ⟨rfl, rfl⟩
  rw [HK.out]
  go_wp2_with fail
  rw [← hW]
  clear hW
  refine mix_start (fun W => MdF w W (mdR1002 w.heap.size)) (by kernel_rfl) ?_
  have hne : Nonempty (Held (fun W => MdF w W (mdR1002 w.heap.size))) := ⟨⟨_, HN0.out⟩⟩
  have zz0 : ∀ q : Held (fun W => MdF w W (mdR1002 w.heap.size)), q.w.cell? ⟨w.heap.size, 0, none⟩ = some (.string ⟨#[71, 69, 84]⟩) := fun q => q.h.ar.c0
  have zz1 : ∀ q : Held (fun W => MdF w W (mdR1002 w.heap.size)), q.w.cell? ⟨w.heap.size, 1, none⟩ = some (.string ⟨#[104, 116, 116, 112, 115, 58, 47, 47, 97, 46, 98, 58, 52, 52, 52, 47, 120]⟩) := fun q => q.h.ar.c1
  have zz2 : ∀ q : Held (fun W => MdF w W (mdR1002 w.heap.size)), q.w.cell? ⟨w.heap.size, 2, none⟩ = some (.string ⟨#[104, 116, 116, 112, 115, 58, 47, 47, 97, 46, 98]⟩) := fun q => q.h.ar.c2
  have zz3 : ∀ q : Held (fun W => MdF w W (mdR1002 w.heap.size)), q.w.cell? ⟨w.heap.size, 3, none⟩ = some (.int .i64 3) := fun q => q.h.ar.c3
  have zz4 : ∀ q : Held (fun W => MdF w W (mdR1002 w.heap.size)), q.w.cell? ⟨w.heap.size, 4, none⟩ = some (.bool false) := fun q => q.h.ar.c4
  have zz5 : ∀ q : Held (fun W => MdF w W (mdR1002 w.heap.size)), q.w.cell? ⟨w.heap.size, 5, none⟩ = some (.slice none 0 0) := fun q => q.h.ar.c5
  have zz6 : ∀ q : Held (fun W => MdF w W (mdR1002 w.heap.size)), q.w.cell? ⟨w.heap.size, 6, none⟩ = some (.int .i64 2) := fun q => q.h.ar.c6
  have zz7 : ∀ q : Held (fun W => MdF w W (mdR1002 w.heap.size)), q.w.cell? ⟨w.heap.size, 7, none⟩ = some (.int .u64 0) := fun q => q.h.ar.c7
  have zz8 : ∀ q : Held (fun W => MdF w W (mdR1002 w.heap.size)), q.w.cell? ⟨w.heap.size, 8, none⟩ = some (.int .i64 0) := fun q => q.h.ar.c8
  have zz9 : ∀ q : Held (fun W => MdF w W (mdR1002 w.heap.size)), q.w.cell? ⟨w.heap.size, 9, none⟩ = some (.int .i64 0) := fun q => q.h.ar.c9
  obtain ⟨w1, hwd⟩ : ∃ W, W = w0.drew := ⟨_, rfl⟩
  rw [← hwd]
  have hb : Below w0.heap.size w0 w1 := by rw [hwd]; exact (Below.refl _ _).drew
  have HN1 : Hid (MdF w w1 (mdR1002 w.heap.size)) := HN0.out.next hb
  clear hb hwd
  refine mix_seg [0] (by kernel_rfl) HN1.out ?_
  simp only [segOf, pickOps, pickOp]
  repeat (go_big_quiet_step (fail))
  refine wpQuiet_nil ?_
  refine mix_run 1 (by kernel_rfl) ?_
  simp only [segOf, pickOps, pickOp]
  go_wp2_with fail
  refine (aCheck_any (mdR1002 w.heap.size) _ HN1.out.kr HN1.out.env).mono ?_
  rintro e w2 ⟨rfl, hb⟩
  rw [md_ask1002]
  have HN2 : Hid (MdF w w2 (mdR1002 w.heap.size)) := HN1.out.next hb
  clear hb
  go_wp2_with fail
  refine MixPost.normal HN2.out ?_
  refine mix_seg [2, 3, 4, 6] (by kernel_rfl) HN2.out ?_
  simp only [segOf, pickOps, pickOp]
  repeat (go_big_quiet_step (fail))
  refine wpQuiet_nil ?_
  refine mix_run 5 (by kernel_rfl) ?_
  simp only [segOf, pickOps, pickOp]
  go_wp2_with fail
  refine (aCross_any (mdR1002 w.heap.size) _ HN2.out.kr HN2.out.env).mono ?_
  rintro e w3 ⟨rfl, hb⟩
  rw [md_cross1002]
  have HN3 : Hid (MdF w w3 (mdR1002 w.heap.size)) := HN2.out.next hb
  clear hb
  go_wp2_with fail
  refine MixPost.normal HN3.out ?_
  refine mix_seg [7, 8, 9, 10, 12, 13, 14] (by kernel_rfl) HN3.out ?_
  simp only [segOf, pickOps, pickOp]
  repeat (go_big_quiet_step (fail))
  refine wpQuiet_nil ?_
  refine mix_run 11 (by kernel_rfl) ?_
  simp only [segOf, pickOps, pickOp]
  go_wp2_with fail
  refine (aNeeds_any (mdR1002 w.heap.size) _ HN3.out.kr HN3.out.env).mono ?_
  rintro e w4 ⟨rfl, hb⟩
  rw [md_need1002]
  have HN4 : Hid (MdF w w4 (mdR1002 w.heap.size)) := HN3.out.next hb
  clear hb
  go_wp2_with fail
  refine MixPost.normal HN4.out ?_
  refine mix_seg [15, 16, 17, 18, 19, 20, 21, 22, 23, 24, 25, 26] (by kernel_rfl) HN4.out ?_
  simp only [segOf, pickOps, pickOp]
  repeat (go_big_quiet_step (fail))
  refine wpQuiet_nil ?_
  refine mix_run 27 (by kernel_rfl) ?_
  simp only [segOf, pickOps, pickOp]
  go_wp2_with fail
  refine (awake8_any _ HN4.out.env).mono ?_
  rintro e w5 ⟨rfl, hb⟩
  have HN5 : Hid (MdF w w5 (mdR1002 w.heap.size)) := HN4.out.next hb
  clear hb
  go_wp2_with fail
  refine MixPost.normal HN5.out ?_
  refine mix_seg [28, 29] (by kernel_rfl) HN5.out ?_
  simp only [segOf, pickOps, pickOp]
  repeat (go_big_quiet_step (fail))
  refine wpQuiet_nil ?_
  refine mix_done (by kernel_rfl) ?_
  go_wp2
  go_ret
  exact ⟨rfl, HN5.out.bel⟩

def mdR1010 (g : Nat) : Rv := ⟨⟨#[71, 69, 84]⟩, ⟨#[104, 116, 116, 112, 115, 58, 47, 47, 97, 46, 98, 58, 52, 52, 52, 47, 120]⟩, ⟨#[104, 116, 116, 112, 115, 58, 47, 47, 97, 46, 98]⟩, 1, false, some ⟨g + 1, 0, none⟩, 1, 1, [(⟨#[88, 45, 79, 119, 110]⟩, ⟨#[49]⟩)], 2, 0, 0, 0⟩
theorem md_ask1010 (g : Nat) : askI (mdR1010 g).q = 7 := by kernel_rfl
theorem md_need1010 (g : Nat) : needsQ (mdR1010 g).q = false := by kernel_rfl
set_option maxRecDepth 100000 in
set_option maxHeartbeats 4000000 in
theorem md_1010 (a1 : Int) (w : World) (hk : lowV a1 3 = 0) (he : Env8 w) :
    Calls Tryz.prog 5 #[.bool true, .int .i64 a1, .bool false, .bool true] w fun e w' => e = .returned (.bool true) ∧ Below w.heap.size w w' := by
  obtain ⟨w0, hW⟩ : ∃ W, W = (w.alloc (Obj.cells #[.string ⟨#[71, 69, 84]⟩, .string ⟨#[104, 116, 116, 112, 115, 58, 47, 47, 97, 46, 98, 58, 52, 52, 52, 47, 120]⟩, .string ⟨#[104, 116, 116, 112, 115, 58, 47, 47, 97, 46, 98]⟩, .int .i64 1, .bool false, .slice (some ⟨w.heap.size + 1, 0, none⟩) 1 1, .int .i64 2, .int .u64 0, .int .i64 0, .int .i64 0] 25)).alloc (Obj.cells #[.string ⟨#[88, 45, 79, 119, 110]⟩, .string ⟨#[49]⟩] 44) := ⟨_, rfl⟩
  have HN0 : Hid (MdF w w0 (mdR1010 w.heap.size)) := by rw [hW]; exact MdF.own he (mdR1010 w.heap.size) _ _ rfl rfl rfl (by dsimp only [mdR1010]; decide) (by dsimp only [mdR1010]; decide) (by dsimp only [mdR1010]; decide)
  have HK := Lib.hid hk
  clear hk he
  go_enter Tryz.func5, Tryz.ntmps5
  go_wp2_with fail
  refine (Low_any a1 3 _ (by omega) (by omega)).mono ?_
  rintro e w' ⟨rfl, rfl⟩
  rw [HK.out]
  go_wp2_with fail
  rw [← hW]
  clear hW
  refine (aCheck_any (mdR1010 w.heap.size) _ HN0.out.kr HN0.out.env).mono ?_
  rintro e w1 ⟨rfl, hb⟩
  rw [md_ask1010]
  have HN1 : Hid (MdF w w1 (mdR1010 w.heap.size)) := HN0.out.next hb
  clear hb
  obtain ⟨r0, r1, r2, r3, r4, r5, r6, r7, r8, r9⟩ := HN1.out.ar
  dsimp only [mdR1010] at r0 r1 r2 r3 r4 r5 r6 r7 r8 r9
  go_wp2_with fail
  refine (aNeeds_any (mdR1010 w.heap.size) _ HN1.out.kr HN1.out.env).mono ?_
  rintro e w2 ⟨rfl, hb⟩
  rw [md_need1010]
  have HN2 : Hid (MdF w w2 (mdR1010 w.heap.size)) := HN1.out.next hb
  clear hb r0 r1 r2 r3 r4 r5 r6 r7 r8 r9
  go_wp2_with fail
  refine (awake8_any _ HN2.out.env).mono ?_
  rintro e w3 ⟨rfl, hb⟩
  go_wp2
  go_ret
  exact ⟨rfl, HN2.out.bel.trans (hb.mono HN2.out.bel.size)⟩

def mdR1011 (g : Nat) : Rv := ⟨⟨#[71, 69, 84]⟩, ⟨#[104, 116, 116, 112, 115, 58, 47, 47, 97, 46, 98, 58, 52, 52, 52, 47, 120]⟩, ⟨#[104, 116, 116, 112, 115, 58, 47, 47, 97, 46, 98]⟩, 2, false, some ⟨g + 1, 0, none⟩, 1, 1, [(⟨#[88, 45, 79, 119, 110]⟩, ⟨#[49]⟩)], 2, 0, 0, 0⟩
theorem md_ask1011 (g : Nat) : askI (mdR1011 g).q = 7 := by kernel_rfl
theorem md_need1011 (g : Nat) : needsQ (mdR1011 g).q = false := by kernel_rfl
set_option maxRecDepth 100000 in
set_option maxHeartbeats 4000000 in
theorem md_1011 (a1 : Int) (w : World) (hk : lowV a1 3 = 1) (he : Env8 w) :
    Calls Tryz.prog 5 #[.bool true, .int .i64 a1, .bool false, .bool true] w fun e w' => e = .returned (.bool true) ∧ Below w.heap.size w w' := by
  obtain ⟨w0, hW⟩ : ∃ W, W = (w.alloc (Obj.cells #[.string ⟨#[71, 69, 84]⟩, .string ⟨#[104, 116, 116, 112, 115, 58, 47, 47, 97, 46, 98, 58, 52, 52, 52, 47, 120]⟩, .string ⟨#[104, 116, 116, 112, 115, 58, 47, 47, 97, 46, 98]⟩, .int .i64 2, .bool false, .slice (some ⟨w.heap.size + 1, 0, none⟩) 1 1, .int .i64 2, .int .u64 0, .int .i64 0, .int .i64 0] 25)).alloc (Obj.cells #[.string ⟨#[88, 45, 79, 119, 110]⟩, .string ⟨#[49]⟩] 44) := ⟨_, rfl⟩
  have HN0 : Hid (MdF w w0 (mdR1011 w.heap.size)) := by rw [hW]; exact MdF.own he (mdR1011 w.heap.size) _ _ rfl rfl rfl (by dsimp only [mdR1011]; decide) (by dsimp only [mdR1011]; decide) (by dsimp only [mdR1011]; decide)
  have HK := Lib.hid hk
  clear hk he
  go_enter Tryz.func5, Tryz.ntmps5
  go_wp2_with fail
  refine (Low_any a1 3 _ (by omega) (by omega)).mono ?_
  rintro e w' ⟨rfl, rfl⟩
  rw [HK.out]
  go_wp2_with fail
  rw [← hW]
  clear hW
  refine (aCheck_any (mdR1011 w.heap.size) _ HN0.out.kr HN0.out.env).mono ?_
  rintro e w1 ⟨rfl, hb⟩
  rw [md_ask1011]
  have HN1 : Hid (MdF w w1 (mdR1011 w.heap.size)) := HN0.out.next hb
  clear hb
  obtain ⟨r0, r1, r2, r3, r4, r5, r6, r7, r8, r9⟩ := HN1.out.ar
  dsimp only [mdR1011] at r0 r1 r2 r3 r4 r5 r6 r7 r8 r9
  go_wp2_with fail
  refine (aNeeds_any (mdR1011 w.heap.size) _ HN1.out.kr HN1.out.env).mono ?_
  rintro e w2 ⟨rfl, hb⟩
  rw [md_need1011]
  have HN2 : Hid (MdF w w2 (mdR1011 w.heap.size)) := HN1.out.next hb
  clear hb r0 r1 r2 r3 r4 r5 r6 r7 r8 r9
  go_wp2_with fail
  refine (awake8_any _ HN2.out.env).mono ?_
  rintro e w3 ⟨rfl, hb⟩
  go_wp2
  go_ret
  exact ⟨rfl, HN2.out.bel.trans (hb.mono HN2.out.bel.size)⟩

def mdR1012 (g : Nat) : Rv := ⟨⟨#[71, 69, 84]⟩, ⟨#[104, 116, 116, 112, 115, 58, 47, 47, 97, 46, 98, 58, 52, 52, 52, 47, 120]⟩, ⟨#[104, 116, 116, 112, 115, 58, 47, 47, 97, 46, 98]⟩, 3, false, some ⟨g + 1, 0, none⟩, 1, 1, [(⟨#[88, 45, 79, 119, 110]⟩, ⟨#[49]⟩)], 2, 0, 0, 0⟩
theorem md_ask1012 (g : Nat) : askI (mdR1012 g).q = 0 := by kernel_rfl
theorem md_need1012 (g : Nat) : needsQ (mdR1012 g).q = true := by kernel_rfl
theorem md_cross1012 (g : Nat) : crossQ (mdR1012 g).q = true := by kernel_rfl
set_option maxRecDepth 100000 in
set_option maxHeartbeats 4000000 in
theorem md_1012 (a1 : Int) (w : World) (hk : lowV a1 3 = 2) (he : Env8 w) :
    Calls Tryz.prog 5 #[.bool true, .int .i64 a1, .bool false, .bool true] w fun e w' => e = .returned (.bool true) ∧ Below w.heap.size w w' := by
  obtain ⟨w0, hW⟩ : ∃ W, W = (w.alloc (Obj.cells #[.string ⟨#[71, 69, 84]⟩, .string ⟨#[104, 116, 116, 112, 115, 58, 47, 47, 97, 46, 98, 58, 52, 52, 52, 47, 120]⟩, .string ⟨#[104, 116, 116, 112, 115, 58, 47, 47, 97, 46, 98]⟩, .int .i64 3, .bool false, .slice (some ⟨w.heap.size + 1, 0, none⟩) 1 1, .int .i64 2, .int .u64 0, .int .i64 0, .int .i64 0] 25)).alloc (Obj.cells #[.string ⟨#[88, 45, 79, 119, 110]⟩, .string ⟨#[49]⟩] 44) := ⟨_, rfl⟩
  have HN0 : Hid (MdF w w0 (mdR1012 w.heap.size)) := by rw [hW]; exact MdF.own he (mdR1012 w.heap.size) _ _ rfl rfl rfl (by dsimp only [mdR1012]; decide) (by dsimp only [mdR1012]; decide) (by dsimp only [mdR1012]; decide)
  have HK := Lib.hid hk
  clear hk he
  go_enter Tryz.func5, Tryz.ntmps5
  go_wp2_with fail
  refine (Low_any a1 3 _ (by omega) (by omega)).mono ?_
  rintro e w' ⟨rfl, rfl⟩
  rw [HK.out]
  go_wp2_with fail
  rw [← hW]
  clear hW
  refine mix_start (fun W => MdF w W (mdR1012 w.heap.size)) (by kernel_rfl) ?_
  have hne : Nonempty (Held (fun W => MdF w W (mdR1012 w.heap.size))) := ⟨⟨_, HN0.out⟩⟩
  have zz0 : ∀ q : Held (fun W => MdF w W (mdR1012 w.heap.size)), q.w.cell? ⟨w.heap.size, 0, none⟩ = some (.string ⟨#[71, 69, 84]⟩) := fun q => q.h.ar.c0
  have zz1 : ∀ q : Held (fun W => MdF w W (mdR1012 w.heap.size)), q.w.cell? ⟨w.heap.size, 1, none⟩ = some (.string ⟨#[104, 116, 116, 112, 115, 58, 47, 47, 97, 46, 98, 58, 52, 52, 52, 47, 120]⟩) := fun q => q.h.ar.c1
  have zz2 : ∀ q : Held (fun W => MdF w W (mdR1012 w.heap.size)), q.w.cell? ⟨w.heap.size, 2, none⟩ = some (.string ⟨#[104, 116, 116, 112, 115, 58, 47, 47, 97, 46, 98]⟩) := fun q => q.h.ar.c2
  have zz3 : ∀ q : Held (fun W => MdF w W (mdR1012 w.heap.size)), q.w.cell? ⟨w.heap.size, 3, none⟩ = some (.int .i64 3) := fun q => q.h.ar.c3
  have zz4 : ∀ q : Held (fun W => MdF w W (mdR1012 w.heap.size)), q.w.cell? ⟨w.heap.size, 4, none⟩ = some (.bool false) := fun q => q.h.ar.c4
  have zz5 : ∀ q : Held (fun W => MdF w W (mdR1012 w.heap.size)), q.w.cell? ⟨w.heap.size, 5, none⟩ = some (.slice (some ⟨w.heap.size + 1, 0, none⟩) 1 1) := fun q => q.h.ar.c5
  have zz6 : ∀ q : Held (fun W => MdF w W (mdR1012 w.heap.size)), q.w.cell? ⟨w.heap.size, 6, none⟩ = some (.int .i64 2) := fun q => q.h.ar.c6
  have zz7 : ∀ q : Held (fun W => MdF w W (mdR1012 w.heap.size)), q.w.cell? ⟨w.heap.size, 7, none⟩ = some (.int .u64 0) := fun q => q.h.ar.c7
  have zz8 : ∀ q : Held (fun W => MdF w W (mdR1012 w.heap.size)), q.w.cell? ⟨w.heap.size, 8, none⟩ = some (.int .i64 0) := fun q => q.h.ar.c8
  have zz9 : ∀ q : Held (fun W => MdF w W (mdR1012 w.heap.size)), q.w.cell? ⟨w.heap.size, 9, none⟩ = some (.int .i64 0) := fun q => q.h.ar.c9
  obtain ⟨w1, hwd⟩ : ∃ W, W = w0.drew := ⟨_, rfl⟩
  rw [← hwd]
  have hb : Below w0.heap.size w0 w1 := by rw [hwd]; exact (Below.refl _ _).drew
  have HN1 : Hid (MdF w w1 (mdR1012 w.heap.size)) := HN0.out.next hb
  clear hb hwd
  refine mix_seg [0] (by kernel_rfl) HN1.out ?_
  simp only [segOf, pickOps, pickOp]
  repeat (go_big_quiet_step (fail))
  refine wpQuiet_nil ?_
  refine mix_run 1 (by kernel_rfl) ?_
  simp only [segOf, pickOps, pickOp]
  go_wp2_with fail
  refine (aCheck_any (mdR1012 w.heap.size) _ HN1.out.kr HN1.out.env).mono ?_
  rintro e w2 ⟨rfl, hb⟩
  rw [md_ask1012]
  have HN2 : Hid (MdF w w2 (mdR1012 w.heap.size)) := HN1.out.next hb
  clear hb
  go_wp2_with fail
  refine MixPost.normal HN2.out ?_
  refine mix_seg [2, 3, 4, 6] (by kernel_rfl) HN2.out ?_
  simp only [segOf, pickOps, pickOp]
  repeat (go_big_quiet_step (fail))
  refine wpQuiet_nil ?_
  refine mix_run 5 (by kernel_rfl) ?_
  simp only [segOf, pickOps, pickOp]
  go_wp2_with fail
  refine (aCross_any (mdR1012 w.heap.size) _ HN2.out.kr HN2.out.env).mono ?_
  rintro e w3 ⟨rfl, hb⟩
  rw [md_cross1012]
  have HN3 : Hid (MdF w w3 (mdR1012 w.heap.size)) := HN2.out.next hb
  clear hb
  go_wp2_with fail
  refine MixPost.normal HN3.out ?_
  refine mix_seg [7, 8, 9, 10, 12, 13, 14] (by kernel_rfl) HN3.out ?_
  simp only [segOf, pickOps, pickOp]
  repeat (go_big_quiet_step (fail))
  refine wpQuiet_nil ?_
  refine mix_run 11 (by kernel_rfl) ?_
  simp only [segOf, pickOps, pickOp]
  go_wp2_with fail
  refine (aNeeds_any (mdR1012 w.heap.size) _ HN3.out.kr HN3.out.env).mono ?_
  rintro e w4 ⟨rfl, hb⟩
  rw [md_need1012]
  have HN4 : Hid (MdF w w4 (mdR1012 w.heap.size)) := HN3.out.next hb
  clear hb
  go_wp2_with fail
  refine MixPost.normal HN4.out ?_
  refine mix_seg [15, 16, 17, 18, 19, 20, 21, 22, 23, 24, 25, 26] (by kernel_rfl) HN4.out ?_
  simp only [segOf, pickOps, pickOp]
  repeat (go_big_quiet_step (fail))
  refine wpQuiet_nil ?_
  refine mix_run 27 (by kernel_rfl) ?_
  simp only [segOf, pickOps, pickOp]
  go_wp2_with fail
  refine (awake8_any _ HN4.out.env).mono ?_
  rintro e w5 ⟨rfl, hb⟩
  have HN5 : Hid (MdF w w5 (mdR1012 w.heap.size)) := HN4.out.next hb
  clear hb
  go_wp2_with fail
  refine MixPost.normal HN5.out ?_
  refine mix_seg [28, 29] (by kernel_rfl) HN5.out ?_
  simp only [segOf, pickOps, pickOp]
  repeat (go_big_quiet_step (fail))
  refine wpQuiet_nil ?_
  refine mix_done (by kernel_rfl) ?_
  go_wp2
  go_ret
  exact ⟨rfl, HN5.out.bel⟩

def mdR1100 (_g : Nat) : Rv := ⟨⟨#[112, 117, 116]⟩, ⟨#[104, 116, 116, 112, 115, 58, 47, 47, 97, 46, 98, 58, 52, 52, 52, 47, 120]⟩, ⟨#[104, 116, 116, 112, 115, 58, 47, 47, 97, 46, 98]⟩, 1, false, none, 0, 0, [], 2, 0, 0, 0⟩
theorem md_ask1100 (g : Nat) : askI (mdR1100 g).q = 7 := by kernel_rfl
theorem md_need1100 (g : Nat) : needsQ (mdR1100 g).q = false := by kernel_rfl
set_option maxRecDepth 100000 in
set_option maxHeartbeats 4000000 in
theorem md_1100 (a1 : Int) (w : World) (hk : lowV a1 3 = 0) (he : Env8 w) :
    Calls Tryz.prog 5 #[.bool true, .int .i64 a1, .bool true, .bool false] w fun e w' => e = .returned (.bool true) ∧ Below w.heap.size w w' := by
  obtain ⟨w0, hW⟩ : ∃ W, W = (w.alloc (Obj.cells #[.string ⟨#[112, 117, 116]⟩, .string ⟨#[104, 116, 116, 112, 115, 58, 47, 47, 97, 46, 98, 58, 52, 52, 52, 47, 120]⟩, .string ⟨#[104, 116, 116, 112, 115, 58, 47, 47, 97, 46, 98]⟩, .int .i64 1, .bool false, .slice none 0 0, .int .i64 2, .int .u64 0, .int .i64 0, .int .i64 0] 25)) := ⟨_, rfl⟩
  have HN0 : Hid (MdF w w0 (mdR1100 w.heap.size)) := by rw [hW]; exact MdF.new he (mdR1100 w.heap.size) _ rfl rfl (by dsimp only [mdR1100]; decide) (by dsimp only [mdR1100]; decide) (by dsimp only [mdR1100]; decide)
  have HK := Lib.hid hk
  clear hk he
  go_enter Tryz.func5, Tryz.ntmps5
  go_wp2_with fail
  refine (Low_any a1 3 _ (by omega) (by omega)).mono ?_
  rintro e w' ⟨rfl, rfl⟩
  rw [HK.out]
  go_wp2_with fail
  rw [← hW]
  clear hW
  refine (aCheck_any (mdR1100 w.heap.size) _ HN0.out.kr HN0.out.env).mono ?_
  rintro e w1 ⟨rfl, hb⟩
  rw [md_ask1100]
  have HN1 : Hid (MdF w w1 (mdR1100 w.heap.size)) := HN0.out.next hb
  clear hb
  obtain ⟨r0, r1, r2, r3, r4, r5, r6, r7, r8, r9⟩ := HN1.out.ar
  dsimp only [mdR1100] at r0 r1 r2 r3 r4 r5 r6 r7 r8 r9
  go_wp2_with fail
  refine (aNeeds_any (mdR1100 w.heap.size) _ HN1.out.kr HN1.out.env).mono ?_
  rintro e w2 ⟨rfl, hb⟩
  rw [md_need1100]
  have HN2 : Hid (MdF w w2 (mdR1100 w.heap.size)) := HN1.out.next hb
  clear hb r0 r1 r2 r3 r4 r5 r6 r7 r8 r9
  go_wp2_with fail
  refine (awake8_any _ HN2.out.env).mono ?_
  rintro e w3 ⟨rfl, hb⟩
  go_wp2
  go_ret
  exact ⟨rfl, HN2.out.bel.trans (hb.mono HN2.out.bel.size)⟩

def mdR1101 (_g : Nat) : Rv := ⟨⟨#[112, 117, 116]⟩, ⟨#[104, 116, 116, 112, 115, 58, 47, 47, 97, 46, 98, 58, 52, 52, 52, 47, 120]⟩, ⟨#[104, 116, 116, 112, 115, 58, 47, 47, 97, 46, 98]⟩, 2, false, none, 0, 0, [], 2, 0, 0, 0⟩
theorem md_ask1101 (g : Nat) : askI (mdR1101 g).q = 7 := by kernel_rfl
theorem md_need1101 (g : Nat) : needsQ (mdR1101 g).q = false := by kernel_rfl
set_option maxRecDepth 100000 in
set_option maxHeartbeats 4000000 in
theorem md_1101 (a1 : Int) (w : World) (hk : lowV a1 3 = 1) (he : Env8 w) :
    Calls Tryz.prog 5 #[.bool true, .int .i64 a1, .bool true, .bool false] w fun e w' => e = .returned (.bool true) ∧ Below w.heap.size w w' := by
  obtain ⟨w0, hW⟩ : ∃ W, W = (w.alloc (Obj.cells #[.string ⟨#[112, 117, 116]⟩, .string ⟨#[104, 116, 116, 112, 115, 58, 47, 47, 97, 46, 98, 58, 52, 52, 52, 47, 120]⟩, .string ⟨#[104, 116, 116, 112, 115, 58, 47, 47, 97, 46, 98]⟩, .int .i64 2, .bool false, .slice none 0 0, .int .i64 2, .int .u64 0, .int .i64 0, .int .i64 0] 25)) := ⟨_, rfl⟩
  have HN0 : Hid (MdF w w0 (mdR1101 w.heap.size)) := by rw [hW]; exact MdF.new he (mdR1101 w.heap.size) _ rfl rfl (by dsimp only [mdR1101]; decide) (by dsimp only [mdR1101]; decide) (by dsimp only [mdR1101]; decide)
  have HK := Lib.hid hk
  clear hk he
  go_enter Tryz.func5, Tryz.ntmps5
  go_wp2_with fail
  refine (Low_any a1 3 _ (by omega) (by omega)).mono ?_
  rintro e w' ⟨rfl, rfl⟩
  rw [HK.out]
  go_wp2_with fail
  rw [← hW]
  clear hW
  refine (aCheck_any (mdR1101 w.heap.size) _ HN0.out.kr HN0.out.env).mono ?_
  rintro e w1 ⟨rfl, hb⟩
  rw [md_ask1101]
  have HN1 : Hid (MdF w w1 (mdR1101 w.heap.size)) := HN0.out.next hb
  clear hb
  obtain ⟨r0, r1, r2, r3, r4, r5, r6, r7, r8, r9⟩ := HN1.out.ar
  dsimp only [mdR1101] at r0 r1 r2 r3 r4 r5 r6 r7 r8 r9
  go_wp2_with fail
  refine (aNeeds_any (mdR1101 w.heap.size) _ HN1.out.kr HN1.out.env).mono ?_
  rintro e w2 ⟨rfl, hb⟩
  rw [md_need1101]
  have HN2 : Hid (MdF w w2 (mdR1101 w.heap.size)) := HN1.out.next hb
  clear hb r0 r1 r2 r3 r4 r5 r6 r7 r8 r9
  go_wp2_with fail
  refine (awake8_any _ HN2.out.env).mono ?_
  rintro e w3 ⟨rfl, hb⟩
  go_wp2
  go_ret
  exact ⟨rfl, HN2.out.bel.trans (hb.mono HN2.out.bel.size)⟩

def mdR1102 (_g : Nat) : Rv := ⟨⟨#[112, 117, 116]⟩, ⟨#[104, 116, 116, 112, 115, 58, 47, 47, 97, 46, 98, 58, 52, 52, 52, 47, 120]⟩, ⟨#[104, 116, 116, 112, 115, 58, 47, 47, 97, 46, 98]⟩, 3, false, none, 0, 0, [], 2, 0, 0, 0⟩
theorem md_ask1102 (g : Nat) : askI (mdR1102 g).q = 0 := by kernel_rfl
theorem md_need1102 (g : Nat) : needsQ (mdR1102 g).q = true := by kernel_rfl
theorem md_cross1102 (g : Nat) : crossQ (mdR1102 g).q = true := by kernel_rfl
set_option maxRecDepth 100000 in
set_option maxHeartbeats 4000000 in
theorem md_1102 (a1 : Int) (w : World) (hk : lowV a1 3 = 2) (he : Env8 w) :
    Calls Tryz.prog 5 #[.bool true, .int .i64 a1, .bool true, .bool false] w fun e w' => e = .returned (.bool true) ∧ Below w.heap.size w w' := by
  obtain ⟨w0, hW⟩ : ∃ W, W = (w.alloc (Obj.cells #[.string ⟨#[112, 117, 116]⟩, .string ⟨#[104, 116, 116, 112, 115, 58, 47, 47, 97, 46, 98, 58, 52, 52, 52, 47, 120]⟩, .string ⟨#[104, 116, 116, 112, 115, 58, 47, 47, 97, 46, 98]⟩, .int .i64 3, .bool false, .slice none 0 0, .int .i64 2, .int .u64 0, .int .i64 0, .int .i64 0] 25)) := ⟨_, rfl⟩
  have HN0 : Hid (MdF w w0 (mdR1102 w.heap.size)) := by rw [hW]; exact MdF.new he (mdR1102 w.heap.size) _ rfl rfl (by dsimp only [mdR1102]; decide) (by dsimp only [mdR1102]; decide) (by dsimp only [mdR1102]; decide)
  have HK := Lib.hid hk
  clear hk he
  go_enter Tryz.func5, Tryz.ntmps5
  go_wp2_with fail
  refine (Low_any a1 3 _ (by omega) (by omega)).mono ?_
  rintro e w' ⟨rfl, rfl⟩
  rw [HK.out]
  go_wp2_with fail
  rw [← hW]
  clear hW
  refine mix_start (fun W => MdF w W (mdR1102 w.heap.size)) (by kernel_rfl) ?_
  have hne : Nonempty (Held (fun W => MdF w W (mdR1102 w.heap.size))) := ⟨⟨_, HN0.out⟩⟩
  have zz0 : ∀ q : Held (fun W => MdF w W (mdR1102 w.heap.size)), q.w.cell? ⟨w.heap.size, 0, none⟩ = some (.string ⟨#[112, 117, 116]⟩) := fun q => q.h.ar.c0
  have zz1 : ∀ q : Held (fun W => MdF w W (mdR1102 w.heap.size)), q.w.cell? ⟨w.heap.size, 1, none⟩ = some (.string ⟨#[104, 116, 116, 112, 115, 58, 47, 47, 97, 46, 98, 58, 52, 52, 52, 47, 120]⟩) := fun q => q.h.ar.c1
  have zz2 : ∀ q : Held (fun W => MdF w W (mdR1102 w.heap.size)), q.w.cell? ⟨w.heap.size, 2, none⟩ = some (.string ⟨#[104, 116, 116, 112, 115, 58, 47, 47, 97, 46, 98]⟩) := fun q => q.h.ar.c2
  have zz3 : ∀ q : Held (fun W => MdF w W (mdR1102 w.heap.size)), q.w.cell? ⟨w.heap.size, 3, none⟩ = some (.int .i64 3) := fun q => q.h.ar.c3
  have zz4 : ∀ q : Held (fun W => MdF w W (mdR1102 w.heap.size)), q.w.cell? ⟨w.heap.size, 4, none⟩ = some (.bool false) := fun q => q.h.ar.c4
  have zz5 : ∀ q : Held (fun W => MdF w W (mdR1102 w.heap.size)), q.w.cell? ⟨w.heap.size, 5, none⟩ = some (.slice none 0 0) := fun q => q.h.ar.c5
  have zz6 : ∀ q : Held (fun W => MdF w W (mdR1102 w.heap.size)), q.w.cell? ⟨w.heap.size, 6, none⟩ = some (.int .i64 2) := fun q => q.h.ar.c6
  have zz7 : ∀ q : Held (fun W => MdF w W (mdR1102 w.heap.size)), q.w.cell? ⟨w.heap.size, 7, none⟩ = some (.int .u64 0) := fun q => q.h.ar.c7
  have zz8 : ∀ q : Held (fun W => MdF w W (mdR1102 w.heap.size)), q.w.cell? ⟨w.heap.size, 8, none⟩ = some (.int .i64 0) := fun q => q.h.ar.c8
  have zz9 : ∀ q : Held (fun W => MdF w W (mdR1102 w.heap.size)), q.w.cell? ⟨w.heap.size, 9, none⟩ = some (.int .i64 0) := fun q => q.h.ar.c9
  obtain ⟨w1, hwd⟩ : ∃ W, W = w0.drew := ⟨_, rfl⟩
  rw [← hwd]
  have hb : Below w0.heap.size w0 w1 := by rw [hwd]; exact (Below.refl _ _).drew
  have HN1 : Hid (MdF w w1 (mdR1102 w.heap.size)) := HN0.out.next hb
  clear hb hwd
  refine mix_seg [0] (by kernel_rfl) HN1.out ?_
  simp only [segOf, pickOps, pickOp]
  repeat (go_big_quiet_step (fail))
  refine wpQuiet_nil ?_
  refine mix_run 1 (by kernel_rfl) ?_
  simp only [segOf, pickOps, pickOp]
  go_wp2_with fail
  refine (aCheck_any (mdR1102 w.heap.size) _ HN1.out.kr HN1.out.env).mono ?_
  rintro e w2 ⟨rfl, hb⟩
  rw [md_ask1102]
  have HN2 : Hid (MdF w w2 (mdR1102 w.heap.size)) := HN1.out.next hb
  clear hb
  go_wp2_with fail
  refine MixPost.normal HN2.out ?_
  refine mix_seg [2, 3, 4, 6] (by kernel_rfl) HN2.out ?_
  simp only [segOf, pickOps, pickOp]
  repeat (go_big_quiet_step (fail))
  refine wpQuiet_nil ?_
  refine mix_run 5 (by kernel_rfl) ?_
  simp only [segOf, pickOps, pickOp]
  go_wp2_with fail
  refine (aCross_any (mdR1102 w.heap.size) _ HN2.out.kr HN2.out.env).mono ?_
  rintro e w3 ⟨rfl, hb⟩
  rw [md_cross1102]
  have HN3 : Hid (MdF w w3 (mdR1102 w.heap.size)) := HN2.out.next hb
  clear hb
  go_wp2_with fail
  refine MixPost.normal HN3.out ?_
  refine mix_seg [7, 8, 9, 10, 12, 13, 14] (by kernel_rfl) HN3.out ?_
  simp only [segOf, pickOps, pickOp]
  repeat (go_big_quiet_step (fail))
  refine wpQuiet_nil ?_
  refine mix_run 11 (by kernel_rfl) ?_
  simp only [segOf, pickOps, pickOp]
  go_wp2_with fail
  refine (aNeeds_any (mdR1102 w.heap.size) _ HN3.out.kr HN3.out.env).mono ?_
  rintro e w4 ⟨rfl, hb⟩
  rw [md_need1102]
  have HN4 : Hid (MdF w w4 (mdR1102 w.heap.size)) := HN3.out.next hb
  clear hb
  go_wp2_with fail
  refine MixPost.normal HN4.out ?_
  refine mix_seg [15, 16, 17, 18, 19, 20, 21, 22, 23, 24, 25, 26] (by kernel_rfl) HN4.out ?_
  simp only [segOf, pickOps, pickOp]
  repeat (go_big_quiet_step (fail))
  refine wpQuiet_nil ?_
  refine mix_run 27 (by kernel_rfl) ?_
  simp only [segOf, pickOps, pickOp]
  go_wp2_with fail
  refine (awake8_any _ HN4.out.env).mono ?_
  rintro e w5 ⟨rfl, hb⟩
  have HN5 : Hid (MdF w w5 (mdR1102 w.heap.size)) := HN4.out.next hb
  clear hb
  go_wp2_with fail
  refine MixPost.normal HN5.out ?_
  refine mix_seg [28, 29] (by kernel_rfl) HN5.out ?_
  simp only [segOf, pickOps, pickOp]
  repeat (go_big_quiet_step (fail))
  refine wpQuiet_nil ?_
  refine mix_done (by kernel_rfl) ?_
  go_wp2
  go_ret
  exact ⟨rfl, HN5.out.bel⟩

def mdR1110 (g : Nat) : Rv := ⟨⟨#[112, 117, 116]⟩, ⟨#[104, 116, 116, 112, 115, 58, 47, 47, 97, 46, 98, 58, 52, 52, 52, 47, 120]⟩, ⟨#[104, 116, 116, 112, 115, 58, 47, 47, 97, 46, 98]⟩, 1, false, some ⟨g + 1, 0, none⟩, 1, 1, [(⟨#[88, 45, 79, 119, 110]⟩, ⟨#[49]⟩)], 2, 0, 0, 0⟩
theorem md_ask1110 (g : Nat) : askI (mdR1110 g).q = 7 := by kernel_rfl
theorem md_need1110 (g : Nat) : needsQ (mdR1110 g).q = false := by kernel_rfl
set_option maxRecDepth 100000 in
set_option maxHeartbeats 4000000 in
theorem md_1110 (a1 : Int) (w : World) (hk : lowV a1 3 = 0) (he : Env8 w) :
    Calls Tryz.prog 5 #[.bool true, .int .i64 a1, .bool true, .bool true] w fun e w' => e = .returned (.bool true) ∧ Below w.heap.size w w' := by
  obtain ⟨w0, hW⟩ : ∃ W, W = (w.alloc (Obj.cells #[.string ⟨#[112, 117, 116]⟩, .string ⟨#[104, 116, 116, 112, 115, 58, 47, 47, 97, 46, 98, 58, 52, 52, 52, 47, 120]⟩, .string ⟨#[104, 116, 116, 112, 115, 58, 47, 47, 97, 46, 98]⟩, .int .i64 1, .bool false, .slice (some ⟨w.heap.size + 1, 0, none⟩) 1 1, .int .i64 2, .int .u64 0, .int .i64 0, .int .i64 0] 25)).alloc (Obj.cells #[.string ⟨#[88, 45, 79, 119, 110]⟩, .string ⟨#[49]⟩] 44) := ⟨_, rfl⟩
  have HN0 : Hid (MdF w w0 (mdR1110 w.heap.size)) := by rw [hW]; exact MdF.own he (mdR1110 w.heap.size) _ _ rfl rfl rfl (by dsimp only [mdR1110]; decide) (by dsimp only [mdR1110]; decide) (by dsimp only [mdR1110]; decide)
  have HK := Lib.hid hk
  clear hk he
  go_enter Tryz.func5, Tryz.ntmps5
  go_wp2_with fail
  refine (Low_any a1 3 _ (by omega) (by omega)).mono ?_
  rintro e w' ⟨rfl, rfl⟩
  rw [HK.out]
  go_wp2_with fail
  rw [← hW]
  clear hW
  refine (aCheck_any (mdR1110 w.heap.size) _ HN0.out.kr HN0.out.env).mono ?_
  rintro e w1 ⟨rfl, hb⟩
  rw [md_ask1110]
  have HN1 : Hid (MdF w w1 (mdR1110 w.heap.size)) := HN0.out.next hb
  clear hb
  obtain ⟨r0, r1, r2, r3, r4, r5, r6, r7, r8, r9⟩ := HN1.out.ar
  dsimp only [mdR1110] at r0 r1 r2 r3 r4 r5 r6 r7 r8 r9
  go_wp2_with fail
  refine (aNeeds_any (mdR1110 w.heap.size) _ HN1.out.kr HN1.out.env).mono ?_
  rintro e w2 ⟨rfl, hb⟩
  rw [md_need1110]
  have HN2 : Hid (MdF w w2 (mdR1110 w.heap.size)) := HN1.out.next hb
  clear hb r0 r1 r2 r3 r4 r5 r6 r7 r8 r9
  go_wp2_with fail
  refine (awake8_any _ HN2.out.env).mono ?_
  rintro e w3 ⟨rfl, hb⟩
  go_wp2
  go_ret
  exact ⟨rfl, HN2.out.bel.trans (hb.mono HN2.out.bel.size)⟩

def mdR1111 (g : Nat) : Rv := ⟨⟨#[112, 117, 116]⟩, ⟨#[104, 116, 116, 112, 115, 58, 47, 47, 97, 46, 98, 58, 52, 52, 52, 47, 120]⟩, ⟨#[104, 116, 116, 112, 115, 58, 47, 47, 97, 46, 98]⟩, 2, false, some ⟨g + 1, 0, none⟩, 1, 1, [(⟨#[88, 45, 79, 119, 110]⟩, ⟨#[49]⟩)], 2, 0, 0, 0⟩
theorem md_ask1111 (g : Nat) : askI (mdR1111 g).q = 7 := by kernel_rfl
theorem md_need1111 (g : Nat) : needsQ (mdR1111 g).q = false := by kernel_rfl
set_option maxRecDepth 100000 in
set_option maxHeartbeats 4000000 in
theorem md_1111 (a1 : Int) (w : World) (hk : lowV a1 3 = 1) (he : Env8 w) :
    Calls Tryz.prog 5 #[.bool true, .int .i64 a1, .bool true, .bool true] w fun e w' => e = .returned (.bool true) ∧ Below w.heap.size w w' := by
  obtain ⟨w0, hW⟩ : ∃ W, W = (w.alloc (Obj.cells #[.string ⟨#[112, 117, 116]⟩, .string ⟨#[104, 116, 116, 112, 115, 58, 47, 47, 97, 46, 98, 58, 52, 52, 52, 47, 120]⟩, .string ⟨#[104, 116, 116, 112, 115, 58, 47, 47, 97, 46, 98]⟩, .int .i64 2, .bool false, .slice (some ⟨w.heap.size + 1, 0, none⟩) 1 1, .int .i64 2, .int .u64 0, .int .i64 0, .int .i64 0] 25)).alloc (Obj.cells #[.string ⟨#[88, 45, 79, 119, 110]⟩, .string ⟨#[49]⟩] 44) := ⟨_, rfl⟩
  have HN0 : Hid (MdF w w0 (mdR1111 w.heap.size)) := by rw [hW]; exact MdF.own he (mdR1111 w.heap.size) _ _ rfl rfl rfl (by dsimp only [mdR1111]; decide) (by dsimp only [mdR1111]; decide) (by dsimp only [mdR1111]; decide)
  have HK := Lib.hid hk
  clear hk he
  go_enter Tryz.func5, Tryz.ntmps5
  go_wp2_with fail
  refine (Low_any a1 3 _ (by omega) (by omega)).mono ?_
  rintro e w' ⟨rfl, rfl⟩
  rw [HK.out]
  go_wp2_with fail
  rw [← hW]
  clear hW
  refine (aCheck_any (mdR1111 w.heap.size) _ HN0.out.kr HN0.out.env).mono ?_
  rintro e w1 ⟨rfl, hb⟩
  rw [md_ask1111]
  have HN1 : Hid (MdF w w1 (mdR1111 w.heap.size)) := HN0.out.next hb
  clear hb
  obtain ⟨r0, r1, r2, r3, r4, r5, r6, r7, r8, r9⟩ := HN1.out.ar
  dsimp only [mdR1111] at r0 r1 r2 r3 r4 r5 r6 r7 r8 r9
  go_wp2_with fail
  refine (aNeeds_any (mdR1111 w.heap.size) _ HN1.out.kr HN1.out.env).mono ?_
  rintro e w2 ⟨rfl, hb⟩
  rw [md_need1111]
  have HN2 : Hid (MdF w w2 (mdR1111 w.heap.size)) := HN1.out.next hb
  clear hb r0 r1 r2 r3 r4 r5 r6 r7 r8 r9
  go_wp2_with fail
  refine (awake8_any _ HN2.out.env).mono ?_
  rintro e w3 ⟨rfl, hb⟩
  go_wp2
  go_ret
  exact ⟨rfl, HN2.out.bel.trans (hb.mono HN2.out.bel.size)⟩

def mdR1112 (g : Nat) : Rv := ⟨⟨#[112, 117, 116]⟩, ⟨#[104, 116, 116, 112, 115, 58, 47, 47, 97, 46, 98, 58, 52, 52, 52, 47, 120]⟩, ⟨#[104, 116, 116, 112, 115, 58, 47, 47, 97, 46, 98]⟩, 3, false, some ⟨g + 1, 0, none⟩, 1, 1, [(⟨#[88, 45, 79, 119, 110]⟩, ⟨#[49]⟩)], 2, 0, 0, 0⟩
theorem md_ask1112 (g : Nat) : askI (mdR1112 g).q = 0 := by kernel_rfl
theorem md_need1112 (g : Nat) : needsQ (mdR1112 g).q = true := by kernel_rfl
theorem md_cross1112 (g : Nat) : crossQ (mdR1112 g).q = true := by kernel_rfl
set_option maxRecDepth 100000 in
set_option maxHeartbeats 4000000 in
theorem md_1112 (a1 : Int) (w : World) (hk : lowV a1 3 = 2) (he : Env8 w) :
    Calls Tryz.prog 5 #[.bool true, .int .i64 a1, .bool true, .bool true] w fun e w' => e = .returned (.bool true) ∧ Below w.heap.size w w' := by
  obtain ⟨w0, hW⟩ : ∃ W, W = (w.alloc (Obj.cells #[.string ⟨#[112, 117, 116]⟩, .string ⟨#[104, 116, 116, 112, 115, 58, 47, 47, 97, 46, 98, 58, 52, 52, 52, 47, 120]⟩, .string ⟨#[104, 116, 116, 112, 115, 58, 47, 47, 97, 46, 98]⟩, .int .i64 3, .bool false, .slice (some ⟨w.heap.size + 1, 0, none⟩) 1 1, .int .i64 2, .int .u64 0, .int .i64 0, .int .i64 0] 25)).alloc (Obj.cells #[.string ⟨#[88, 45, 79, 119, 110]⟩, .string ⟨#[49]⟩] 44) := ⟨_, rfl⟩
  have HN0 : Hid (MdF w w0 (mdR1112 w.heap.size)) := by rw [hW]; exact MdF.own he (mdR1112 w.heap.size) _ _ rfl rfl rfl (by dsimp only [mdR1112]; decide) (by dsimp only [mdR1112]; decide) (by dsimp only [mdR1112]; decide)
  have HK := Lib.hid hk
  clear hk he
  go_enter Tryz.func5, Tryz.ntmps5
  go_wp2_with fail
  refine (Low_any a1 3 _ (by omega) (by omega)).mono ?_
  rintro e w' ⟨rfl, rfl⟩
  rw [HK.out]
  go_wp2_with fail
  rw [← hW]
  clear hW
  refine mix_start (fun W => MdF w W (mdR1112 w.heap.size)) (by kernel_rfl) ?_
  have hne : Nonempty (Held (fun W => MdF w W (mdR1112 w.heap.size))) := ⟨⟨_, HN0.out⟩⟩
  have zz0 : ∀ q : Held (fun W => MdF w W (mdR1112 w.heap.size)), q.w.cell? ⟨w.heap.size, 0, none⟩ = some (.string ⟨#[112, 117, 116]⟩) := fun q => q.h.ar.c0
  have zz1 : ∀ q : Held (fun W => MdF w W (mdR1112 w.heap.size)), q.w.cell? ⟨w.heap.size, 1, none⟩ = some (.string ⟨#[104, 116, 116, 112, 115, 58, 47, 47, 97, 46, 98, 58, 52, 52, 52, 47, 120]⟩) := fun q => q.h.ar.c1
  have zz2 : ∀ q : Held (fun W => MdF w W (mdR1112 w.heap.size)), q.w.cell? ⟨w.heap.size, 2, none⟩ = some (.string ⟨#[104, 116, 116, 112, 115, 58, 47, 47, 97, 46, 98]⟩) := fun q => q.h.ar.c2
  have zz3 : ∀ q : Held (fun W => MdF w W (mdR1112 w.heap.size)), q.w.cell? ⟨w.heap.size, 3, none⟩ = some (.int .i64 3) := fun q => q.h.ar.c3
  have zz4 : ∀ q : Held (fun W => MdF w W (mdR1112 w.heap.size)), q.w.cell? ⟨w.heap.size, 4, none⟩ = some (.bool false) := fun q => q.h.ar.c4
  have zz5 : ∀ q : Held (fun W => MdF w W (mdR1112 w.heap.size)), q.w.cell? ⟨w.heap.size, 5, none⟩ = some (.slice (some ⟨w.heap.size + 1, 0, none⟩) 1 1) := fun q => q.h.ar.c5
  have zz6 : ∀ q : Held (fun W => MdF w W (mdR1112 w.heap.size)), q.w.cell? ⟨w.heap.size, 6, none⟩ = some (.int .i64 2) := fun q => q.h.ar.c6
  have zz7 : ∀ q : Held (fun W => MdF w W (mdR1112 w.heap.size)), q.w.cell? ⟨w.heap.size, 7, none⟩ = some (.int .u64 0) := fun q => q.h.ar.c7
  have zz8 : ∀ q : Held (fun W => MdF w W (mdR1112 w.heap.size)), q.w.cell? ⟨w.heap.size, 8, none⟩ = some (.int .i64 0) := fun q => q.h.ar.c8
  have zz9 : ∀ q : Held (fun W => MdF w W (mdR1112 w.heap.size)), q.w.cell? ⟨w.heap.size, 9, none⟩ = some (.int .i64 0) := fun q => q.h.ar.c9
  obtain ⟨w1, hwd⟩ : ∃ W, W = w0.drew := ⟨_, rfl⟩
  rw [← hwd]
  have hb : Below w0.heap.size w0 w1 := by rw [hwd]; exact (Below.refl _ _).drew
  have HN1 : Hid (MdF w w1 (mdR1112 w.heap.size)) := HN0.out.next hb
  clear hb hwd
  refine mix_seg [0] (by kernel_rfl) HN1.out ?_
  simp only [segOf, pickOps, pickOp]
  repeat (go_big_quiet_step (fail))
  refine wpQuiet_nil ?_
  refine mix_run 1 (by kernel_rfl) ?_
  simp only [segOf, pickOps, pickOp]
  go_wp2_with fail
  refine (aCheck_any (mdR1112 w.heap.size) _ HN1.out.kr HN1.out.env).mono ?_
  rintro e w2 ⟨rfl, hb⟩
  rw [md_ask1112]
  have HN2 : Hid (MdF w w2 (mdR1112 w.heap.size)) := HN1.out.next hb
  clear hb
  go_wp2_with fail
  refine MixPost.normal HN2.out ?_
  refine mix_seg [2, 3, 4, 6] (by kernel_rfl) HN2.out ?_
  simp only [segOf, pickOps, pickOp]
  repeat (go_big_quiet_step (fail))
  refine wpQuiet_nil ?_
  refine mix_run 5 (by kernel_rfl) ?_
  simp only [segOf, pickOps, pickOp]
  go_wp2_with fail
  refine (aCross_any (mdR1112 w.heap.size) _ HN2.out.kr HN2.out.env).mono ?_
  rintro e w3 ⟨rfl, hb⟩
  rw [md_cross1112]
  have HN3 : Hid (MdF w w3 (mdR1112 w.heap.size)) := HN2.out.next hb
  clear hb
  go_wp2_with fail
  refine MixPost.normal HN3.out ?_
  refine mix_seg [7, 8, 9, 10, 12, 13, 14] (by kernel_rfl) HN3.out ?_
  simp only [segOf, pickOps, pickOp]
  repeat (go_big_quiet_step (fail))
  refine wpQuiet_nil ?_
  refine mix_run 11 (by kernel_rfl) ?_
  simp only [segOf, pickOps, pickOp]
  go_wp2_with fail
  refine (aNeeds_any (mdR1112 w.heap.size) _ HN3.out.kr HN3.out.env).mono ?_
  rintro e w4 ⟨rfl, hb⟩
  rw [md_need1112]
  have HN4 : Hid (MdF w w4 (mdR1112 w.heap.size)) := HN3.out.next hb
  clear hb
  go_wp2_with fail
  refine MixPost.normal HN4.out ?_
  refine mix_seg [15, 16, 17, 18, 19, 20, 21, 22, 23, 24, 25, 26] (by kernel_rfl) HN4.out ?_
  simp only [segOf, pickOps, pickOp]
  repeat (go_big_quiet_step (fail))
  refine wpQuiet_nil ?_
  refine mix_run 27 (by kernel_rfl) ?_
  simp only [segOf, pickOps, pickOp]
  go_wp2_with fail
  refine (awake8_any _ HN4.out.env).mono ?_
  rintro e w5 ⟨rfl, hb⟩
  have HN5 : Hid (MdF w w5 (mdR1112 w.heap.size)) := HN4.out.next hb
  clear hb
  go_wp2_with fail
  refine MixPost.normal HN5.out ?_
  refine mix_seg [28, 29] (by kernel_rfl) HN5.out ?_
  simp only [segOf, pickOps, pickOp]
  repeat (go_big_quiet_step (fail))
  refine wpQuiet_nil ?_
  refine mix_done (by kernel_rfl) ?_
  go_wp2
  go_ret
  exact ⟨rfl, HN5.out.bel⟩

theorem walk_AskModes (a0 : Bool) (a1 : Int) (a2 a3 : Bool) (w : World) (_h1 : (Lit.int .i64 a1).wf = true) (he : Env8 w) :
    Calls Tryz.prog 5 #[.bool a0, .int .i64 a1, .bool a2, .bool a3] w fun e w' => e = .returned (.bool true) ∧ Below w.heap.size w w' := by
  obtain ⟨k, hk, hlt⟩ := low_nat a1 3 (by omega)
  match k, hlt, a0, a2, a3 with
  | 0, _, false, false, false => exact md_0000 a1 w hk he
  | 1, _, false, false, false => exact md_0001 a1 w hk he
  | 2, _, false, false, false => exact md_0002 a1 w hk he
  | 0, _, false, false, true => exact md_0010 a1 w hk he
  | 1, _, false, false, true => exact md_0011 a1 w hk he
  | 2, _, false, false, true => exact md_0012 a1 w hk he
  | 0, _, false, true, false => exact md_0100 a1 w hk he
  | 1, _, false, true, false => exact md_0101 a1 w hk he
  | 2, _, false, true, false => exact md_0102 a1 w hk he
  | 0, _, false, true, true => exact md_0110 a1 w hk he
  | 1, _, false, true, true => exact md_0111 a1 w hk he
  | 2, _, false, true, true => exact md_0112 a1 w hk he
  | 0, _, true, false, false => exact md_1000 a1 w hk he
  | 1, _, true, false, false => exact md_1001 a1 w hk he
  | 2, _, true, false, false => exact md_1002 a1 w hk he
  | 0, _, true, false, true => exact md_1010 a1 w hk he
  | 1, _, true, false, true => exact md_1011 a1 w hk he
  | 2, _, true, false, true => exact md_1012 a1 w hk he
  | 0, _, true, true, false => exact md_1100 a1 w hk he
  | 1, _, true, true, false => exact md_1101 a1 w hk he
  | 2, _, true, true, false => exact md_1102 a1 w hk he
  | 0, _, true, true, true => exact md_1110 a1 w hk he
  | 1, _, true, true, true => exact md_1111 a1 w hk he
  | 2, _, true, true, true => exact md_1112 a1 w hk he
end Go.Proofs.YticedcnmajcgbaaGreatDoor
