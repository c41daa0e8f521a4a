/-
  The walk of the law AskOrder: whatever the input, it returns true, and nothing that was there has turned. Conditions: the library's variables and the tables of methods are as they are laid.
-/
import Derived.Test.YticedcnmajcgbaaGreatDoorAAwake
namespace Go.Proofs.YticedcnmajcgbaaGreatDoor
open Go.RowKit

/-- what holds all through: the request in its block, the code that is wanted in its cell -/
structure OrF (w W : World) (r : Rv) (n : Nat) (k : Int) : Prop where
  bel : Below w.heap.size w W
  env0 : Env8 w
  kr : RqOk W r
  ar : RqAt W (w.heap.size + 1) r
  cw : W.cell? ⟨w.heap.size + 2, n, none⟩ = some (.int .i64 k)
theorem OrF.env {w W : World} {r : Rv} {n : Nat} {k : Int} (h : OrF w W r n k) : Env8 W := h.env0.below h.bel
theorem OrF.next {w W W' : World} {r : Rv} {n : Nat} {k : Int} (h : OrF w W r n k) (hb : Below W.heap.size W W') : OrF w W' r n k :=
  ⟨h.bel.trans (hb.mono h.bel.size), h.env0, h.kr.below hb, h.ar.below hb h.ar.lt, (hb.cell (p := ⟨w.heap.size + 2, n, none⟩) (block_of_cell h.cw)).trans h.cw⟩
theorem OrF.new {w : World} (he : Env8 w) (r : Rv) (n : Nat) (k : Int) (t1 t2 t3 : TypeId) (hr : RqOk (w.alloc (.cells #[.string ⟨#[]⟩, .string ⟨#[]⟩] t1)) r) (hn : (#[.int .i64 3, .int .i64 3, .int .i64 5, .int .i64 7, .int .i64 6, .int .i64 8, .int .i64 9, .int .i64 2, .int .i64 0] : Array Value)[n]? = some (.int .i64 k)) :
    OrF w (((w.alloc (.cells #[.string ⟨#[]⟩, .string ⟨#[]⟩] t1)).alloc (.cells #[.string r.m, .string r.u, .string r.o, .int .i64 r.mode, .bool r.cr, .slice r.A r.n r.c, .int .i64 r.cl, .int .u64 r.tm, .int .i64 r.gr, .int .i64 r.sg] t2)).alloc (.cells #[.int .i64 3, .int .i64 3, .int .i64 5, .int .i64 7, .int .i64 6, .int .i64 8, .int .i64 9, .int .i64 2, .int .i64 0] t3)) r n k := by
  have e1 : (w.alloc (.cells #[.string ⟨#[]⟩, .string ⟨#[]⟩] t1)).heap.size = w.heap.size + 1 := by simp
  have e2 : ((w.alloc (.cells #[.string ⟨#[]⟩, .string ⟨#[]⟩] t1)).alloc (.cells #[.string r.m, .string r.u, .string r.o, .int .i64 r.mode, .bool r.cr, .slice r.A r.n r.c, .int .i64 r.cl, .int .u64 r.tm, .int .i64 r.gr, .int .i64 r.sg] t2)).heap.size = w.heap.size + 2 := by simp
  have h1 := RqAt.new (w.alloc (.cells #[.string ⟨#[]⟩, .string ⟨#[]⟩] t1)) r t2
  have b1 : Below (w.alloc (.cells #[.string ⟨#[]⟩, .string ⟨#[]⟩] t1)).heap.size (w.alloc (.cells #[.string ⟨#[]⟩, .string ⟨#[]⟩] t1)) ((w.alloc (.cells #[.string ⟨#[]⟩, .string ⟨#[]⟩] t1)).alloc (.cells #[.string r.m, .string r.u, .string r.o, .int .i64 r.mode, .bool r.cr, .slice r.A r.n r.c, .int .i64 r.cl, .int .u64 r.tm, .int .i64 r.gr, .int .i64 r.sg] t2)) := (Below.refl _ _).alloc (Nat.le_refl _) _
  have b2 : Below ((w.alloc (.cells #[.string ⟨#[]⟩, .string ⟨#[]⟩] t1)).alloc (.cells #[.string r.m, .string r.u, .string r.o, .int .i64 r.mode, .bool r.cr, .slice r.A r.n r.c, .int .i64 r.cl, .int .u64 r.tm, .int .i64 r.gr, .int .i64 r.sg] t2)).heap.size ((w.alloc (.cells #[.string ⟨#[]⟩, .string ⟨#[]⟩] t1)).alloc (.cells #[.string r.m, .string r.u, .string r.o, .int .i64 r.mode, .bool r.cr, .slice r.A r.n r.c, .int .i64 r.cl, .int .u64 r.tm, .int .i64 r.gr, .int .i64 r.sg] t2)) (((w.alloc (.cells #[.string ⟨#[]⟩, .string ⟨#[]⟩] t1)).alloc (.cells #[.string r.m, .string r.u, .string r.o, .int .i64 r.mode, .bool r.cr, .slice r.A r.n r.c, .int .i64 r.cl, .int .u64 r.tm, .int .i64 r.gr, .int .i64 r.sg] t2)).alloc (.cells #[.int .i64 3, .int .i64 3, .int .i64 5, .int .i64 7, .int .i64 6, .int .i64 8, .int .i64 9, .int .i64 2, .int .i64 0] t3)) := (Below.refl _ _).alloc (Nat.le_refl _) _
  refine ⟨(((Below.refl _ _).alloc (Nat.le_refl _) _).alloc (by rw [e1]; omega) _).alloc (by rw [e2]; omega) _, he, (hr.below b1).below b2, ?_, ?_⟩
  · rw [e1] at h1; exact h1.below b2 (by rw [e2]; omega)
  · rw [← e2, World.cell?_alloc_new]; exact hn
theorem head_ok (w : World) (t : TypeId) : PRow (w.alloc (.cells #[.string ⟨#[]⟩, .string ⟨#[]⟩] t)) (w.alloc (.cells #[.string ⟨#[]⟩, .string ⟨#[]⟩] t)).heap.size (some ⟨w.heap.size, 0, none⟩) [(⟨#[]⟩, ⟨#[]⟩)] :=
  (PRow.one_at w ⟨#[]⟩ ⟨#[]⟩ t w.heap.size rfl).mono (by simp)

def ordR0 (g : Nat) : Rv := ⟨⟨#[84, 82, 65, 67, 69]⟩, ⟨#[120]⟩, ⟨#[121]⟩, 9, false, some ⟨g, 0, none⟩, 1, 1, [(⟨#[]⟩, ⟨#[]⟩)], 7, 601, -1, 0⟩
theorem ord_ask0 (g : Nat) : askI (ordR0 g).q = 3 := by kernel_rfl
theorem ord_ok0 (w : World) (t : TypeId) : RqOk (w.alloc (.cells #[.string ⟨#[]⟩, .string ⟨#[]⟩] t)) (ordR0 w.heap.size) :=
  ⟨head_ok w t, rfl, ⟨by simp [ordR0], by intro h hh; simp [ordR0] at hh; subst hh; decide⟩, by dsimp only [ordR0]; decide, by dsimp only [ordR0]; decide, by dsimp only [ordR0]; decide⟩
set_option maxRecDepth 100000 in
set_option maxHeartbeats 4000000 in
theorem ord_0 (a0 : Int) (w : World) (hk : lowV a0 9 = 0) (he : Env8 w) :
    Calls Tryz.prog 6 #[.int .i64 a0] w fun e w' => e = .returned (.bool true) ∧ Below w.heap.size w w' := by
  obtain ⟨w0, hW⟩ : ∃ W, W = ((w.alloc (Obj.cells #[.string ⟨#[]⟩, .string ⟨#[]⟩] 44)).alloc (Obj.cells #[.string ⟨#[84, 82, 65, 67, 69]⟩, .string ⟨#[120]⟩, .string ⟨#[121]⟩, .int .i64 9, .bool false, .slice (some ⟨w.heap.size, 0, none⟩) 1 1, .int .i64 7, .int .u64 601, .int .i64 (-1), .int .i64 0] 25)).alloc (Obj.cells #[.int .i64 3, .int .i64 3, .int .i64 5, .int .i64 7, .int .i64 6, .int .i64 8, .int .i64 9, .int .i64 2, .int .i64 0] 46) := ⟨_, rfl⟩
  have HN0 : Hid (OrF w w0 (ordR0 w.heap.size) 0 3) := by rw [hW]; exact OrF.new he (ordR0 w.heap.size) 0 3 _ _ _ (ord_ok0 w _) rfl
  have HK := Lib.hid hk
  clear hk he
  go_enter Tryz.func6, Tryz.ntmps6
  go_wp2_with fail
  refine (Low_any a0 9 _ (by omega) (by omega)).mono ?_
  rintro e w' ⟨rfl, rfl⟩
  rw [HK.out]
  go_wp2_with fail
  rw [← hW]
  clear hW
  refine mix_start (fun W => OrF w W (ordR0 w.heap.size) 0 3) (by kernel_rfl) ?_
  have hne : Nonempty (Held (fun W => OrF w W (ordR0 w.heap.size) 0 3)) := ⟨⟨_, HN0.out⟩⟩
  have zz0 : ∀ q : Held (fun W => OrF w W (ordR0 w.heap.size) 0 3), q.w.cell? ⟨w.heap.size + 1, 0, none⟩ = some (.string ⟨#[84, 82, 65, 67, 69]⟩) := fun q => q.h.ar.c0
  have zz1 : ∀ q : Held (fun W => OrF w W (ordR0 w.heap.size) 0 3), q.w.cell? ⟨w.heap.size + 1, 1, none⟩ = some (.string ⟨#[120]⟩) := fun q => q.h.ar.c1
  have zz2 : ∀ q : Held (fun W => OrF w W (ordR0 w.heap.size) 0 3), q.w.cell? ⟨w.heap.size + 1, 2, none⟩ = some (.string ⟨#[121]⟩) := fun q => q.h.ar.c2
  have zz3 : ∀ q : Held (fun W => OrF w W (ordR0 w.heap.size) 0 3), q.w.cell? ⟨w.heap.size + 1, 3, none⟩ = some (.int .i64 9) := fun q => q.h.ar.c3
  have zz4 : ∀ q : Held (fun W => OrF w W (ordR0 w.heap.size) 0 3), q.w.cell? ⟨w.heap.size + 1, 4, none⟩ = some (.bool false) := fun q => q.h.ar.c4
  have zz5 : ∀ q : Held (fun W => OrF w W (ordR0 w.heap.size) 0 3), q.w.cell? ⟨w.heap.size + 1, 5, none⟩ = some (.slice (some ⟨w.heap.size, 0, none⟩) 1 1) := fun q => q.h.ar.c5
  have zz6 : ∀ q : Held (fun W => OrF w W (ordR0 w.heap.size) 0 3), q.w.cell? ⟨w.heap.size + 1, 6, none⟩ = some (.int .i64 7) := fun q => q.h.ar.c6
  have zz7 : ∀ q : Held (fun W => OrF w W (ordR0 w.heap.size) 0 3), q.w.cell? ⟨w.heap.size + 1, 7, none⟩ = some (.int .u64 601) := fun q => q.h.ar.c7
  have zz8 : ∀ q : Held (fun W => OrF w W (ordR0 w.heap.size) 0 3), q.w.cell? ⟨w.heap.size + 1, 8, none⟩ = some (.int .i64 (-1)) := fun q => q.h.ar.c8
  have zz9 : ∀ q : Held (fun W => OrF w W (ordR0 w.heap.size) 0 3), q.w.cell? ⟨w.heap.size + 1, 9, none⟩ = some (.int .i64 0) := fun q => q.h.ar.c9
  have zz10 : ∀ q : Held (fun W => OrF w W (ordR0 w.heap.size) 0 3), q.w.cell? ⟨w.heap.size + 2, 0, none⟩ = some (.int .i64 3) := fun q => q.h.cw
  obtain ⟨w1, hwd⟩ : ∃ W, W = w0.drew := ⟨_, rfl⟩
  rw [← hwd]
  have hb : Below w0.heap.size w0 w1 := by rw [hwd]; exact (Below.refl _ _).drew
  have HN1 : Hid (OrF w w1 (ordR0 w.heap.size) 0 3) := HN0.out.next hb
  clear hb hwd
  refine mix_seg [0, 2, 3, 4] (by kernel_rfl) HN1.out ?_
  simp only [segOf, pickOps, pickOp]
  repeat (go_big_quiet_step (fail))
  refine wpQuiet_nil ?_
  refine mix_run 1 (by kernel_rfl) ?_
  simp only [segOf, pickOps, pickOp]
  go_wp2_with fail
  refine (aCheck_any (ordR0 w.heap.size) _ HN1.out.kr HN1.out.env).mono ?_
  rintro e w2 ⟨rfl, hb⟩
  rw [ord_ask0]
  have HN2 : Hid (OrF w w2 (ordR0 w.heap.size) 0 3) := HN1.out.next hb
  clear hb
  go_wp2_with fail
  refine MixPost.normal HN2.out ?_
  refine mix_seg [5, 6] (by kernel_rfl) HN2.out ?_
  simp only [segOf, pickOps, pickOp]
  repeat (go_big_quiet_step (fail))
  refine wpQuiet_nil ?_
  refine mix_run 7 (by kernel_rfl) ?_
  simp only [segOf, pickOps, pickOp]
  go_wp2_with fail
  refine (awake8_any _ HN2.out.env).mono ?_
  rintro e w3 ⟨rfl, hb⟩
  have HN3 : Hid (OrF w w3 (ordR0 w.heap.size) 0 3) := HN2.out.next hb
  clear hb
  go_wp2_with fail
  refine MixPost.normal HN3.out ?_
  refine mix_seg [8, 9] (by kernel_rfl) HN3.out ?_
  simp only [segOf, pickOps, pickOp]
  repeat (go_big_quiet_step (fail))
  refine wpQuiet_nil ?_
  refine mix_done (by kernel_rfl) ?_
  go_wp2
  go_ret
  exact ⟨rfl, HN3.out.bel⟩

def ordR1 (g : Nat) : Rv := ⟨⟨#[84, 82, 65, 67, 69]⟩, ⟨#[104, 116, 116, 112, 58, 47, 47, 104, 47]⟩, ⟨#[121]⟩, 9, false, some ⟨g, 0, none⟩, 1, 1, [(⟨#[]⟩, ⟨#[]⟩)], 7, 601, -1, 0⟩
theorem ord_ask1 (g : Nat) : askI (ordR1 g).q = 3 := by kernel_rfl
theorem ord_ok1 (w : World) (t : TypeId) : RqOk (w.alloc (.cells #[.string ⟨#[]⟩, .string ⟨#[]⟩] t)) (ordR1 w.heap.size) :=
  ⟨head_ok w t, rfl, ⟨by simp [ordR1], by intro h hh; simp [ordR1] at hh; subst hh; decide⟩, by dsimp only [ordR1]; decide, by dsimp only [ordR1]; decide, by dsimp only [ordR1]; decide⟩
set_option maxRecDepth 100000 in
set_option maxHeartbeats 4000000 in
theorem ord_1 (a0 : Int) (w : World) (hk : lowV a0 9 = 1) (he : Env8 w) :
    Calls Tryz.prog 6 #[.int .i64 a0] w fun e w' => e = .returned (.bool true) ∧ Below w.heap.size w w' := by
  obtain ⟨w0, hW⟩ : ∃ W, W = ((w.alloc (Obj.cells #[.string ⟨#[]⟩, .string ⟨#[]⟩] 44)).alloc (Obj.cells #[.string ⟨#[84, 82, 65, 67, 69]⟩, .string ⟨#[104, 116, 116, 112, 58, 47, 47, 104, 47]⟩, .string ⟨#[121]⟩, .int .i64 9, .bool false, .slice (some ⟨w.heap.size, 0, none⟩) 1 1, .int .i64 7, .int .u64 601, .int .i64 (-1), .int .i64 0] 25)).alloc (Obj.cells #[.int .i64 3, .int .i64 3, .int .i64 5, .int .i64 7, .int .i64 6, .int .i64 8, .int .i64 9, .int .i64 2, .int .i64 0] 46) := ⟨_, rfl⟩
  have HN0 : Hid (OrF w w0 (ordR1 w.heap.size) 1 3) := by rw [hW]; exact OrF.new he (ordR1 w.heap.size) 1 3 _ _ _ (ord_ok1 w _) rfl
  have HK := Lib.hid hk
  clear hk he
  go_enter Tryz.func6, Tryz.ntmps6
  go_wp2_with fail
  refine (Low_any a0 9 _ (by omega) (by omega)).mono ?_
  rintro e w' ⟨rfl, rfl⟩
  rw [HK.out]
  go_wp2_with fail
  rw [← hW]
  clear hW
  refine mix_start (fun W => OrF w W (ordR1 w.heap.size) 1 3) (by kernel_rfl) ?_
  have hne : Nonempty (Held (fun W => OrF w W (ordR1 w.heap.size) 1 3)) := ⟨⟨_, HN0.out⟩⟩
  have zz0 : ∀ q : Held (fun W => OrF w W (ordR1 w.heap.size) 1 3), q.w.cell? ⟨w.heap.size + 1, 0, none⟩ = some (.string ⟨#[84, 82, 65, 67, 69]⟩) := fun q => q.h.ar.c0
  have zz1 : ∀ q : Held (fun W => OrF w W (ordR1 w.heap.size) 1 3), q.w.cell? ⟨w.heap.size + 1, 1, none⟩ = some (.string ⟨#[104, 116, 116, 112, 58, 47, 47, 104, 47]⟩) := fun q => q.h.ar.c1
  have zz2 : ∀ q : Held (fun W => OrF w W (ordR1 w.heap.size) 1 3), q.w.cell? ⟨w.heap.size + 1, 2, none⟩ = some (.string ⟨#[121]⟩) := fun q => q.h.ar.c2
  have zz3 : ∀ q : Held (fun W => OrF w W (ordR1 w.heap.size) 1 3), q.w.cell? ⟨w.heap.size + 1, 3, none⟩ = some (.int .i64 9) := fun q => q.h.ar.c3
  have zz4 : ∀ q : Held (fun W => OrF w W (ordR1 w.heap.size) 1 3), q.w.cell? ⟨w.heap.size + 1, 4, none⟩ = some (.bool false) := fun q => q.h.ar.c4
  have zz5 : ∀ q : Held (fun W => OrF w W (ordR1 w.heap.size) 1 3), q.w.cell? ⟨w.heap.size + 1, 5, none⟩ = some (.slice (some ⟨w.heap.size, 0, none⟩) 1 1) := fun q => q.h.ar.c5
  have zz6 : ∀ q : Held (fun W => OrF w W (ordR1 w.heap.size) 1 3), q.w.cell? ⟨w.heap.size + 1, 6, none⟩ = some (.int .i64 7) := fun q => q.h.ar.c6
  have zz7 : ∀ q : Held (fun W => OrF w W (ordR1 w.heap.size) 1 3), q.w.cell? ⟨w.heap.size + 1, 7, none⟩ = some (.int .u64 601) := fun q => q.h.ar.c7
  have zz8 : ∀ q : Held (fun W => OrF w W (ordR1 w.heap.size) 1 3), q.w.cell? ⟨w.heap.size + 1, 8, none⟩ = some (.int .i64 (-1)) := fun q => q.h.ar.c8
  have zz9 : ∀ q : Held (fun W => OrF w W (ordR1 w.heap.size) 1 3), q.w.cell? ⟨w.heap.size + 1, 9, none⟩ = some (.int .i64 0) := fun q => q.h.ar.c9
  have zz10 : ∀ q : Held (fun W => OrF w W (ordR1 w.heap.size) 1 3), q.w.cell? ⟨w.heap.size + 2, 1, none⟩ = some (.int .i64 3) := fun q => q.h.cw
  obtain ⟨w1, hwd⟩ : ∃ W, W = w0.drew := ⟨_, rfl⟩
  rw [← hwd]
  have hb : Below w0.heap.size w0 w1 := by rw [hwd]; exact (Below.refl _ _).drew
  have HN1 : Hid (OrF w w1 (ordR1 w.heap.size) 1 3) := HN0.out.next hb
  clear hb hwd
  refine mix_seg [0, 2, 3, 4] (by kernel_rfl) HN1.out ?_
  simp only [segOf, pickOps, pickOp]
  repeat (go_big_quiet_step (fail))
  refine wpQuiet_nil ?_
  refine mix_run 1 (by kernel_rfl) ?_
  simp only [segOf, pickOps, pickOp]
  go_wp2_with fail
  refine (aCheck_any (ordR1 w.heap.size) _ HN1.out.kr HN1.out.env).mono ?_
  rintro e w2 ⟨rfl, hb⟩
  rw [ord_ask1]
  have HN2 : Hid (OrF w w2 (ordR1 w.heap.size) 1 3) := HN1.out.next hb
  clear hb
  go_wp2_with fail
  refine MixPost.normal HN2.out ?_
  refine mix_seg [5, 6] (by kernel_rfl) HN2.out ?_
  simp only [segOf, pickOps, pickOp]
  repeat (go_big_quiet_step (fail))
  refine wpQuiet_nil ?_
  refine mix_run 7 (by kernel_rfl) ?_
  simp only [segOf, pickOps, pickOp]
  go_wp2_with fail
  refine (awake8_any _ HN2.out.env).mono ?_
  rintro e w3 ⟨rfl, hb⟩
  have HN3 : Hid (OrF w w3 (ordR1 w.heap.size) 1 3) := HN2.out.next hb
  clear hb
  go_wp2_with fail
  refine MixPost.normal HN3.out ?_
  refine mix_seg [8, 9] (by kernel_rfl) HN3.out ?_
  simp only [segOf, pickOps, pickOp]
  repeat (go_big_quiet_step (fail))
  refine wpQuiet_nil ?_
  refine mix_done (by kernel_rfl) ?_
  go_wp2
  go_ret
  exact ⟨rfl, HN3.out.bel⟩

def ordR2 (g : Nat) : Rv := ⟨⟨#[84, 82, 65, 67, 69]⟩, ⟨#[104, 116, 116, 112, 58, 47, 47, 104, 47]⟩, ⟨#[104, 116, 116, 112, 58, 47, 47, 104]⟩, 9, false, some ⟨g, 0, none⟩, 1, 1, [(⟨#[]⟩, ⟨#[]⟩)], 7, 601, -1, 0⟩
theorem ord_ask2 (g : Nat) : askI (ordR2 g).q = 5 := by kernel_rfl
theorem ord_ok2 (w : World) (t : TypeId) : RqOk (w.alloc (.cells #[.string ⟨#[]⟩, .string ⟨#[]⟩] t)) (ordR2 w.heap.size) :=
  ⟨head_ok w t, rfl, ⟨by simp [ordR2], by intro h hh; simp [ordR2] at hh; subst hh; decide⟩, by dsimp only [ordR2]; decide, by dsimp only [ordR2]; decide, by dsimp only [ordR2]; decide⟩
set_option maxRecDepth 100000 in
set_option maxHeartbeats 4000000 in
theorem ord_2 (a0 : Int) (w : World) (hk : lowV a0 9 = 2) (he : Env8 w) :
    Calls Tryz.prog 6 #[.int .i64 a0] w fun e w' => e = .returned (.bool true) ∧ Below w.heap.size w w' := by
  obtain ⟨w0, hW⟩ : ∃ W, W = ((w.alloc (Obj.cells #[.string ⟨#[]⟩, .string ⟨#[]⟩] 44)).alloc (Obj.cells #[.string ⟨#[84, 82, 65, 67, 69]⟩, .string ⟨#[104, 116, 116, 112, 58, 47, 47, 104, 47]⟩, .string ⟨#[104, 116, 116, 112, 58, 47, 47, 104]⟩, .int .i64 9, .bool false, .slice (some ⟨w.heap.size, 0, none⟩) 1 1, .int .i64 7, .int .u64 601, .int .i64 (-1), .int .i64 0] 25)).alloc (Obj.cells #[.int .i64 3, .int .i64 3, .int .i64 5, .int .i64 7, .int .i64 6, .int .i64 8, .int .i64 9, .int .i64 2, .int .i64 0] 46) := ⟨_, rfl⟩
  have HN0 : Hid (OrF w w0 (ordR2 w.heap.size) 2 5) := by rw [hW]; exact OrF.new he (ordR2 w.heap.size) 2 5 _ _ _ (ord_ok2 w _) rfl
  have HK := Lib.hid hk
  clear hk he
  go_enter Tryz.func6, Tryz.ntmps6
  go_wp2_with fail
  refine (Low_any a0 9 _ (by omega) (by omega)).mono ?_
  rintro e w' ⟨rfl, rfl⟩
  rw [HK.out]
  go_wp2_with fail
  rw [← hW]
  clear hW
  refine mix_start (fun W => OrF w W (ordR2 w.heap.size) 2 5) (by kernel_rfl) ?_
  have hne : Nonempty (Held (fun W => OrF w W (ordR2 w.heap.size) 2 5)) := ⟨⟨_, HN0.out⟩⟩
  have zz0 : ∀ q : Held (fun W => OrF w W (ordR2 w.heap.size) 2 5), q.w.cell? ⟨w.heap.size + 1, 0, none⟩ = some (.string ⟨#[84, 82, 65, 67, 69]⟩) := fun q => q.h.ar.c0
  have zz1 : ∀ q : Held (fun W => OrF w W (ordR2 w.heap.size) 2 5), q.w.cell? ⟨w.heap.size + 1, 1, none⟩ = some (.string ⟨#[104, 116, 116, 112, 58, 47, 47, 104, 47]⟩) := fun q => q.h.ar.c1
  have zz2 : ∀ q : Held (fun W => OrF w W (ordR2 w.heap.size) 2 5), q.w.cell? ⟨w.heap.size + 1, 2, none⟩ = some (.string ⟨#[104, 116, 116, 112, 58, 47, 47, 104]⟩) := fun q => q.h.ar.c2
  have zz3 : ∀ q : Held (fun W => OrF w W (ordR2 w.heap.size) 2 5), q.w.cell? ⟨w.heap.size + 1, 3, none⟩ = some (.int .i64 9) := fun q => q.h.ar.c3
  have zz4 : ∀ q : Held (fun W => OrF w W (ordR2 w.heap.size) 2 5), q.w.cell? ⟨w.heap.size + 1, 4, none⟩ = some (.bool false) := fun q => q.h.ar.c4
  have zz5 : ∀ q : Held (fun W => OrF w W (ordR2 w.heap.size) 2 5), q.w.cell? ⟨w.heap.size + 1, 5, none⟩ = some (.slice (some ⟨w.heap.size, 0, none⟩) 1 1) := fun q => q.h.ar.c5
  have zz6 : ∀ q : Held (fun W => OrF w W (ordR2 w.heap.size) 2 5), q.w.cell? ⟨w.heap.size + 1, 6, none⟩ = some (.int .i64 7) := fun q => q.h.ar.c6
  have zz7 : ∀ q : Held (fun W => OrF w W (ordR2 w.heap.size) 2 5), q.w.cell? ⟨w.heap.size + 1, 7, none⟩ = some (.int .u64 601) := fun q => q.h.ar.c7
  have zz8 : ∀ q : Held (fun W => OrF w W (ordR2 w.heap.size) 2 5), q.w.cell? ⟨w.heap.size + 1, 8, none⟩ = some (.int .i64 (-1)) := fun q => q.h.ar.c8
  have zz9 : ∀ q : Held (fun W => OrF w W (ordR2 w.heap.size) 2 5), q.w.cell? ⟨w.heap.size + 1, 9, none⟩ = some (.int .i64 0) := fun q => q.h.ar.c9
  have zz10 : ∀ q : Held (fun W => OrF w W (ordR2 w.heap.size) 2 5), q.w.cell? ⟨w.heap.size + 2, 2, none⟩ = some (.int .i64 5) := fun q => q.h.cw
  obtain ⟨w1, hwd⟩ : ∃ W, W = w0.drew := ⟨_, rfl⟩
  rw [← hwd]
  have hb : Below w0.heap.size w0 w1 := by rw [hwd]; exact (Below.refl _ _).drew
  have HN1 : Hid (OrF w w1 (ordR2 w.heap.size) 2 5) := HN0.out.next hb
  clear hb hwd
  refine mix_seg [0, 2, 3, 4] (by kernel_rfl) HN1.out ?_
  simp only [segOf, pickOps, pickOp]
  repeat (go_big_quiet_step (fail))
  refine wpQuiet_nil ?_
  refine mix_run 1 (by kernel_rfl) ?_
  simp only [segOf, pickOps, pickOp]
  go_wp2_with fail
  refine (aCheck_any (ordR2 w.heap.size) _ HN1.out.kr HN1.out.env).mono ?_
  rintro e w2 ⟨rfl, hb⟩
  rw [ord_ask2]
  have HN2 : Hid (OrF w w2 (ordR2 w.heap.size) 2 5) := HN1.out.next hb
  clear hb
  go_wp2_with fail
  refine MixPost.normal HN2.out ?_
  refine mix_seg [5, 6] (by kernel_rfl) HN2.out ?_
  simp only [segOf, pickOps, pickOp]
  repeat (go_big_quiet_step (fail))
  refine wpQuiet_nil ?_
  refine mix_run 7 (by kernel_rfl) ?_
  simp only [segOf, pickOps, pickOp]
  go_wp2_with fail
  refine (awake8_any _ HN2.out.env).mono ?_
  rintro e w3 ⟨rfl, hb⟩
  have HN3 : Hid (OrF w w3 (ordR2 w.heap.size) 2 5) := HN2.out.next hb
  clear hb
  go_wp2_with fail
  refine MixPost.normal HN3.out ?_
  refine mix_seg [8, 9] (by kernel_rfl) HN3.out ?_
  simp only [segOf, pickOps, pickOp]
  repeat (go_big_quiet_step (fail))
  refine wpQuiet_nil ?_
  refine mix_done (by kernel_rfl) ?_
  go_wp2
  go_ret
  exact ⟨rfl, HN3.out.bel⟩

def ordR3 (g : Nat) : Rv := ⟨⟨#[71, 69, 84]⟩, ⟨#[104, 116, 116, 112, 58, 47, 47, 104, 47]⟩, ⟨#[104, 116, 116, 112, 58, 47, 47, 104]⟩, 9, false, some ⟨g, 0, none⟩, 1, 1, [(⟨#[]⟩, ⟨#[]⟩)], 7, 601, -1, 0⟩
theorem ord_ask3 (g : Nat) : askI (ordR3 g).q = 7 := by kernel_rfl
theorem ord_ok3 (w : World) (t : TypeId) : RqOk (w.alloc (.cells #[.string ⟨#[]⟩, .string ⟨#[]⟩] t)) (ordR3 w.heap.size) :=
  ⟨head_ok w t, rfl, ⟨by simp [ordR3], by intro h hh; simp [ordR3] at hh; subst hh; decide⟩, by dsimp only [ordR3]; decide, by dsimp only [ordR3]; decide, by dsimp only [ordR3]; decide⟩
set_option maxRecDepth 100000 in
set_option maxHeartbeats 4000000 in
theorem ord_3 (a0 : Int) (w : World) (hk : lowV a0 9 = 3) (he : Env8 w) :
    Calls Tryz.prog 6 #[.int .i64 a0] w fun e w' => e = .returned (.bool true) ∧ Below w.heap.size w w' := by
  obtain ⟨w0, hW⟩ : ∃ W, W = ((w.alloc (Obj.cells #[.string ⟨#[]⟩, .string ⟨#[]⟩] 44)).alloc (Obj.cells #[.string ⟨#[71, 69, 84]⟩, .string ⟨#[104, 116, 116, 112, 58, 47, 47, 104, 47]⟩, .string ⟨#[104, 116, 116, 112, 58, 47, 47, 104]⟩, .int .i64 9, .bool false, .slice (some ⟨w.heap.size, 0, none⟩) 1 1, .int .i64 7, .int .u64 601, .int .i64 (-1), .int .i64 0] 25)).alloc (Obj.cells #[.int .i64 3, .int .i64 3, .int .i64 5, .int .i64 7, .int .i64 6, .int .i64 8, .int .i64 9, .int .i64 2, .int .i64 0] 46) := ⟨_, rfl⟩
  have HN0 : Hid (OrF w w0 (ordR3 w.heap.size) 3 7) := by rw [hW]; exact OrF.new he (ordR3 w.heap.size) 3 7 _ _ _ (ord_ok3 w _) rfl
  have HK := Lib.hid hk
  clear hk he
  go_enter Tryz.func6, Tryz.ntmps6
  go_wp2_with fail
  refine (Low_any a0 9 _ (by omega) (by omega)).mono ?_
  rintro e w' ⟨rfl, rfl⟩
  rw [HK.out]
  go_wp2_with fail
  rw [← hW]
  clear hW
  refine mix_start (fun W => OrF w W (ordR3 w.heap.size) 3 7) (by kernel_rfl) ?_
  have hne : Nonempty (Held (fun W => OrF w W (ordR3 w.heap.size) 3 7)) := ⟨⟨_, HN0.out⟩⟩
  have zz0 : ∀ q : Held (fun W => OrF w W (ordR3 w.heap.size) 3 7), q.w.cell? ⟨w.heap.size + 1, 0, none⟩ = some (.string ⟨#[71, 69, 84]⟩) := fun q => q.h.ar.c0
  have zz1 : ∀ q : Held (fun W => OrF w W (ordR3 w.heap.size) 3 7), q.w.cell? ⟨w.heap.size + 1, 1, none⟩ = some (.string ⟨#[104, 116, 116, 112, 58, 47, 47, 104, 47]⟩) := fun q => q.h.ar.c1
  have zz2 : ∀ q : Held (fun W => OrF w W (ordR3 w.heap.size) 3 7), q.w.cell? ⟨w.heap.size + 1, 2, none⟩ = some (.string ⟨#[104, 116, 116, 112, 58, 47, 47, 104]⟩) := fun q => q.h.ar.c2
  have zz3 : ∀ q : Held (fun W => OrF w W (ordR3 w.heap.size) 3 7), q.w.cell? ⟨w.heap.size + 1, 3, none⟩ = some (.int .i64 9) := fun q => q.h.ar.c3
  have zz4 : ∀ q : Held (fun W => OrF w W (ordR3 w.heap.size) 3 7), q.w.cell? ⟨w.heap.size + 1, 4, none⟩ = some (.bool false) := fun q => q.h.ar.c4
  have zz5 : ∀ q : Held (fun W => OrF w W (ordR3 w.heap.size) 3 7), q.w.cell? ⟨w.heap.size + 1, 5, none⟩ = some (.slice (some ⟨w.heap.size, 0, none⟩) 1 1) := fun q => q.h.ar.c5
  have zz6 : ∀ q : Held (fun W => OrF w W (ordR3 w.heap.size) 3 7), q.w.cell? ⟨w.heap.size + 1, 6, none⟩ = some (.int .i64 7) := fun q => q.h.ar.c6
  have zz7 : ∀ q : Held (fun W => OrF w W (ordR3 w.heap.size) 3 7), q.w.cell? ⟨w.heap.size + 1, 7, none⟩ = some (.int .u64 601) := fun q => q.h.ar.c7
  have zz8 : ∀ q : Held (fun W => OrF w W (ordR3 w.heap.size) 3 7), q.w.cell? ⟨w.heap.size + 1, 8, none⟩ = some (.int .i64 (-1)) := fun q => q.h.ar.c8
  have zz9 : ∀ q : Held (fun W => OrF w W (ordR3 w.heap.size) 3 7), q.w.cell? ⟨w.heap.size + 1, 9, none⟩ = some (.int .i64 0) := fun q => q.h.ar.c9
  have zz10 : ∀ q : Held (fun W => OrF w W (ordR3 w.heap.size) 3 7), q.w.cell? ⟨w.heap.size + 2, 3, none⟩ = some (.int .i64 7) := fun q => q.h.cw
  obtain ⟨w1, hwd⟩ : ∃ W, W = w0.drew := ⟨_, rfl⟩
  rw [← hwd]
  have hb : Below w0.heap.size w0 w1 := by rw [hwd]; exact (Below.refl _ _).drew
  have HN1 : Hid (OrF w w1 (ordR3 w.heap.size) 3 7) := HN0.out.next hb
  clear hb hwd
  refine mix_seg [0, 2, 3, 4] (by kernel_rfl) HN1.out ?_
  simp only [segOf, pickOps, pickOp]
  repeat (go_big_quiet_step (fail))
  refine wpQuiet_nil ?_
  refine mix_run 1 (by kernel_rfl) ?_
  simp only [segOf, pickOps, pickOp]
  go_wp2_with fail
  refine (aCheck_any (ordR3 w.heap.size) _ HN1.out.kr HN1.out.env).mono ?_
  rintro e w2 ⟨rfl, hb⟩
  rw [ord_ask3]
  have HN2 : Hid (OrF w w2 (ordR3 w.heap.size) 3 7) := HN1.out.next hb
  clear hb
  go_wp2_with fail
  refine MixPost.normal HN2.out ?_
  refine mix_seg [5, 6] (by kernel_rfl) HN2.out ?_
  simp only [segOf, pickOps, pickOp]
  repeat (go_big_quiet_step (fail))
  refine wpQuiet_nil ?_
  refine mix_run 7 (by kernel_rfl) ?_
  simp only [segOf, pickOps, pickOp]
  go_wp2_with fail
  refine (awake8_any _ HN2.out.env).mono ?_
  rintro e w3 ⟨rfl, hb⟩
  have HN3 : Hid (OrF w w3 (ordR3 w.heap.size) 3 7) := HN2.out.next hb
  clear hb
  go_wp2_with fail
  refine MixPost.normal HN3.out ?_
  refine mix_seg [8, 9] (by kernel_rfl) HN3.out ?_
  simp only [segOf, pickOps, pickOp]
  repeat (go_big_quiet_step (fail))
  refine wpQuiet_nil ?_
  refine mix_done (by kernel_rfl) ?_
  go_wp2
  go_ret
  exact ⟨rfl, HN3.out.bel⟩

def ordR4 (g : Nat) : Rv := ⟨⟨#[71, 69, 84]⟩, ⟨#[104, 116, 116, 112, 58, 47, 47, 104, 47]⟩, ⟨#[104, 116, 116, 112, 58, 47, 47, 104]⟩, 1, false, some ⟨g, 0, none⟩, 1, 1, [(⟨#[]⟩, ⟨#[]⟩)], 7, 601, -1, 0⟩
theorem ord_ask4 (g : Nat) : askI (ordR4 g).q = 6 := by kernel_rfl
theorem ord_ok4 (w : World) (t : TypeId) : RqOk (w.alloc (.cells #[.string ⟨#[]⟩, .string ⟨#[]⟩] t)) (ordR4 w.heap.size) :=
  ⟨head_ok w t, rfl, ⟨by simp [ordR4], by intro h hh; simp [ordR4] at hh; subst hh; decide⟩, by dsimp only [ordR4]; decide, by dsimp only [ordR4]; decide, by dsimp only [ordR4]; decide⟩
set_option maxRecDepth 100000 in
set_option maxHeartbeats 4000000 in
theorem ord_4 (a0 : Int) (w : World) (hk : lowV a0 9 = 4) (he : Env8 w) :
    Calls Tryz.prog 6 #[.int .i64 a0] w fun e w' => e = .returned (.bool true) ∧ Below w.heap.size w w' := by
  obtain ⟨w0, hW⟩ : ∃ W, W = ((w.alloc (Obj.cells #[.string ⟨#[]⟩, .string ⟨#[]⟩] 44)).alloc (Obj.cells #[.string ⟨#[71, 69, 84]⟩, .string ⟨#[104, 116, 116, 112, 58, 47, 47, 104, 47]⟩, .string ⟨#[104, 116, 116, 112, 58, 47, 47, 104]⟩, .int .i64 1, .bool false, .slice (some ⟨w.heap.size, 0, none⟩) 1 1, .int .i64 7, .int .u64 601, .int .i64 (-1), .int .i64 0] 25)).alloc (Obj.cells #[.int .i64 3, .int .i64 3, .int .i64 5, .int .i64 7, .int .i64 6, .int .i64 8, .int .i64 9, .int .i64 2, .int .i64 0] 46) := ⟨_, rfl⟩
  have HN0 : Hid (OrF w w0 (ordR4 w.heap.size) 4 6) := by rw [hW]; exact OrF.new he (ordR4 w.heap.size) 4 6 _ _ _ (ord_ok4 w _) rfl
  have HK := Lib.hid hk
  clear hk he
  go_enter Tryz.func6, Tryz.ntmps6
  go_wp2_with fail
  refine (Low_any a0 9 _ (by omega) (by omega)).mono ?_
  rintro e w' ⟨rfl, rfl⟩
  rw [HK.out]
  go_wp2_with fail
  rw [← hW]
  clear hW
  refine mix_start (fun W => OrF w W (ordR4 w.heap.size) 4 6) (by kernel_rfl) ?_
  have hne : Nonempty (Held (fun W => OrF w W (ordR4 w.heap.size) 4 6)) := ⟨⟨_, HN0.out⟩⟩
  have zz0 : ∀ q : Held (fun W => OrF w W (ordR4 w.heap.size) 4 6), q.w.cell? ⟨w.heap.size + 1, 0, none⟩ = some (.string ⟨#[71, 69, 84]⟩) := fun q => q.h.ar.c0
  have zz1 : ∀ q : Held (fun W => OrF w W (ordR4 w.heap.size) 4 6), q.w.cell? ⟨w.heap.size + 1, 1, none⟩ = some (.string ⟨#[104, 116, 116, 112, 58, 47, 47, 104, 47]⟩) := fun q => q.h.ar.c1
  have zz2 : ∀ q : Held (fun W => OrF w W (ordR4 w.heap.size) 4 6), q.w.cell? ⟨w.heap.size + 1, 2, none⟩ = some (.string ⟨#[104, 116, 116, 112, 58, 47, 47, 104]⟩) := fun q => q.h.ar.c2
  have zz3 : ∀ q : Held (fun W => OrF w W (ordR4 w.heap.size) 4 6), q.w.cell? ⟨w.heap.size + 1, 3, none⟩ = some (.int .i64 1) := fun q => q.h.ar.c3
  have zz4 : ∀ q : Held (fun W => OrF w W (ordR4 w.heap.size) 4 6), q.w.cell? ⟨w.heap.size + 1, 4, none⟩ = some (.bool false) := fun q => q.h.ar.c4
  have zz5 : ∀ q : Held (fun W => OrF w W (ordR4 w.heap.size) 4 6), q.w.cell? ⟨w.heap.size + 1, 5, none⟩ = some (.slice (some ⟨w.heap.size, 0, none⟩) 1 1) := fun q => q.h.ar.c5
  have zz6 : ∀ q : Held (fun W => OrF w W (ordR4 w.heap.size) 4 6), q.w.cell? ⟨w.heap.size + 1, 6, none⟩ = some (.int .i64 7) := fun q => q.h.ar.c6
  have zz7 : ∀ q : Held (fun W => OrF w W (ordR4 w.heap.size) 4 6), q.w.cell? ⟨w.heap.size + 1, 7, none⟩ = some (.int .u64 601) := fun q => q.h.ar.c7
  have zz8 : ∀ q : Held (fun W => OrF w W (ordR4 w.heap.size) 4 6), q.w.cell? ⟨w.heap.size + 1, 8, none⟩ = some (.int .i64 (-1)) := fun q => q.h.ar.c8
  have zz9 : ∀ q : Held (fun W => OrF w W (ordR4 w.heap.size) 4 6), q.w.cell? ⟨w.heap.size + 1, 9, none⟩ = some (.int .i64 0) := fun q => q.h.ar.c9
  have zz10 : ∀ q : Held (fun W => OrF w W (ordR4 w.heap.size) 4 6), q.w.cell? ⟨w.heap.size + 2, 4, none⟩ = some (.int .i64 6) := fun q => q.h.cw
  obtain ⟨w1, hwd⟩ : ∃ W, W = w0.drew := ⟨_, rfl⟩
  rw [← hwd]
  have hb : Below w0.heap.size w0 w1 := by rw [hwd]; exact (Below.refl _ _).drew
  have HN1 : Hid (OrF w w1 (ordR4 w.heap.size) 4 6) := HN0.out.next hb
  clear hb hwd
  refine mix_seg [0, 2, 3, 4] (by kernel_rfl) HN1.out ?_
  simp only [segOf, pickOps, pickOp]
  repeat (go_big_quiet_step (fail))
  refine wpQuiet_nil ?_
  refine mix_run 1 (by kernel_rfl) ?_
  simp only [segOf, pickOps, pickOp]
  go_wp2_with fail
  refine (aCheck_any (ordR4 w.heap.size) _ HN1.out.kr HN1.out.env).mono ?_
  rintro e w2 ⟨rfl, hb⟩
  rw [ord_ask4]
  have HN2 : Hid (OrF w w2 (ordR4 w.heap.size) 4 6) := HN1.out.next hb
  clear hb
  go_wp2_with fail
  refine MixPost.normal HN2.out ?_
  refine mix_seg [5, 6] (by kernel_rfl) HN2.out ?_
  simp only [segOf, pickOps, pickOp]
  repeat (go_big_quiet_step (fail))
  refine wpQuiet_nil ?_
  refine mix_run 7 (by kernel_rfl) ?_
  simp only [segOf, pickOps, pickOp]
  go_wp2_with fail
  refine (awake8_any _ HN2.out.env).mono ?_
  rintro e w3 ⟨rfl, hb⟩
  have HN3 : Hid (OrF w w3 (ordR4 w.heap.size) 4 6) := HN2.out.next hb
  clear hb
  go_wp2_with fail
  refine MixPost.normal HN3.out ?_
  refine mix_seg [8, 9] (by kernel_rfl) HN3.out ?_
  simp only [segOf, pickOps, pickOp]
  repeat (go_big_quiet_step (fail))
  refine wpQuiet_nil ?_
  refine mix_done (by kernel_rfl) ?_
  go_wp2
  go_ret
  exact ⟨rfl, HN3.out.bel⟩

def ordR5 (_g : Nat) : Rv := ⟨⟨#[71, 69, 84]⟩, ⟨#[104, 116, 116, 112, 58, 47, 47, 104, 47]⟩, ⟨#[104, 116, 116, 112, 58, 47, 47, 104]⟩, 1, false, none, 0, 0, [], 7, 601, -1, 0⟩
theorem ord_ask5 (g : Nat) : askI (ordR5 g).q = 8 := by kernel_rfl
theorem ord_ok5 (w : World) (t : TypeId) : RqOk (w.alloc (.cells #[.string ⟨#[]⟩, .string ⟨#[]⟩] t)) (ordR5 w.heap.size) :=
  RqOk.none_ _ rfl rfl (by dsimp only [ordR5]; decide) (by dsimp only [ordR5]; decide) (by dsimp only [ordR5]; decide)
set_option maxRecDepth 100000 in
set_option maxHeartbeats 4000000 in
theorem ord_5 (a0 : Int) (w : World) (hk : lowV a0 9 = 5) (he : Env8 w) :
    Calls Tryz.prog 6 #[.int .i64 a0] w fun e w' => e = .returned (.bool true) ∧ Below w.heap.size w w' := by
  obtain ⟨w0, hW⟩ : ∃ W, W = ((w.alloc (Obj.cells #[.string ⟨#[]⟩, .string ⟨#[]⟩] 44)).alloc (Obj.cells #[.string ⟨#[71, 69, 84]⟩, .string ⟨#[104, 116, 116, 112, 58, 47, 47, 104, 47]⟩, .string ⟨#[104, 116, 116, 112, 58, 47, 47, 104]⟩, .int .i64 1, .bool false, .slice none 0 0, .int .i64 7, .int .u64 601, .int .i64 (-1), .int .i64 0] 25)).alloc (Obj.cells #[.int .i64 3, .int .i64 3, .int .i64 5, .int .i64 7, .int .i64 6, .int .i64 8, .int .i64 9, .int .i64 2, .int .i64 0] 46) := ⟨_, rfl⟩
  have HN0 : Hid (OrF w w0 (ordR5 w.heap.size) 5 8) := by rw [hW]; exact OrF.new he (ordR5 w.heap.size) 5 8 _ _ _ (ord_ok5 w _) rfl
  have HK := Lib.hid hk
  clear hk he
  go_enter Tryz.func6, Tryz.ntmps6
  go_wp2_with fail
  refine (Low_any a0 9 _ (by omega) (by omega)).mono ?_
  rintro e w' ⟨rfl, rfl⟩
  rw [HK.out]
  go_wp2_with fail
  rw [← hW]
  clear hW
  refine mix_start (fun W => OrF w W (ordR5 w.heap.size) 5 8) (by kernel_rfl) ?_
  have hne : Nonempty (Held (fun W => OrF w W (ordR5 w.heap.size) 5 8)) := ⟨⟨_, HN0.out⟩⟩
  have zz0 : ∀ q : Held (fun W => OrF w W (ordR5 w.heap.size) 5 8), q.w.cell? ⟨w.heap.size + 1, 0, none⟩ = some (.string ⟨#[71, 69, 84]⟩) := fun q => q.h.ar.c0
  have zz1 : ∀ q : Held (fun W => OrF w W (ordR5 w.heap.size) 5 8), q.w.cell? ⟨w.heap.size + 1, 1, none⟩ = some (.string ⟨#[104, 116, 116, 112, 58, 47, 47, 104, 47]⟩) := fun q => q.h.ar.c1
  have zz2 : ∀ q : Held (fun W => OrF w W (ordR5 w.heap.size) 5 8), q.w.cell? ⟨w.heap.size + 1, 2, none⟩ = some (.string ⟨#[104, 116, 116, 112, 58, 47, 47, 104]⟩) := fun q => q.h.ar.c2
  have zz3 : ∀ q : Held (fun W => OrF w W (ordR5 w.heap.size) 5 8), q.w.cell? ⟨w.heap.size + 1, 3, none⟩ = some (.int .i64 1) := fun q => q.h.ar.c3
  have zz4 : ∀ q : Held (fun W => OrF w W (ordR5 w.heap.size) 5 8), q.w.cell? ⟨w.heap.size + 1, 4, none⟩ = some (.bool false) := fun q => q.h.ar.c4
  have zz5 : ∀ q : Held (fun W => OrF w W (ordR5 w.heap.size) 5 8), q.w.cell? ⟨w.heap.size + 1, 5, none⟩ = some (.slice none 0 0) := fun q => q.h.ar.c5
  have zz6 : ∀ q : Held (fun W => OrF w W (ordR5 w.heap.size) 5 8), q.w.cell? ⟨w.heap.size + 1, 6, none⟩ = some (.int .i64 7) := fun q => q.h.ar.c6
  have zz7 : ∀ q : Held (fun W => OrF w W (ordR5 w.heap.size) 5 8), q.w.cell? ⟨w.heap.size + 1, 7, none⟩ = some (.int .u64 601) := fun q => q.h.ar.c7
  have zz8 : ∀ q : Held (fun W => OrF w W (ordR5 w.heap.size) 5 8), q.w.cell? ⟨w.heap.size + 1, 8, none⟩ = some (.int .i64 (-1)) := fun q => q.h.ar.c8
  have zz9 : ∀ q : Held (fun W => OrF w W (ordR5 w.heap.size) 5 8), q.w.cell? ⟨w.heap.size + 1, 9, none⟩ = some (.int .i64 0) := fun q => q.h.ar.c9
  have zz10 : ∀ q : Held (fun W => OrF w W (ordR5 w.heap.size) 5 8), q.w.cell? ⟨w.heap.size + 2, 5, none⟩ = some (.int .i64 8) := fun q => q.h.cw
  obtain ⟨w1, hwd⟩ : ∃ W, W = w0.drew := ⟨_, rfl⟩
  rw [← hwd]
  have hb : Below w0.heap.size w0 w1 := by rw [hwd]; exact (Below.refl _ _).drew
  have HN1 : Hid (OrF w w1 (ordR5 w.heap.size) 5 8) := HN0.out.next hb
  clear hb hwd
  refine mix_seg [0, 2, 3, 4] (by kernel_rfl) HN1.out ?_
  simp only [segOf, pickOps, pickOp]
  repeat (go_big_quiet_step (fail))
  refine wpQuiet_nil ?_
  refine mix_run 1 (by kernel_rfl) ?_
  simp only [segOf, pickOps, pickOp]
  go_wp2_with fail
  refine (aCheck_any (ordR5 w.heap.size) _ HN1.out.kr HN1.out.env).mono ?_
  rintro e w2 ⟨rfl, hb⟩
  rw [ord_ask5]
  have HN2 : Hid (OrF w w2 (ordR5 w.heap.size) 5 8) := HN1.out.next hb
  clear hb
  go_wp2_with fail
  refine MixPost.normal HN2.out ?_
  refine mix_seg [5, 6] (by kernel_rfl) HN2.out ?_
  simp only [segOf, pickOps, pickOp]
  repeat (go_big_quiet_step (fail))
  refine wpQuiet_nil ?_
  refine mix_run 7 (by kernel_rfl) ?_
  simp only [segOf, pickOps, pickOp]
  go_wp2_with fail
  refine (awake8_any _ HN2.out.env).mono ?_
  rintro e w3 ⟨rfl, hb⟩
  have HN3 : Hid (OrF w w3 (ordR5 w.heap.size) 5 8) := HN2.out.next hb
  clear hb
  go_wp2_with fail
  refine MixPost.normal HN3.out ?_
  refine mix_seg [8, 9] (by kernel_rfl) HN3.out ?_
  simp only [segOf, pickOps, pickOp]
  repeat (go_big_quiet_step (fail))
  refine wpQuiet_nil ?_
  refine mix_done (by kernel_rfl) ?_
  go_wp2
  go_ret
  exact ⟨rfl, HN3.out.bel⟩

def ordR6 (_g : Nat) : Rv := ⟨⟨#[71, 69, 84]⟩, ⟨#[104, 116, 116, 112, 58, 47, 47, 104, 47]⟩, ⟨#[104, 116, 116, 112, 58, 47, 47, 104]⟩, 1, false, none, 0, 0, [], 6, 601, -1, 0⟩
theorem ord_ask6 (g : Nat) : askI (ordR6 g).q = 9 := by kernel_rfl
theorem ord_ok6 (w : World) (t : TypeId) : RqOk (w.alloc (.cells #[.string ⟨#[]⟩, .string ⟨#[]⟩] t)) (ordR6 w.heap.size) :=
  RqOk.none_ _ rfl rfl (by dsimp only [ordR6]; decide) (by dsimp only [ordR6]; decide) (by dsimp only [ordR6]; decide)
set_option maxRecDepth 100000 in
set_option maxHeartbeats 4000000 in
theorem ord_6 (a0 : Int) (w : World) (hk : lowV a0 9 = 6) (he : Env8 w) :
    Calls Tryz.prog 6 #[.int .i64 a0] w fun e w' => e = .returned (.bool true) ∧ Below w.heap.size w w' := by
  obtain ⟨w0, hW⟩ : ∃ W, W = ((w.alloc (Obj.cells #[.string ⟨#[]⟩, .string ⟨#[]⟩] 44)).alloc (Obj.cells #[.string ⟨#[71, 69, 84]⟩, .string ⟨#[104, 116, 116, 112, 58, 47, 47, 104, 47]⟩, .string ⟨#[104, 116, 116, 112, 58, 47, 47, 104]⟩, .int .i64 1, .bool false, .slice none 0 0, .int .i64 6, .int .u64 601, .int .i64 (-1), .int .i64 0] 25)).alloc (Obj.cells #[.int .i64 3, .int .i64 3, .int .i64 5, .int .i64 7, .int .i64 6, .int .i64 8, .int .i64 9, .int .i64 2, .int .i64 0] 46) := ⟨_, rfl⟩
  have HN0 : Hid (OrF w w0 (ordR6 w.heap.size) 6 9) := by rw [hW]; exact OrF.new he (ordR6 w.heap.size) 6 9 _ _ _ (ord_ok6 w _) rfl
  have HK := Lib.hid hk
  clear hk he
  go_enter Tryz.func6, Tryz.ntmps6
  go_wp2_with fail
  refine (Low_any a0 9 _ (by omega) (by omega)).mono ?_
  rintro e w' ⟨rfl, rfl⟩
  rw [HK.out]
  go_wp2_with fail
  rw [← hW]
  clear hW
  refine mix_start (fun W => OrF w W (ordR6 w.heap.size) 6 9) (by kernel_rfl) ?_
  have hne : Nonempty (Held (fun W => OrF w W (ordR6 w.heap.size) 6 9)) := ⟨⟨_, HN0.out⟩⟩
  have zz0 : ∀ q : Held (fun W => OrF w W (ordR6 w.heap.size) 6 9), q.w.cell? ⟨w.heap.size + 1, 0, none⟩ = some (.string ⟨#[71, 69, 84]⟩) := fun q => q.h.ar.c0
  have zz1 : ∀ q : Held (fun W => OrF w W (ordR6 w.heap.size) 6 9), q.w.cell? ⟨w.heap.size + 1, 1, none⟩ = some (.string ⟨#[104, 116, 116, 112, 58, 47, 47, 104, 47]⟩) := fun q => q.h.ar.c1
  have zz2 : ∀ q : Held (fun W => OrF w W (ordR6 w.heap.size) 6 9), q.w.cell? ⟨w.heap.size + 1, 2, none⟩ = some (.string ⟨#[104, 116, 116, 112, 58, 47, 47, 104]⟩) := fun q => q.h.ar.c2
  have zz3 : ∀ q : Held (fun W => OrF w W (ordR6 w.heap.size) 6 9), q.w.cell? ⟨w.heap.size + 1, 3, none⟩ = some (.int .i64 1) := fun q => q.h.ar.c3
  have zz4 : ∀ q : Held (fun W => OrF w W (ordR6 w.heap.size) 6 9), q.w.cell? ⟨w.heap.size + 1, 4, none⟩ = some (.bool false) := fun q => q.h.ar.c4
  have zz5 : ∀ q : Held (fun W => OrF w W (ordR6 w.heap.size) 6 9), q.w.cell? ⟨w.heap.size + 1, 5, none⟩ = some (.slice none 0 0) := fun q => q.h.ar.c5
  have zz6 : ∀ q : Held (fun W => OrF w W (ordR6 w.heap.size) 6 9), q.w.cell? ⟨w.heap.size + 1, 6, none⟩ = some (.int .i64 6) := fun q => q.h.ar.c6
  have zz7 : ∀ q : Held (fun W => OrF w W (ordR6 w.heap.size) 6 9), q.w.cell? ⟨w.heap.size + 1, 7, none⟩ = some (.int .u64 601) := fun q => q.h.ar.c7
  have zz8 : ∀ q : Held (fun W => OrF w W (ordR6 w.heap.size) 6 9), q.w.cell? ⟨w.heap.size + 1, 8, none⟩ = some (.int .i64 (-1)) := fun q => q.h.ar.c8
  have zz9 : ∀ q : Held (fun W => OrF w W (ordR6 w.heap.size) 6 9), q.w.cell? ⟨w.heap.size + 1, 9, none⟩ = some (.int .i64 0) := fun q => q.h.ar.c9
  have zz10 : ∀ q : Held (fun W => OrF w W (ordR6 w.heap.size) 6 9), q.w.cell? ⟨w.heap.size + 2, 6, none⟩ = some (.int .i64 9) := fun q => q.h.cw
  obtain ⟨w1, hwd⟩ : ∃ W, W = w0.drew := ⟨_, rfl⟩
  rw [← hwd]
  have hb : Below w0.heap.size w0 w1 := by rw [hwd]; exact (Below.refl _ _).drew
  have HN1 : Hid (OrF w w1 (ordR6 w.heap.size) 6 9) := HN0.out.next hb
  clear hb hwd
  refine mix_seg [0, 2, 3, 4] (by kernel_rfl) HN1.out ?_
  simp only [segOf, pickOps, pickOp]
  repeat (go_big_quiet_step (fail))
  refine wpQuiet_nil ?_
  refine mix_run 1 (by kernel_rfl) ?_
  simp only [segOf, pickOps, pickOp]
  go_wp2_with fail
  refine (aCheck_any (ordR6 w.heap.size) _ HN1.out.kr HN1.out.env).mono ?_
  rintro e w2 ⟨rfl, hb⟩
  rw [ord_ask6]
  have HN2 : Hid (OrF w w2 (ordR6 w.heap.size) 6 9) := HN1.out.next hb
  clear hb
  go_wp2_with fail
  refine MixPost.normal HN2.out ?_
  refine mix_seg [5, 6] (by kernel_rfl) HN2.out ?_
  simp only [segOf, pickOps, pickOp]
  repeat (go_big_quiet_step (fail))
  refine wpQuiet_nil ?_
  refine mix_run 7 (by kernel_rfl) ?_
  simp only [segOf, pickOps, pickOp]
  go_wp2_with fail
  refine (awake8_any _ HN2.out.env).mono ?_
  rintro e w3 ⟨rfl, hb⟩
  have HN3 : Hid (OrF w w3 (ordR6 w.heap.size) 6 9) := HN2.out.next hb
  clear hb
  go_wp2_with fail
  refine MixPost.normal HN3.out ?_
  refine mix_seg [8, 9] (by kernel_rfl) HN3.out ?_
  simp only [segOf, pickOps, pickOp]
  repeat (go_big_quiet_step (fail))
  refine wpQuiet_nil ?_
  refine mix_done (by kernel_rfl) ?_
  go_wp2
  go_ret
  exact ⟨rfl, HN3.out.bel⟩

def ordR7 (_g : Nat) : Rv := ⟨⟨#[71, 69, 84]⟩, ⟨#[104, 116, 116, 112, 58, 47, 47, 104, 47]⟩, ⟨#[104, 116, 116, 112, 58, 47, 47, 104]⟩, 1, false, none, 0, 0, [], 6, 600, -1, 0⟩
theorem ord_ask7 (g : Nat) : askI (ordR7 g).q = 2 := by kernel_rfl
theorem ord_ok7 (w : World) (t : TypeId) : RqOk (w.alloc (.cells #[.string ⟨#[]⟩, .string ⟨#[]⟩] t)) (ordR7 w.heap.size) :=
  RqOk.none_ _ rfl rfl (by dsimp only [ordR7]; decide) (by dsimp only [ordR7]; decide) (by dsimp only [ordR7]; decide)
set_option maxRecDepth 100000 in
set_option maxHeartbeats 4000000 in
theorem ord_7 (a0 : Int) (w : World) (hk : lowV a0 9 = 7) (he : Env8 w) :
    Calls Tryz.prog 6 #[.int .i64 a0] w fun e w' => e = .returned (.bool true) ∧ Below w.heap.size w w' := by
  obtain ⟨w0, hW⟩ : ∃ W, W = ((w.alloc (Obj.cells #[.string ⟨#[]⟩, .string ⟨#[]⟩] 44)).alloc (Obj.cells #[.string ⟨#[71, 69, 84]⟩, .string ⟨#[104, 116, 116, 112, 58, 47, 47, 104, 47]⟩, .string ⟨#[104, 116, 116, 112, 58, 47, 47, 104]⟩, .int .i64 1, .bool false, .slice none 0 0, .int .i64 6, .int .u64 600, .int .i64 (-1), .int .i64 0] 25)).alloc (Obj.cells #[.int .i64 3, .int .i64 3, .int .i64 5, .int .i64 7, .int .i64 6, .int .i64 8, .int .i64 9, .int .i64 2, .int .i64 0] 46) := ⟨_, rfl⟩
  have HN0 : Hid (OrF w w0 (ordR7 w.heap.size) 7 2) := by rw [hW]; exact OrF.new he (ordR7 w.heap.size) 7 2 _ _ _ (ord_ok7 w _) rfl
  have HK := Lib.hid hk
  clear hk he
  go_enter Tryz.func6, Tryz.ntmps6
  go_wp2_with fail
  refine (Low_any a0 9 _ (by omega) (by omega)).mono ?_
  rintro e w' ⟨rfl, rfl⟩
  rw [HK.out]
  go_wp2_with fail
  rw [← hW]
  clear hW
  refine mix_start (fun W => OrF w W (ordR7 w.heap.size) 7 2) (by kernel_rfl) ?_
  have hne : Nonempty (Held (fun W => OrF w W (ordR7 w.heap.size) 7 2)) := ⟨⟨_, HN0.out⟩⟩
  have zz0 : ∀ q : Held (fun W => OrF w W (ordR7 w.heap.size) 7 2), q.w.cell? ⟨w.heap.size + 1, 0, none⟩ = some (.string ⟨#[71, 69, 84]⟩) := fun q => q.h.ar.c0
  have zz1 : ∀ q : Held (fun W => OrF w W (ordR7 w.heap.size) 7 2), q.w.cell? ⟨w.heap.size + 1, 1, none⟩ = some (.string ⟨#[104, 116, 116, 112, 58, 47, 47, 104, 47]⟩) := fun q => q.h.ar.c1
  have zz2 : ∀ q : Held (fun W => OrF w W (ordR7 w.heap.size) 7 2), q.w.cell? ⟨w.heap.size + 1, 2, none⟩ = some (.string ⟨#[104, 116, 116, 112, 58, 47, 47, 104]⟩) := fun q => q.h.ar.c2
  have zz3 : ∀ q : Held (fun W => OrF w W (ordR7 w.heap.size) 7 2), q.w.cell? ⟨w.heap.size + 1, 3, none⟩ = some (.int .i64 1) := fun q => q.h.ar.c3
  have zz4 : ∀ q : Held (fun W => OrF w W (ordR7 w.heap.size) 7 2), q.w.cell? ⟨w.heap.size + 1, 4, none⟩ = some (.bool false) := fun q => q.h.ar.c4
  have zz5 : ∀ q : Held (fun W => OrF w W (ordR7 w.heap.size) 7 2), q.w.cell? ⟨w.heap.size + 1, 5, none⟩ = some (.slice none 0 0) := fun q => q.h.ar.c5
  have zz6 : ∀ q : Held (fun W => OrF w W (ordR7 w.heap.size) 7 2), q.w.cell? ⟨w.heap.size + 1, 6, none⟩ = some (.int .i64 6) := fun q => q.h.ar.c6
  have zz7 : ∀ q : Held (fun W => OrF w W (ordR7 w.heap.size) 7 2), q.w.cell? ⟨w.heap.size + 1, 7, none⟩ = some (.int .u64 600) := fun q => q.h.ar.c7
  have zz8 : ∀ q : Held (fun W => OrF w W (ordR7 w.heap.size) 7 2), q.w.cell? ⟨w.heap.size + 1, 8, none⟩ = some (.int .i64 (-1)) := fun q => q.h.ar.c8
  have zz9 : ∀ q : Held (fun W => OrF w W (ordR7 w.heap.size) 7 2), q.w.cell? ⟨w.heap.size + 1, 9, none⟩ = some (.int .i64 0) := fun q => q.h.ar.c9
  have zz10 : ∀ q : Held (fun W => OrF w W (ordR7 w.heap.size) 7 2), q.w.cell? ⟨w.heap.size + 2, 7, none⟩ = some (.int .i64 2) := fun q => q.h.cw
  obtain ⟨w1, hwd⟩ : ∃ W, W = w0.drew := ⟨_, rfl⟩
  rw [← hwd]
  have hb : Below w0.heap.size w0 w1 := by rw [hwd]; exact (Below.refl _ _).drew
  have HN1 : Hid (OrF w w1 (ordR7 w.heap.size) 7 2) := HN0.out.next hb
  clear hb hwd
  refine mix_seg [0, 2, 3, 4] (by kernel_rfl) HN1.out ?_
  simp only [segOf, pickOps, pickOp]
  repeat (go_big_quiet_step (fail))
  refine wpQuiet_nil ?_
  refine mix_run 1 (by kernel_rfl) ?_
  simp only [segOf, pickOps, pickOp]
  go_wp2_with fail
  refine (aCheck_any (ordR7 w.heap.size) _ HN1.out.kr HN1.out.env).mono ?_
  rintro e w2 ⟨rfl, hb⟩
  rw [ord_ask7]
  have HN2 : Hid (OrF w w2 (ordR7 w.heap.size) 7 2) := HN1.out.next hb
  clear hb
  go_wp2_with fail
  refine MixPost.normal HN2.out ?_
  refine mix_seg [5, 6] (by kernel_rfl) HN2.out ?_
  simp only [segOf, pickOps, pickOp]
  repeat (go_big_quiet_step (fail))
  refine wpQuiet_nil ?_
  refine mix_run 7 (by kernel_rfl) ?_
  simp only [segOf, pickOps, pickOp]
  go_wp2_with fail
  refine (awake8_any _ HN2.out.env).mono ?_
  rintro e w3 ⟨rfl, hb⟩
  have HN3 : Hid (OrF w w3 (ordR7 w.heap.size) 7 2) := HN2.out.next hb
  clear hb
  go_wp2_with fail
  refine MixPost.normal HN3.out ?_
  refine mix_seg [8, 9] (by kernel_rfl) HN3.out ?_
  simp only [segOf, pickOps, pickOp]
  repeat (go_big_quiet_step (fail))
  refine wpQuiet_nil ?_
  refine mix_done (by kernel_rfl) ?_
  go_wp2
  go_ret
  exact ⟨rfl, HN3.out.bel⟩

def ordR8 (_g : Nat) : Rv := ⟨⟨#[71, 69, 84]⟩, ⟨#[104, 116, 116, 112, 58, 47, 47, 104, 47]⟩, ⟨#[104, 116, 116, 112, 58, 47, 47, 104]⟩, 1, false, none, 0, 0, [], 6, 600, 0, 0⟩
theorem ord_ask8 (g : Nat) : askI (ordR8 g).q = 0 := by kernel_rfl
theorem ord_ok8 (w : World) (t : TypeId) : RqOk (w.alloc (.cells #[.string ⟨#[]⟩, .string ⟨#[]⟩] t)) (ordR8 w.heap.size) :=
  RqOk.none_ _ rfl rfl (by dsimp only [ordR8]; decide) (by dsimp only [ordR8]; decide) (by dsimp only [ordR8]; decide)
set_option maxRecDepth 100000 in
set_option maxHeartbeats 4000000 in
theorem ord_8 (a0 : Int) (w : World) (hk : lowV a0 9 = 8) (he : Env8 w) :
    Calls Tryz.prog 6 #[.int .i64 a0] w fun e w' => e = .returned (.bool true) ∧ Below w.heap.size w w' := by
  obtain ⟨w0, hW⟩ : ∃ W, W = ((w.alloc (Obj.cells #[.string ⟨#[]⟩, .string ⟨#[]⟩] 44)).alloc (Obj.cells #[.string ⟨#[71, 69, 84]⟩, .string ⟨#[104, 116, 116, 112, 58, 47, 47, 104, 47]⟩, .string ⟨#[104, 116, 116, 112, 58, 47, 47, 104]⟩, .int .i64 1, .bool false, .slice none 0 0, .int .i64 6, .int .u64 600, .int .i64 0, .int .i64 0] 25)).alloc (Obj.cells #[.int .i64 3, .int .i64 3, .int .i64 5, .int .i64 7, .int .i64 6, .int .i64 8, .int .i64 9, .int .i64 2, .int .i64 0] 46) := ⟨_, rfl⟩
  have HN0 : Hid (OrF w w0 (ordR8 w.heap.size) 8 0) := by rw [hW]; exact OrF.new he (ordR8 w.heap.size) 8 0 _ _ _ (ord_ok8 w _) rfl
  have HK := Lib.hid hk
  clear hk he
  go_enter Tryz.func6, Tryz.ntmps6
  go_wp2_with fail
  refine (Low_any a0 9 _ (by omega) (by omega)).mono ?_
  rintro e w' ⟨rfl, rfl⟩
  rw [HK.out]
  go_wp2_with fail
  rw [← hW]
  clear hW
  refine mix_start (fun W => OrF w W (ordR8 w.heap.size) 8 0) (by kernel_rfl) ?_
  have hne : Nonempty (Held (fun W => OrF w W (ordR8 w.heap.size) 8 0)) := ⟨⟨_, HN0.out⟩⟩
  have zz0 : ∀ q : Held (fun W => OrF w W (ordR8 w.heap.size) 8 0), q.w.cell? ⟨w.heap.size + 1, 0, none⟩ = some (.string ⟨#[71, 69, 84]⟩) := fun q => q.h.ar.c0
  have zz1 : ∀ q : Held (fun W => OrF w W (ordR8 w.heap.size) 8 0), q.w.cell? ⟨w.heap.size + 1, 1, none⟩ = some (.string ⟨#[104, 116, 116, 112, 58, 47, 47, 104, 47]⟩) := fun q => q.h.ar.c1
  have zz2 : ∀ q : Held (fun W => OrF w W (ordR8 w.heap.size) 8 0), q.w.cell? ⟨w.heap.size + 1, 2, none⟩ = some (.string ⟨#[104, 116, 116, 112, 58, 47, 47, 104]⟩) := fun q => q.h.ar.c2
  have zz3 : ∀ q : Held (fun W => OrF w W (ordR8 w.heap.size) 8 0), q.w.cell? ⟨w.heap.size + 1, 3, none⟩ = some (.int .i64 1) := fun q => q.h.ar.c3
  have zz4 : ∀ q : Held (fun W => OrF w W (ordR8 w.heap.size) 8 0), q.w.cell? ⟨w.heap.size + 1, 4, none⟩ = some (.bool false) := fun q => q.h.ar.c4
  have zz5 : ∀ q : Held (fun W => OrF w W (ordR8 w.heap.size) 8 0), q.w.cell? ⟨w.heap.size + 1, 5, none⟩ = some (.slice none 0 0) := fun q => q.h.ar.c5
  have zz6 : ∀ q : Held (fun W => OrF w W (ordR8 w.heap.size) 8 0), q.w.cell? ⟨w.heap.size + 1, 6, none⟩ = some (.int .i64 6) := fun q => q.h.ar.c6
  have zz7 : ∀ q : Held (fun W => OrF w W (ordR8 w.heap.size) 8 0), q.w.cell? ⟨w.heap.size + 1, 7, none⟩ = some (.int .u64 600) := fun q => q.h.ar.c7
  have zz8 : ∀ q : Held (fun W => OrF w W (ordR8 w.heap.size) 8 0), q.w.cell? ⟨w.heap.size + 1, 8, none⟩ = some (.int .i64 0) := fun q => q.h.ar.c8
  have zz9 : ∀ q : Held (fun W => OrF w W (ordR8 w.heap.size) 8 0), q.w.cell? ⟨w.heap.size + 1, 9, none⟩ = some (.int .i64 0) := fun q => q.h.ar.c9
  have zz10 : ∀ q : Held (fun W => OrF w W (ordR8 w.heap.size) 8 0), q.w.cell? ⟨w.heap.size + 2, 8, none⟩ = some (.int .i64 0) := fun q => q.h.cw
  obtain ⟨w1, hwd⟩ : ∃ W, W = w0.drew := ⟨_, rfl⟩
  rw [← hwd]
  have hb : Below w0.heap.size w0 w1 := by rw [hwd]; exact (Below.refl _ _).drew
  have HN1 : Hid (OrF w w1 (ordR8 w.heap.size) 8 0) := HN0.out.next hb
  clear hb hwd
  refine mix_seg [0, 2, 3, 4] (by kernel_rfl) HN1.out ?_
  simp only [segOf, pickOps, pickOp]
  repeat (go_big_quiet_step (fail))
  refine wpQuiet_nil ?_
  refine mix_run 1 (by kernel_rfl) ?_
  simp only [segOf, pickOps, pickOp]
  go_wp2_with fail
  refine (aCheck_any (ordR8 w.heap.size) _ HN1.out.kr HN1.out.env).mono ?_
  rintro e w2 ⟨rfl, hb⟩
  rw [ord_ask8]
  have HN2 : Hid (OrF w w2 (ordR8 w.heap.size) 8 0) := HN1.out.next hb
  clear hb
  go_wp2_with fail
  refine MixPost.normal HN2.out ?_
  refine mix_seg [5, 6] (by kernel_rfl) HN2.out ?_
  simp only [segOf, pickOps, pickOp]
  repeat (go_big_quiet_step (fail))
  refine wpQuiet_nil ?_
  refine mix_run 7 (by kernel_rfl) ?_
  simp only [segOf, pickOps, pickOp]
  go_wp2_with fail
  refine (awake8_any _ HN2.out.env).mono ?_
  rintro e w3 ⟨rfl, hb⟩
  have HN3 : Hid (OrF w w3 (ordR8 w.heap.size) 8 0) := HN2.out.next hb
  clear hb
  go_wp2_with fail
  refine MixPost.normal HN3.out ?_
  refine mix_seg [8, 9] (by kernel_rfl) HN3.out ?_
  simp only [segOf, pickOps, pickOp]
  repeat (go_big_quiet_step (fail))
  refine wpQuiet_nil ?_
  refine mix_done (by kernel_rfl) ?_
  go_wp2
  go_ret
  exact ⟨rfl, HN3.out.bel⟩

theorem walk_AskOrder (a0 : Int) (w : World) (_h0 : (Lit.int .i64 a0).wf = true) (he : Env8 w) :
    Calls Tryz.prog 6 #[.int .i64 a0] w fun e w' => e = .returned (.bool true) ∧ Below w.heap.size w w' := by
  obtain ⟨k, hk, hlt⟩ := low_nat a0 9 (by omega)
  match k, hlt with
  | 0, _ => exact ord_0 a0 w hk he
  | 1, _ => exact ord_1 a0 w hk he
  | 2, _ => exact ord_2 a0 w hk he
  | 3, _ => exact ord_3 a0 w hk he
  | 4, _ => exact ord_4 a0 w hk he
  | 5, _ => exact ord_5 a0 w hk he
  | 6, _ => exact ord_6 a0 w hk he
  | 7, _ => exact ord_7 a0 w hk he
  | 8, _ => exact ord_8 a0 w hk he
end Go.Proofs.YticedcnmajcgbaaGreatDoor
