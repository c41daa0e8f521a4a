/-
  The walk of the law AskWants: whatever the input, it returns true, and nothing that was there has turned. Conditions: the arguments are such as any that come in; the library's variables and the tables of methods are as they are laid.
-/
import Derived.Test.YticedcnmajcgbaaGreatDoorAWants
import Derived.Deep.Cut
namespace Go.Proofs.YticedcnmajcgbaaGreatDoor
open Go.RowKit

set_option maxRecDepth 100000 in
set_option maxHeartbeats 16000000 in
theorem walk_AskWants (r q : Rv) (w : World) (h0 : RArg w r) (h1 : RArg w q) (he : Env8 w) :
    Calls Tryz.prog 7 #[r.v, q.v] w fun e w' => e = .returned (.bool true) ∧ Below w.heap.size w w' := by
  unfold Rv.v
  obtain ⟨W, hW⟩ : ∃ W, W = (w.alloc (Obj.cells #[.string r.m, .string r.u, .string r.o, .int .i64 r.mode, .bool r.cr, .slice r.A r.n r.c, .int .i64 r.cl, .int .u64 r.tm, .int .i64 r.gr, .int .i64 r.sg] 25)).alloc (Obj.cells #[.string q.m, .string q.u, .string q.o, .int .i64 q.mode, .bool q.cr, .slice q.A q.n q.c, .int .i64 q.cl, .int .u64 q.tm, .int .i64 q.gr, .int .i64 q.sg] 25) := ⟨_, rfl⟩
  have he1 : (w.alloc (Obj.cells #[.string r.m, .string r.u, .string r.o, .int .i64 r.mode, .bool r.cr, .slice r.A r.n r.c, .int .i64 r.cl, .int .u64 r.tm, .int .i64 r.gr, .int .i64 r.sg] 25)).heap.size = w.heap.size + 1 := by simp
  have HB0 : Hid (Below w.heap.size w W) := by rw [hW]; exact ((Below.refl _ _).alloc (Nat.le_refl _) _).alloc (by rw [he1]; omega) _
  have HR0 : Hid (RqAt W w.heap.size r) := by rw [hW]; exact (RqAt.new w r _).below ((Below.refl _ _).alloc (Nat.le_refl _) _) (RqAt.new w r 25).lt
  have HQ0 : Hid (RqAt W (w.heap.size + 1) q) := by rw [hW, ← he1]; exact RqAt.new _ q _
  have HE := Lib.hid he
  have H0 := Lib.hid h0
  have H1 := Lib.hid h1
  obtain ⟨g1, hg1⟩ : ∃ b, b = greatR r := ⟨_, rfl⟩
  obtain ⟨g2, hg2⟩ : ∃ b, b = greatR q := ⟨_, rfl⟩
  have HG1 := Lib.hid hg1
  have HG2 := Lib.hid hg2
  clear he h0 h1 hg1 hg2 he1
  go_enter Tryz.func7, Tryz.ntmps7
  go_wp2_with fail
  rw [← hW]
  clear hW
  refine (GreatReq_any r _ w.heap.size (H0.out.row.1.below HB0.out) HB0.out.size H0.out.len (Nat.le_trans H0.out.row.2.2.1 H0.out.row.2.2.2.1) H0.out.row.2.1).mono ?_
  rintro e w1 ⟨rfl, hb⟩
  rw [← HG1.out]
  have HB1 : Hid (Below w.heap.size w w1) := HB0.out.trans (hb.mono HB0.out.size)
  have HR1 : Hid (RqAt w1 w.heap.size r) := HR0.out.below hb HR0.out.lt
  have HQ1 : Hid (RqAt w1 (w.heap.size + 1) q) := HQ0.out.below hb HQ0.out.lt
  clear hb HB0 HR0 HQ0
  cases g1
  case true =>
    go_wp2_with fail
    refine (awake8_any _ (HE.out.below HB1.out)).mono ?_
    rintro e w2 ⟨rfl, hb⟩
    go_wp2
    go_ret
    exact ⟨rfl, HB1.out.trans (hb.mono HB1.out.size)⟩
  obtain ⟨s0, s1, s2, s3, s4, s5, s6, s7, s8, s9⟩ := HQ1.out
  go_wp2_with fail
  refine (GreatReq_any q _ w.heap.size (H1.out.row.1.below HB1.out) HB1.out.size H1.out.len (Nat.le_trans H1.out.row.2.2.1 H1.out.row.2.2.2.1) H1.out.row.2.1).mono ?_
  rintro e w2 ⟨rfl, hb⟩
  rw [← HG2.out]
  have HB2 : Hid (Below w.heap.size w w2) := HB1.out.trans (hb.mono HB1.out.size)
  have HR2 : Hid (RqAt w2 w.heap.size r) := HR1.out.below hb HR1.out.lt
  have HQ2 : Hid (RqAt w2 (w.heap.size + 1) q) := HQ1.out.below hb HQ1.out.lt
  clear hb HB1 HR1 HQ1 s0 s1 s2 s3 s4 s5 s6 s7 s8 s9
  cases g2
  case true =>
    go_wp2_with fail
    refine (awake8_any _ (HE.out.below HB2.out)).mono ?_
    rintro e w3 ⟨rfl, hb⟩
    go_wp2
    go_ret
    exact ⟨rfl, HB2.out.trans (hb.mono HB2.out.size)⟩
  have HN2 : Hid (W2F w w2 r q) := ⟨HB2.out, HE.out, H0.out.ok HG1.out.symm, H1.out.ok HG2.out.symm, HR2.out, HQ2.out⟩
  clear HB2 HR2 HQ2 HG1 HG2 H0 H1 HE
  obtain ⟨ca, hca⟩ : ∃ c, c = askI r.q := ⟨_, rfl⟩
  obtain ⟨cb, hcb⟩ : ∃ c, c = askI q.q := ⟨_, rfl⟩
  have HCA := Lib.hid hca
  have HCB := Lib.hid hcb
  clear hca hcb
  obtain ⟨r0, r1, r2, r3, r4, r5, r6, r7, r8, r9⟩ := HN2.out.ar
  go_wp2_with fail
  refine (aCheck_any r _ HN2.out.kr HN2.out.env).mono ?_
  rintro e w3 ⟨rfl, hb⟩
  rw [← HCA.out]
  have HN3 : Hid (W2F w w3 r q) := HN2.out.next hb
  clear hb HN2 r0 r1 r2 r3 r4 r5 r6 r7 r8 r9
  by_cases h0 : ca = 0
  case neg =>
    go_wp2_with fail
    refine (awake8_any _ HN3.out.env).mono ?_
    rintro e w4 ⟨rfl, hb⟩
    go_wp2
    go_ret
    exact ⟨rfl, HN3.out.bel.trans (hb.mono HN3.out.bel.size)⟩
  subst h0
  obtain ⟨s0, s1, s2, s3, s4, s5, s6, s7, s8, s9⟩ := HN3.out.aq
  go_wp2_with fail
  refine (aCheck_any q _ HN3.out.kq HN3.out.env).mono ?_
  rintro e w4 ⟨rfl, hb⟩
  rw [← HCB.out]
  have HN4 : Hid (W2F w w4 r q) := HN3.out.next hb
  clear hb HN3 s0 s1 s2 s3 s4 s5 s6 s7 s8 s9
  by_cases h0 : cb = 0
  case neg =>
    go_wp2_with fail
    refine (awake8_any _ HN4.out.env).mono ?_
    rintro e w5 ⟨rfl, hb⟩
    go_wp2
    go_ret
    exact ⟨rfl, HN4.out.bel.trans (hb.mono HN4.out.bel.size)⟩
  subst h0
  go_wp2_with fail
  go_cut [5, 6] from 8 (fun s5 s6 W => ∃ (g5 g6 : Nat) (a b : Rv), s5 = .pointer (some ⟨g5, 0, none⟩) ∧ s6 = .pointer (some ⟨g6, 0, none⟩) ∧ a.q = normQ r.q ∧ b.q = normQ q.q ∧ W4F w W r q a b g5 g6)
  case first =>
    refine mix_start (fun W => W2F w W r q) (by kernel_rfl) ?_
    have hne : Nonempty (Held (fun W => W2F w W r q)) := ⟨⟨_, HN4.out⟩⟩
    have zz0 : ∀ pp : Held (fun W => W2F w W r q), pp.w.cell? ⟨w.heap.size, 0, none⟩ = some (.string r.m) := fun pp => pp.h.ar.c0
    have zz1 : ∀ pp : Held (fun W => W2F w W r q), pp.w.cell? ⟨w.heap.size, 1, none⟩ = some (.string r.u) := fun pp => pp.h.ar.c1
    have zz2 : ∀ pp : Held (fun W => W2F w W r q), pp.w.cell? ⟨w.heap.size, 2, none⟩ = some (.string r.o) := fun pp => pp.h.ar.c2
    have zz3 : ∀ pp : Held (fun W => W2F w W r q), pp.w.cell? ⟨w.heap.size, 3, none⟩ = some (.int .i64 r.mode) := fun pp => pp.h.ar.c3
    have zz4 : ∀ pp : Held (fun W => W2F w W r q), pp.w.cell? ⟨w.heap.size, 4, none⟩ = some (.bool r.cr) := fun pp => pp.h.ar.c4
    have zz5 : ∀ pp : Held (fun W => W2F w W r q), pp.w.cell? ⟨w.heap.size, 5, none⟩ = some (.slice r.A r.n r.c) := fun pp => pp.h.ar.c5
    have zz6 : ∀ pp : Held (fun W => W2F w W r q), pp.w.cell? ⟨w.heap.size, 6, none⟩ = some (.int .i64 r.cl) := fun pp => pp.h.ar.c6
    have zz7 : ∀ pp : Held (fun W => W2F w W r q), pp.w.cell? ⟨w.heap.size, 7, none⟩ = some (.int .u64 r.tm) := fun pp => pp.h.ar.c7
    have zz8 : ∀ pp : Held (fun W => W2F w W r q), pp.w.cell? ⟨w.heap.size, 8, none⟩ = some (.int .i64 r.gr) := fun pp => pp.h.ar.c8
    have zz9 : ∀ pp : Held (fun W => W2F w W r q), pp.w.cell? ⟨w.heap.size, 9, none⟩ = some (.int .i64 r.sg) := fun pp => pp.h.ar.c9
    have zz10 : ∀ pp : Held (fun W => W2F w W r q), pp.w.cell? ⟨w.heap.size + 1, 0, none⟩ = some (.string q.m) := fun pp => pp.h.aq.c0
    have zz11 : ∀ pp : Held (fun W => W2F w W r q), pp.w.cell? ⟨w.heap.size + 1, 1, none⟩ = some (.string q.u) := fun pp => pp.h.aq.c1
    have zz12 : ∀ pp : Held (fun W => W2F w W r q), pp.w.cell? ⟨w.heap.size + 1, 2, none⟩ = some (.string q.o) := fun pp => pp.h.aq.c2
    have zz13 : ∀ pp : Held (fun W => W2F w W r q), pp.w.cell? ⟨w.heap.size + 1, 3, none⟩ = some (.int .i64 q.mode) := fun pp => pp.h.aq.c3
    have zz14 : ∀ pp : Held (fun W => W2F w W r q), pp.w.cell? ⟨w.heap.size + 1, 4, none⟩ = some (.bool q.cr) := fun pp => pp.h.aq.c4
    have zz15 : ∀ pp : Held (fun W => W2F w W r q), pp.w.cell? ⟨w.heap.size + 1, 5, none⟩ = some (.slice q.A q.n q.c) := fun pp => pp.h.aq.c5
    have zz16 : ∀ pp : Held (fun W => W2F w W r q), pp.w.cell? ⟨w.heap.size + 1, 6, none⟩ = some (.int .i64 q.cl) := fun pp => pp.h.aq.c6
    have zz17 : ∀ pp : Held (fun W => W2F w W r q), pp.w.cell? ⟨w.heap.size + 1, 7, none⟩ = some (.int .u64 q.tm) := fun pp => pp.h.aq.c7
    have zz18 : ∀ pp : Held (fun W => W2F w W r q), pp.w.cell? ⟨w.heap.size + 1, 8, none⟩ = some (.int .i64 q.gr) := fun pp => pp.h.aq.c8
    have zz19 : ∀ pp : Held (fun W => W2F w W r q), pp.w.cell? ⟨w.heap.size + 1, 9, none⟩ = some (.int .i64 q.sg) := fun pp => pp.h.aq.c9
    obtain ⟨w5, hwd⟩ : ∃ W, W = w4.drew := ⟨_, rfl⟩
    rw [← hwd]
    have hb : Below w4.heap.size w4 w5 := by rw [hwd]; exact (Below.refl _ _).drew
    have HN5 : Hid (W2F w w5 r q) := HN4.out.next hb
    clear hb hwd
    refine mix_seg [0, 2] (by kernel_rfl) HN5.out ?_
    simp only [segOf, pickOps, pickOp]
    repeat (go_big_quiet_step (fail))
    refine wpQuiet_nil ?_
    refine mix_several [1, 4, 5] (by kernel_rfl) ?_
    intro i hi
    rcases List.mem_cons.1 hi with rfl | hi
    · skip
      simp only [segOf, pickOps, pickOp]
      go_wp2_with fail
      refine (aNorm_any r _ HN5.out.kr HN5.out.env).mono ?_
      rintro e w6 ⟨a, rfl, hzq, _, hb⟩
      have HAQ := Lib.hid hzq
      have HN6 : Hid (W2F w w6 r q) := HN5.out.next hb
      clear hb hzq
      simp only [Rv.v]
      go_wp2_with fail
      refine MixPost.normal HN6.out ?_
      refine mix_several [3, 4, 5] (by kernel_rfl) ?_
      intro i hi
      rcases List.mem_cons.1 hi with rfl | hi
      · skip
        simp only [segOf, pickOps, pickOp]
        go_wp2_with fail
        refine (aNorm_any q _ HN6.out.kq HN6.out.env).mono ?_
        rintro e w7 ⟨b, rfl, hzq, _, hb⟩
        have HBQ := Lib.hid hzq
        have HN7 : Hid (W2F w w7 r q) := HN6.out.next hb
        clear hb hzq
        simp only [Rv.v]
        go_wp2_with fail
        refine MixPost.normal HN7.out ?_
        refine mix_several [4, 5] (by kernel_rfl) ?_
        intro i hi
        rcases List.mem_cons.1 hi with rfl | hi
        · skip
          simp only [segOf, pickOps, pickOp]
          go_wp2_with fail
          obtain ⟨g5, hg⟩ : ∃ g, g = w7.heap.size := ⟨_, rfl⟩
          obtain ⟨w8, hw⟩ : ∃ W, W = w7.alloc (Obj.cells #[.string ⟨#[]⟩, .string ⟨#[]⟩, .string ⟨#[]⟩, .int .i64 0, .bool false, .slice none 0 0, .int .i64 0, .int .u64 0, .int .i64 0, .int .i64 0] 25) := ⟨_, rfl⟩
          have hb : Below w7.heap.size w7 w8 := by rw [hw]; exact (Below.refl _ _).alloc (Nat.le_refl _) _
          have HN8 : Hid (W2F w w8 r q) := HN7.out.next hb
          have HZ5 : Hid (RqAt w8 g5 Rv.zero ∧ OwnB w8 g5) := by rw [hw, hg]; exact ⟨RqAt.fresh, OwnB.new _ _ _⟩
          have hl5 : w.heap.size + 1 < g5 := by rw [hg]; exact HN7.out.aq.lt
          rw [← hw, ← hg]
          clear hw hg hb
          refine MixPost.normal HN8.out ?_
          refine mix_run 5 (by kernel_rfl) ?_
          simp only [segOf, pickOps, pickOp]
          go_wp2_with fail
          obtain ⟨g6, hg⟩ : ∃ g, g = w8.heap.size := ⟨_, rfl⟩
          obtain ⟨w9, hw⟩ : ∃ W, W = w8.alloc (Obj.cells #[.string ⟨#[]⟩, .string ⟨#[]⟩, .string ⟨#[]⟩, .int .i64 0, .bool false, .slice none 0 0, .int .i64 0, .int .u64 0, .int .i64 0, .int .i64 0] 25) := ⟨_, rfl⟩
          have hb : Below w8.heap.size w8 w9 := by rw [hw]; exact (Below.refl _ _).alloc (Nat.le_refl _) _
          have HN9 : Hid (W2F w w9 r q) := HN8.out.next hb
          have HZ6 : Hid (RqAt w9 g6 Rv.zero ∧ OwnB w9 g6) := by rw [hw, hg]; exact ⟨RqAt.fresh, OwnB.new _ _ _⟩
          have hl6 : w.heap.size + 1 < g6 := by rw [hg]; exact HN8.out.aq.lt
          have hn56 : g5 ≠ g6 := by have := HZ5.out.1.lt; omega
          replace HZ5 : Hid (RqAt w9 g5 Rv.zero ∧ OwnB w9 g5) := ⟨HZ5.out.1.below hb HZ5.out.1.lt, HZ5.out.2.below hb HZ5.out.1.lt⟩
          rw [← hw, ← hg]
          clear hw hg hb
          refine MixPost.normal HN9.out ?_
          refine mix_run 6 (by kernel_rfl) ?_
          simp only [segOf, pickOps, pickOp]
          obtain ⟨b0, b1, b2, b3, b4, b5, b6, b7, b8, b9⟩ := HZ5.out.1
          have ff := HZ5.out.2
          unfold OwnB at ff
          go_wp2_with fail
          obtain ⟨w10, hw⟩ : ∃ W, W = RqAt.put w9 g5 a := ⟨_, rfl⟩
          have HN10 : Hid (W2F w w10 r q) := by rw [hw]; exact HN9.out.put hl5 a
          have HA5 : Hid (RqAt w10 g5 a) := by rw [hw]; exact HZ5.out.1.put_at a
          have HZ6b : Hid (RqAt w10 g6 Rv.zero ∧ OwnB w10 g6) := by rw [hw]; exact ⟨HZ6.out.1.besideRqAt hn56.symm a, HZ6.out.2.rq a⟩
          dsimp only [RqAt.put] at hw
          rw [← hw]
          clear hw ff HZ5 b0 b1 b2 b3 b4 b5 b6 b7 b8 b9
          refine MixPost.normal HN10.out ?_
          refine mix_run 7 (by kernel_rfl) ?_
          simp only [segOf, pickOps, pickOp]
          obtain ⟨b0, b1, b2, b3, b4, b5, b6, b7, b8, b9⟩ := HZ6b.out.1
          have ff := HZ6b.out.2
          unfold OwnB at ff
          go_wp2_with fail
          obtain ⟨w11, hw⟩ : ∃ W, W = RqAt.put w10 g6 b := ⟨_, rfl⟩
          have HN11 : Hid (W2F w w11 r q) := by rw [hw]; exact HN10.out.put hl6 b
          have HA5b : Hid (RqAt w11 g5 a) := by rw [hw]; exact HA5.out.besideRqAt hn56 b
          have HA6 : Hid (RqAt w11 g6 b) := by rw [hw]; exact HZ6b.out.1.put_at b
          dsimp only [RqAt.put] at hw
          rw [← hw]
          clear hw ff b0 b1 b2 b3 b4 b5 b6 b7 b8 b9
          refine MixPost.normal HN11.out ?_
          refine mix_done (by kernel_rfl) ?_
          go_wp2_with fail
          go_meet
          exact ⟨g5, g6, a, b, rfl, rfl, HAQ.out, HBQ.out, ⟨HN11.out, HA5b.out, HA6.out⟩⟩
        obtain rfl := List.mem_singleton.1 hi
        simp only [segOf, pickOps, pickOp]
        go_wp2_with fail
        obtain ⟨g6, hg⟩ : ∃ g, g = w7.heap.size := ⟨_, rfl⟩
        obtain ⟨w8, hw⟩ : ∃ W, W = w7.alloc (Obj.cells #[.string ⟨#[]⟩, .string ⟨#[]⟩, .string ⟨#[]⟩, .int .i64 0, .bool false, .slice none 0 0, .int .i64 0, .int .u64 0, .int .i64 0, .int .i64 0] 25) := ⟨_, rfl⟩
        have hb : Below w7.heap.size w7 w8 := by rw [hw]; exact (Below.refl _ _).alloc (Nat.le_refl _) _
        have HN8 : Hid (W2F w w8 r q) := HN7.out.next hb
        have HZ6 : Hid (RqAt w8 g6 Rv.zero ∧ OwnB w8 g6) := by rw [hw, hg]; exact ⟨RqAt.fresh, OwnB.new _ _ _⟩
        have hl6 : w.heap.size + 1 < g6 := by rw [hg]; exact HN7.out.aq.lt
        rw [← hw, ← hg]
        clear hw hg hb
        refine MixPost.normal HN8.out ?_
        refine mix_run 4 (by kernel_rfl) ?_
        simp only [segOf, pickOps, pickOp]
        go_wp2_with fail
        obtain ⟨g5, hg⟩ : ∃ g, g = w8.heap.size := ⟨_, rfl⟩
        obtain ⟨w9, hw⟩ : ∃ W, W = w8.alloc (Obj.cells #[.string ⟨#[]⟩, .string ⟨#[]⟩, .string ⟨#[]⟩, .int .i64 0, .bool false, .slice none 0 0, .int .i64 0, .int .u64 0, .int .i64 0, .int .i64 0] 25) := ⟨_, rfl⟩
        have hb : Below w8.heap.size w8 w9 := by rw [hw]; exact (Below.refl _ _).alloc (Nat.le_refl _) _
        have HN9 : Hid (W2F w w9 r q) := HN8.out.next hb
        have HZ5 : Hid (RqAt w9 g5 Rv.zero ∧ OwnB w9 g5) := by rw [hw, hg]; exact ⟨RqAt.fresh, OwnB.new _ _ _⟩
        have hl5 : w.heap.size + 1 < g5 := by rw [hg]; exact HN8.out.aq.lt
        have hn56 : g5 ≠ g6 := by have := HZ6.out.1.lt; omega
        replace HZ6 : Hid (RqAt w9 g6 Rv.zero ∧ OwnB w9 g6) := ⟨HZ6.out.1.below hb HZ6.out.1.lt, HZ6.out.2.below hb HZ6.out.1.lt⟩
        rw [← hw, ← hg]
        clear hw hg hb
        refine MixPost.normal HN9.out ?_
        refine mix_run 6 (by kernel_rfl) ?_
        simp only [segOf, pickOps, pickOp]
        obtain ⟨b0, b1, b2, b3, b4, b5, b6, b7, b8, b9⟩ := HZ5.out.1
        have ff := HZ5.out.2
        unfold OwnB at ff
        go_wp2_with fail
        obtain ⟨w10, hw⟩ : ∃ W, W = RqAt.put w9 g5 a := ⟨_, rfl⟩
        have HN10 : Hid (W2F w w10 r q) := by rw [hw]; exact HN9.out.put hl5 a
        have HA5 : Hid (RqAt w10 g5 a) := by rw [hw]; exact HZ5.out.1.put_at a
        have HZ6b : Hid (RqAt w10 g6 Rv.zero ∧ OwnB w10 g6) := by rw [hw]; exact ⟨HZ6.out.1.besideRqAt hn56.symm a, HZ6.out.2.rq a⟩
        dsimp only [RqAt.put] at hw
        rw [← hw]
        clear hw ff HZ5 b0 b1 b2 b3 b4 b5 b6 b7 b8 b9
        refine MixPost.normal HN10.out ?_
        refine mix_run 7 (by kernel_rfl) ?_
        simp only [segOf, pickOps, pickOp]
        obtain ⟨b0, b1, b2, b3, b4, b5, b6, b7, b8, b9⟩ := HZ6b.out.1
        have ff := HZ6b.out.2
        unfold OwnB at ff
        go_wp2_with fail
        obtain ⟨w11, hw⟩ : ∃ W, W = RqAt.put w10 g6 b := ⟨_, rfl⟩
        have HN11 : Hid (W2F w w11 r q) := by rw [hw]; exact HN10.out.put hl6 b
        have HA5b : Hid (RqAt w11 g5 a) := by rw [hw]; exact HA5.out.besideRqAt hn56 b
        have HA6 : Hid (RqAt w11 g6 b) := by rw [hw]; exact HZ6b.out.1.put_at b
        dsimp only [RqAt.put] at hw
        rw [← hw]
        clear hw ff b0 b1 b2 b3 b4 b5 b6 b7 b8 b9
        refine MixPost.normal HN11.out ?_
        refine mix_done (by kernel_rfl) ?_
        go_wp2_with fail
        go_meet
        exact ⟨g5, g6, a, b, rfl, rfl, HAQ.out, HBQ.out, ⟨HN11.out, HA5b.out, HA6.out⟩⟩
      rcases List.mem_cons.1 hi with rfl | hi
      · skip
        simp only [segOf, pickOps, pickOp]
        go_wp2_with fail
        obtain ⟨g5, hg⟩ : ∃ g, g = w6.heap.size := ⟨_, rfl⟩
        obtain ⟨w7, hw⟩ : ∃ W, W = w6.alloc (Obj.cells #[.string ⟨#[]⟩, .string ⟨#[]⟩, .string ⟨#[]⟩, .int .i64 0, .bool false, .slice none 0 0, .int .i64 0, .int .u64 0, .int .i64 0, .int .i64 0] 25) := ⟨_, rfl⟩
        have hb : Below w6.heap.size w6 w7 := by rw [hw]; exact (Below.refl _ _).alloc (Nat.le_refl _) _
        have HN7 : Hid (W2F w w7 r q) := HN6.out.next hb
        have HZ5 : Hid (RqAt w7 g5 Rv.zero ∧ OwnB w7 g5) := by rw [hw, hg]; exact ⟨RqAt.fresh, OwnB.new _ _ _⟩
        have hl5 : w.heap.size + 1 < g5 := by rw [hg]; exact HN6.out.aq.lt
        rw [← hw, ← hg]
        clear hw hg hb
        refine MixPost.normal HN7.out ?_
        refine mix_several [3, 5] (by kernel_rfl) ?_
        intro i hi
        rcases List.mem_cons.1 hi with rfl | hi
        · skip
          simp only [segOf, pickOps, pickOp]
          go_wp2_with fail
          refine (aNorm_any q _ HN7.out.kq HN7.out.env).mono ?_
          rintro e w8 ⟨b, rfl, hzq, _, hb⟩
          have HBQ := Lib.hid hzq
          have HN8 : Hid (W2F w w8 r q) := HN7.out.next hb
          replace HZ5 : Hid (RqAt w8 g5 Rv.zero ∧ OwnB w8 g5) := ⟨HZ5.out.1.below hb HZ5.out.1.lt, HZ5.out.2.below hb HZ5.out.1.lt⟩
          clear hb hzq
          simp only [Rv.v]
          go_wp2_with fail
          refine MixPost.normal HN8.out ?_
          refine mix_run 5 (by kernel_rfl) ?_
          simp only [segOf, pickOps, pickOp]
          go_wp2_with fail
          obtain ⟨g6, hg⟩ : ∃ g, g = w8.heap.size := ⟨_, rfl⟩
          obtain ⟨w9, hw⟩ : ∃ W, W = w8.alloc (Obj.cells #[.string ⟨#[]⟩, .string ⟨#[]⟩, .string ⟨#[]⟩, .int .i64 0, .bool false, .slice none 0 0, .int .i64 0, .int .u64 0, .int .i64 0, .int .i64 0] 25) := ⟨_, rfl⟩
          have hb : Below w8.heap.size w8 w9 := by rw [hw]; exact (Below.refl _ _).alloc (Nat.le_refl _) _
          have HN9 : Hid (W2F w w9 r q) := HN8.out.next hb
          have HZ6 : Hid (RqAt w9 g6 Rv.zero ∧ OwnB w9 g6) := by rw [hw, hg]; exact ⟨RqAt.fresh, OwnB.new _ _ _⟩
          have hl6 : w.heap.size + 1 < g6 := by rw [hg]; exact HN8.out.aq.lt
          have hn56 : g5 ≠ g6 := by have := HZ5.out.1.lt; omega
          replace HZ5 : Hid (RqAt w9 g5 Rv.zero ∧ OwnB w9 g5) := ⟨HZ5.out.1.below hb HZ5.out.1.lt, HZ5.out.2.below hb HZ5.out.1.lt⟩
          rw [← hw, ← hg]
          clear hw hg hb
          refine MixPost.normal HN9.out ?_
          refine mix_run 6 (by kernel_rfl) ?_
          simp only [segOf, pickOps, pickOp]
          obtain ⟨b0, b1, b2, b3, b4, b5, b6, b7, b8, b9⟩ := HZ5.out.1
          have ff := HZ5.out.2
          unfold OwnB at ff
          go_wp2_with fail
          obtain ⟨w10, hw⟩ : ∃ W, W = RqAt.put w9 g5 a := ⟨_, rfl⟩
          have HN10 : Hid (W2F w w10 r q) := by rw [hw]; exact HN9.out.put hl5 a
          have HA5 : Hid (RqAt w10 g5 a) := by rw [hw]; exact HZ5.out.1.put_at a
          have HZ6b : Hid (RqAt w10 g6 Rv.zero ∧ OwnB w10 g6) := by rw [hw]; exact ⟨HZ6.out.1.besideRqAt hn56.symm a, HZ6.out.2.rq a⟩
          dsimp only [RqAt.put] at hw
          rw [← hw]
          clear hw ff HZ5 b0 b1 b2 b3 b4 b5 b6 b7 b8 b9
          refine MixPost.normal HN10.out ?_
          refine mix_run 7 (by kernel_rfl) ?_
          simp only [segOf, pickOps, pickOp]
          obtain ⟨b0, b1, b2, b3, b4, b5, b6, b7, b8, b9⟩ := HZ6b.out.1
          have ff := HZ6b.out.2
          unfold OwnB at ff
          go_wp2_with fail
          obtain ⟨w11, hw⟩ : ∃ W, W = RqAt.put w10 g6 b := ⟨_, rfl⟩
          have HN11 : Hid (W2F w w11 r q) := by rw [hw]; exact HN10.out.put hl6 b
          have HA5b : Hid (RqAt w11 g5 a) := by rw [hw]; exact HA5.out.besideRqAt hn56 b
          have HA6 : Hid (RqAt w11 g6 b) := by rw [hw]; exact HZ6b.out.1.put_at b
          dsimp only [RqAt.put] at hw
          rw [← hw]
          clear hw ff b0 b1 b2 b3 b4 b5 b6 b7 b8 b9
          refine MixPost.normal HN11.out ?_
          refine mix_done (by kernel_rfl) ?_
          go_wp2_with fail
          go_meet
          exact ⟨g5, g6, a, b, rfl, rfl, HAQ.out, HBQ.out, ⟨HN11.out, HA5b.out, HA6.out⟩⟩
        obtain rfl := List.mem_singleton.1 hi
        simp only [segOf, pickOps, pickOp]
        go_wp2_with fail
        obtain ⟨g6, hg⟩ : ∃ g, g = w7.heap.size := ⟨_, rfl⟩
        obtain ⟨w8, hw⟩ : ∃ W, W = w7.alloc (Obj.cells #[.string ⟨#[]⟩, .string ⟨#[]⟩, .string ⟨#[]⟩, .int .i64 0, .bool false, .slice none 0 0, .int .i64 0, .int .u64 0, .int .i64 0, .int .i64 0] 25) := ⟨_, rfl⟩
        have hb : Below w7.heap.size w7 w8 := by rw [hw]; exact (Below.refl _ _).alloc (Nat.le_refl _) _
        have HN8 : Hid (W2F w w8 r q) := HN7.out.next hb
        have HZ6 : Hid (RqAt w8 g6 Rv.zero ∧ OwnB w8 g6) := by rw [hw, hg]; exact ⟨RqAt.fresh, OwnB.new _ _ _⟩
        have hl6 : w.heap.size + 1 < g6 := by rw [hg]; exact HN7.out.aq.lt
        have hn56 : g5 ≠ g6 := by have := HZ5.out.1.lt; omega
        replace HZ5 : Hid (RqAt w8 g5 Rv.zero ∧ OwnB w8 g5) := ⟨HZ5.out.1.below hb HZ5.out.1.lt, HZ5.out.2.below hb HZ5.out.1.lt⟩
        rw [← hw, ← hg]
        clear hw hg hb
        refine MixPost.normal HN8.out ?_
        refine mix_run 3 (by kernel_rfl) ?_
        simp only [segOf, pickOps, pickOp]
        go_wp2_with fail
        refine (aNorm_any q _ HN8.out.kq HN8.out.env).mono ?_
        rintro e w9 ⟨b, rfl, hzq, _, hb⟩
        have HBQ := Lib.hid hzq
        have HN9 : Hid (W2F w w9 r q) := HN8.out.next hb
        replace HZ5 : Hid (RqAt w9 g5 Rv.zero ∧ OwnB w9 g5) := ⟨HZ5.out.1.below hb HZ5.out.1.lt, HZ5.out.2.below hb HZ5.out.1.lt⟩
        replace HZ6 : Hid (RqAt w9 g6 Rv.zero ∧ OwnB w9 g6) := ⟨HZ6.out.1.below hb HZ6.out.1.lt, HZ6.out.2.below hb HZ6.out.1.lt⟩
        clear hb hzq
        simp only [Rv.v]
        go_wp2_with fail
        refine MixPost.normal HN9.out ?_
        refine mix_run 6 (by kernel_rfl) ?_
        simp only [segOf, pickOps, pickOp]
        obtain ⟨b0, b1, b2, b3, b4, b5, b6, b7, b8, b9⟩ := HZ5.out.1
        have ff := HZ5.out.2
        unfold OwnB at ff
        go_wp2_with fail
        obtain ⟨w10, hw⟩ : ∃ W, W = RqAt.put w9 g5 a := ⟨_, rfl⟩
        have HN10 : Hid (W2F w w10 r q) := by rw [hw]; exact HN9.out.put hl5 a
        have HA5 : Hid (RqAt w10 g5 a) := by rw [hw]; exact HZ5.out.1.put_at a
        have HZ6b : Hid (RqAt w10 g6 Rv.zero ∧ OwnB w10 g6) := by rw [hw]; exact ⟨HZ6.out.1.besideRqAt hn56.symm a, HZ6.out.2.rq a⟩
        dsimp only [RqAt.put] at hw
        rw [← hw]
        clear hw ff HZ5 b0 b1 b2 b3 b4 b5 b6 b7 b8 b9
        refine MixPost.normal HN10.out ?_
        refine mix_run 7 (by kernel_rfl) ?_
        simp only [segOf, pickOps, pickOp]
        obtain ⟨b0, b1, b2, b3, b4, b5, b6, b7, b8, b9⟩ := HZ6b.out.1
        have ff := HZ6b.out.2
        unfold OwnB at ff
        go_wp2_with fail
        obtain ⟨w11, hw⟩ : ∃ W, W = RqAt.put w10 g6 b := ⟨_, rfl⟩
        have HN11 : Hid (W2F w w11 r q) := by rw [hw]; exact HN10.out.put hl6 b
        have HA5b : Hid (RqAt w11 g5 a) := by rw [hw]; exact HA5.out.besideRqAt hn56 b
        have HA6 : Hid (RqAt w11 g6 b) := by rw [hw]; exact HZ6b.out.1.put_at b
        dsimp only [RqAt.put] at hw
        rw [← hw]
        clear hw ff b0 b1 b2 b3 b4 b5 b6 b7 b8 b9
        refine MixPost.normal HN11.out ?_
        refine mix_done (by kernel_rfl) ?_
        go_wp2_with fail
        go_meet
        exact ⟨g5, g6, a, b, rfl, rfl, HAQ.out, HBQ.out, ⟨HN11.out, HA5b.out, HA6.out⟩⟩
      obtain rfl := List.mem_singleton.1 hi
      simp only [segOf, pickOps, pickOp]
      go_wp2_with fail
      obtain ⟨g6, hg⟩ : ∃ g, g = w6.heap.size := ⟨_, rfl⟩
      obtain ⟨w7, hw⟩ : ∃ W, W = w6.alloc (Obj.cells #[.string ⟨#[]⟩, .string ⟨#[]⟩, .string ⟨#[]⟩, .int .i64 0, .bool false, .slice none 0 0, .int .i64 0, .int .u64 0, .int .i64 0, .int .i64 0] 25) := ⟨_, rfl⟩
      have hb : Below w6.heap.size w6 w7 := by rw [hw]; exact (Below.refl _ _).alloc (Nat.le_refl _) _
      have HN7 : Hid (W2F w w7 r q) := HN6.out.next hb
      have HZ6 : Hid (RqAt w7 g6 Rv.zero ∧ OwnB w7 g6) := by rw [hw, hg]; exact ⟨RqAt.fresh, OwnB.new _ _ _⟩
      have hl6 : w.heap.size + 1 < g6 := by rw [hg]; exact HN6.out.aq.lt
      rw [← hw, ← hg]
      clear hw hg hb
      refine MixPost.normal HN7.out ?_
      refine mix_several [3, 4] (by kernel_rfl) ?_
      intro i hi
      rcases List.mem_cons.1 hi with rfl | hi
      · skip
        simp only [segOf, pickOps, pickOp]
        go_wp2_with fail
        refine (aNorm_any q _ HN7.out.kq HN7.out.env).mono ?_
        rintro e w8 ⟨b, rfl, hzq, _, hb⟩
        have HBQ := Lib.hid hzq
        have HN8 : Hid (W2F w w8 r q) := HN7.out.next hb
        replace HZ6 : Hid (RqAt w8 g6 Rv.zero ∧ OwnB w8 g6) := ⟨HZ6.out.1.below hb HZ6.out.1.lt, HZ6.out.2.below hb HZ6.out.1.lt⟩
        clear hb hzq
        simp only [Rv.v]
        go_wp2_with fail
        refine MixPost.normal HN8.out ?_
        refine mix_run 4 (by kernel_rfl) ?_
        simp only [segOf, pickOps, pickOp]
        go_wp2_with fail
        obtain ⟨g5, hg⟩ : ∃ g, g = w8.heap.size := ⟨_, rfl⟩
        obtain ⟨w9, hw⟩ : ∃ W, W = w8.alloc (Obj.cells #[.string ⟨#[]⟩, .string ⟨#[]⟩, .string ⟨#[]⟩, .int .i64 0, .bool false, .slice none 0 0, .int .i64 0, .int .u64 0, .int .i64 0, .int .i64 0] 25) := ⟨_, rfl⟩
        have hb : Below w8.heap.size w8 w9 := by rw [hw]; exact (Below.refl _ _).alloc (Nat.le_refl _) _
        have HN9 : Hid (W2F w w9 r q) := HN8.out.next hb
        have HZ5 : Hid (RqAt w9 g5 Rv.zero ∧ OwnB w9 g5) := by rw [hw, hg]; exact ⟨RqAt.fresh, OwnB.new _ _ _⟩
        have hl5 : w.heap.size + 1 < g5 := by rw [hg]; exact HN8.out.aq.lt
        have hn56 : g5 ≠ g6 := by have := HZ6.out.1.lt; omega
        replace HZ6 : Hid (RqAt w9 g6 Rv.zero ∧ OwnB w9 g6) := ⟨HZ6.out.1.below hb HZ6.out.1.lt, HZ6.out.2.below hb HZ6.out.1.lt⟩
        rw [← hw, ← hg]
        clear hw hg hb
        refine MixPost.normal HN9.out ?_
        refine mix_run 6 (by kernel_rfl) ?_
        simp only [segOf, pickOps, pickOp]
        obtain ⟨b0, b1, b2, b3, b4, b5, b6, b7, b8, b9⟩ := HZ5.out.1
        have ff := HZ5.out.2
        unfold OwnB at ff
        go_wp2_with fail
        obtain ⟨w10, hw⟩ : ∃ W, W = RqAt.put w9 g5 a := ⟨_, rfl⟩
        have HN10 : Hid (W2F w w10 r q) := by rw [hw]; exact HN9.out.put hl5 a
        have HA5 : Hid (RqAt w10 g5 a) := by rw [hw]; exact HZ5.out.1.put_at a
        have HZ6b : Hid (RqAt w10 g6 Rv.zero ∧ OwnB w10 g6) := by rw [hw]; exact ⟨HZ6.out.1.besideRqAt hn56.symm a, HZ6.out.2.rq a⟩
        dsimp only [RqAt.put] at hw
        rw [← hw]
        clear hw ff HZ5 b0 b1 b2 b3 b4 b5 b6 b7 b8 b9
        refine MixPost.normal HN10.out ?_
        refine mix_run 7 (by kernel_rfl) ?_
        simp only [segOf, pickOps, pickOp]
        obtain ⟨b0, b1, b2, b3, b4, b5, b6, b7, b8, b9⟩ := HZ6b.out.1
        have ff := HZ6b.out.2
        unfold OwnB at ff
        go_wp2_with fail
        obtain ⟨w11, hw⟩ : ∃ W, W = RqAt.put w10 g6 b := ⟨_, rfl⟩
        have HN11 : Hid (W2F w w11 r q) := by rw [hw]; exact HN10.out.put hl6 b
        have HA5b : Hid (RqAt w11 g5 a) := by rw [hw]; exact HA5.out.besideRqAt hn56 b
        have HA6 : Hid (RqAt w11 g6 b) := by rw [hw]; exact HZ6b.out.1.put_at b
        dsimp only [RqAt.put] at hw
        rw [← hw]
        clear hw ff b0 b1 b2 b3 b4 b5 b6 b7 b8 b9
        refine MixPost.normal HN11.out ?_
        refine mix_done (by kernel_rfl) ?_
        go_wp2_with fail
        go_meet
        exact ⟨g5, g6, a, b, rfl, rfl, HAQ.out, HBQ.out, ⟨HN11.out, HA5b.out, HA6.out⟩⟩
      obtain rfl := List.mem_singleton.1 hi
      simp only [segOf, pickOps, pickOp]
      go_wp2_with fail
      obtain ⟨g5, hg⟩ : ∃ g, g = w7.heap.size := ⟨_, rfl⟩
      obtain ⟨w8, hw⟩ : ∃ W, W = w7.alloc (Obj.cells #[.string ⟨#[]⟩, .string ⟨#[]⟩, .string ⟨#[]⟩, .int .i64 0, .bool false, .slice none 0 0, .int .i64 0, .int .u64 0, .int .i64 0, .int .i64 0] 25) := ⟨_, rfl⟩
      have hb : Below w7.heap.size w7 w8 := by rw [hw]; exact (Below.refl _ _).alloc (Nat.le_refl _) _
      have HN8 : Hid (W2F w w8 r q) := HN7.out.next hb
      have HZ5 : Hid (RqAt w8 g5 Rv.zero ∧ OwnB w8 g5) := by rw [hw, hg]; exact ⟨RqAt.fresh, OwnB.new _ _ _⟩
      have hl5 : w.heap.size + 1 < g5 := by rw [hg]; exact HN7.out.aq.lt
      have hn56 : g5 ≠ g6 := by have := HZ6.out.1.lt; omega
      replace HZ6 : Hid (RqAt w8 g6 Rv.zero ∧ OwnB w8 g6) := ⟨HZ6.out.1.below hb HZ6.out.1.lt, HZ6.out.2.below hb HZ6.out.1.lt⟩
      rw [← hw, ← hg]
      clear hw hg hb
      refine MixPost.normal HN8.out ?_
      refine mix_run 3 (by kernel_rfl) ?_
      simp only [segOf, pickOps, pickOp]
      go_wp2_with fail
      refine (aNorm_any q _ HN8.out.kq HN8.out.env).mono ?_
      rintro e w9 ⟨b, rfl, hzq, _, hb⟩
      have HBQ := Lib.hid hzq
      have HN9 : Hid (W2F w w9 r q) := HN8.out.next hb
      replace HZ5 : Hid (RqAt w9 g5 Rv.zero ∧ OwnB w9 g5) := ⟨HZ5.out.1.below hb HZ5.out.1.lt, HZ5.out.2.below hb HZ5.out.1.lt⟩
      replace HZ6 : Hid (RqAt w9 g6 Rv.zero ∧ OwnB w9 g6) := ⟨HZ6.out.1.below hb HZ6.out.1.lt, HZ6.out.2.below hb HZ6.out.1.lt⟩
      clear hb hzq
      simp only [Rv.v]
      go_wp2_with fail
      refine MixPost.normal HN9.out ?_
      refine mix_run 6 (by kernel_rfl) ?_
      simp only [segOf, pickOps, pickOp]
      obtain ⟨b0, b1, b2, b3, b4, b5, b6, b7, b8, b9⟩ := HZ5.out.1
      have ff := HZ5.out.2
      unfold OwnB at ff
      go_wp2_with fail
      obtain ⟨w10, hw⟩ : ∃ W, W = RqAt.put w9 g5 a := ⟨_, rfl⟩
      have HN10 : Hid (W2F w w10 r q) := by rw [hw]; exact HN9.out.put hl5 a
      have HA5 : Hid (RqAt w10 g5 a) := by rw [hw]; exact HZ5.out.1.put_at a
      have HZ6b : Hid (RqAt w10 g6 Rv.zero ∧ OwnB w10 g6) := by rw [hw]; exact ⟨HZ6.out.1.besideRqAt hn56.symm a, HZ6.out.2.rq a⟩
      dsimp only [RqAt.put] at hw
      rw [← hw]
      clear hw ff HZ5 b0 b1 b2 b3 b4 b5 b6 b7 b8 b9
      refine MixPost.normal HN10.out ?_
      refine mix_run 7 (by kernel_rfl) ?_
      simp only [segOf, pickOps, pickOp]
      obtain ⟨b0, b1, b2, b3, b4, b5, b6, b7, b8, b9⟩ := HZ6b.out.1
      have ff := HZ6b.out.2
      unfold OwnB at ff
      go_wp2_with fail
      obtain ⟨w11, hw⟩ : ∃ W, W = RqAt.put w10 g6 b := ⟨_, rfl⟩
      have HN11 : Hid (W2F w w11 r q) := by rw [hw]; exact HN10.out.put hl6 b
      have HA5b : Hid (RqAt w11 g5 a) := by rw [hw]; exact HA5.out.besideRqAt hn56 b
      have HA6 : Hid (RqAt w11 g6 b) := by rw [hw]; exact HZ6b.out.1.put_at b
      dsimp only [RqAt.put] at hw
      rw [← hw]
      clear hw ff b0 b1 b2 b3 b4 b5 b6 b7 b8 b9
      refine MixPost.normal HN11.out ?_
      refine mix_done (by kernel_rfl) ?_
      go_wp2_with fail
      go_meet
      exact ⟨g5, g6, a, b, rfl, rfl, HAQ.out, HBQ.out, ⟨HN11.out, HA5b.out, HA6.out⟩⟩
    rcases List.mem_cons.1 hi with rfl | hi
    · skip
      simp only [segOf, pickOps, pickOp]
      go_wp2_with fail
      obtain ⟨g5, hg⟩ : ∃ g, g = w5.heap.size := ⟨_, rfl⟩
      obtain ⟨w6, hw⟩ : ∃ W, W = w5.alloc (Obj.cells #[.string ⟨#[]⟩, .string ⟨#[]⟩, .string ⟨#[]⟩, .int .i64 0, .bool false, .slice none 0 0, .int .i64 0, .int .u64 0, .int .i64 0, .int .i64 0] 25) := ⟨_, rfl⟩
      have hb : Below w5.heap.size w5 w6 := by rw [hw]; exact (Below.refl _ _).alloc (Nat.le_refl _) _
      have HN6 : Hid (W2F w w6 r q) := HN5.out.next hb
      have HZ5 : Hid (RqAt w6 g5 Rv.zero ∧ OwnB w6 g5) := by rw [hw, hg]; exact ⟨RqAt.fresh, OwnB.new _ _ _⟩
      have hl5 : w.heap.size + 1 < g5 := by rw [hg]; exact HN5.out.aq.lt
      rw [← hw, ← hg]
      clear hw hg hb
      refine MixPost.normal HN6.out ?_
      refine mix_several [1, 5] (by kernel_rfl) ?_
      intro i hi
      rcases List.mem_cons.1 hi with rfl | hi
      · skip
        simp only [segOf, pickOps, pickOp]
        go_wp2_with fail
        refine (aNorm_any r _ HN6.out.kr HN6.out.env).mono ?_
        rintro e w7 ⟨a, rfl, hzq, _, hb⟩
        have HAQ := Lib.hid hzq
        have HN7 : Hid (W2F w w7 r q) := HN6.out.next hb
        replace HZ5 : Hid (RqAt w7 g5 Rv.zero ∧ OwnB w7 g5) := ⟨HZ5.out.1.below hb HZ5.out.1.lt, HZ5.out.2.below hb HZ5.out.1.lt⟩
        clear hb hzq
        simp only [Rv.v]
        go_wp2_with fail
        refine MixPost.normal HN7.out ?_
        refine mix_several [3, 5] (by kernel_rfl) ?_
        intro i hi
        rcases List.mem_cons.1 hi with rfl | hi
        · skip
          simp only [segOf, pickOps, pickOp]
          go_wp2_with fail
          refine (aNorm_any q _ HN7.out.kq HN7.out.env).mono ?_
          rintro e w8 ⟨b, rfl, hzq, _, hb⟩
          have HBQ := Lib.hid hzq
          have HN8 : Hid (W2F w w8 r q) := HN7.out.next hb
          replace HZ5 : Hid (RqAt w8 g5 Rv.zero ∧ OwnB w8 g5) := ⟨HZ5.out.1.below hb HZ5.out.1.lt, HZ5.out.2.below hb HZ5.out.1.lt⟩
          clear hb hzq
          simp only [Rv.v]
          go_wp2_with fail
          refine MixPost.normal HN8.out ?_
          refine mix_run 5 (by kernel_rfl) ?_
          simp only [segOf, pickOps, pickOp]
          go_wp2_with fail
          obtain ⟨g6, hg⟩ : ∃ g, g = w8.heap.size := ⟨_, rfl⟩
          obtain ⟨w9, hw⟩ : ∃ W, W = w8.alloc (Obj.cells #[.string ⟨#[]⟩, .string ⟨#[]⟩, .string ⟨#[]⟩, .int .i64 0, .bool false, .slice none 0 0, .int .i64 0, .int .u64 0, .int .i64 0, .int .i64 0] 25) := ⟨_, rfl⟩
          have hb : Below w8.heap.size w8 w9 := by rw [hw]; exact (Below.refl _ _).alloc (Nat.le_refl _) _
          have HN9 : Hid (W2F w w9 r q) := HN8.out.next hb
          have HZ6 : Hid (RqAt w9 g6 Rv.zero ∧ OwnB w9 g6) := by rw [hw, hg]; exact ⟨RqAt.fresh, OwnB.new _ _ _⟩
          have hl6 : w.heap.size + 1 < g6 := by rw [hg]; exact HN8.out.aq.lt
          have hn56 : g5 ≠ g6 := by have := HZ5.out.1.lt; omega
          replace HZ5 : Hid (RqAt w9 g5 Rv.zero ∧ OwnB w9 g5) := ⟨HZ5.out.1.below hb HZ5.out.1.lt, HZ5.out.2.below hb HZ5.out.1.lt⟩
          rw [← hw, ← hg]
          clear hw hg hb
          refine MixPost.normal HN9.out ?_
          refine mix_run 6 (by kernel_rfl) ?_
          simp only [segOf, pickOps, pickOp]
          obtain ⟨b0, b1, b2, b3, b4, b5, b6, b7, b8, b9⟩ := HZ5.out.1
          have ff := HZ5.out.2
          unfold OwnB at ff
          go_wp2_with fail
          obtain ⟨w10, hw⟩ : ∃ W, W = RqAt.put w9 g5 a := ⟨_, rfl⟩
          have HN10 : Hid (W2F w w10 r q) := by rw [hw]; exact HN9.out.put hl5 a
          have HA5 : Hid (RqAt w10 g5 a) := by rw [hw]; exact HZ5.out.1.put_at a
          have HZ6b : Hid (RqAt w10 g6 Rv.zero ∧ OwnB w10 g6) := by rw [hw]; exact ⟨HZ6.out.1.besideRqAt hn56.symm a, HZ6.out.2.rq a⟩
          dsimp only [RqAt.put] at hw
          rw [← hw]
          clear hw ff HZ5 b0 b1 b2 b3 b4 b5 b6 b7 b8 b9
          refine MixPost.normal HN10.out ?_
          refine mix_run 7 (by kernel_rfl) ?_
          simp only [segOf, pickOps, pickOp]
          obtain ⟨b0, b1, b2, b3, b4, b5, b6, b7, b8, b9⟩ := HZ6b.out.1
          have ff := HZ6b.out.2
          unfold OwnB at ff
          go_wp2_with fail
          obtain ⟨w11, hw⟩ : ∃ W, W = RqAt.put w10 g6 b := ⟨_, rfl⟩
          have HN11 : Hid (W2F w w11 r q) := by rw [hw]; exact HN10.out.put hl6 b
          have HA5b : Hid (RqAt w11 g5 a) := by rw [hw]; exact HA5.out.besideRqAt hn56 b
          have HA6 : Hid (RqAt w11 g6 b) := by rw [hw]; exact HZ6b.out.1.put_at b
          dsimp only [RqAt.put] at hw
          rw [← hw]
          clear hw ff b0 b1 b2 b3 b4 b5 b6 b7 b8 b9
          refine MixPost.normal HN11.out ?_
          refine mix_done (by kernel_rfl) ?_
          go_wp2_with fail
          go_meet
          exact ⟨g5, g6, a, b, rfl, rfl, HAQ.out, HBQ.out, ⟨HN11.out, HA5b.out, HA6.out⟩⟩
        obtain rfl := List.mem_singleton.1 hi
        simp only [segOf, pickOps, pickOp]
        go_wp2_with fail
        obtain ⟨g6, hg⟩ : ∃ g, g = w7.heap.size := ⟨_, rfl⟩
        obtain ⟨w8, hw⟩ : ∃ W, W = w7.alloc (Obj.cells #[.string ⟨#[]⟩, .string ⟨#[]⟩, .string ⟨#[]⟩, .int .i64 0, .bool false, .slice none 0 0, .int .i64 0, .int .u64 0, .int .i64 0, .int .i64 0] 25) := ⟨_, rfl⟩
        have hb : Below w7.heap.size w7 w8 := by rw [hw]; exact (Below.refl _ _).alloc (Nat.le_refl _) _
        have HN8 : Hid (W2F w w8 r q) := HN7.out.next hb
        have HZ6 : Hid (RqAt w8 g6 Rv.zero ∧ OwnB w8 g6) := by rw [hw, hg]; exact ⟨RqAt.fresh, OwnB.new _ _ _⟩
        have hl6 : w.heap.size + 1 < g6 := by rw [hg]; exact HN7.out.aq.lt
        have hn56 : g5 ≠ g6 := by have := HZ5.out.1.lt; omega
        replace HZ5 : Hid (RqAt w8 g5 Rv.zero ∧ OwnB w8 g5) := ⟨HZ5.out.1.below hb HZ5.out.1.lt, HZ5.out.2.below hb HZ5.out.1.lt⟩
        rw [← hw, ← hg]
        clear hw hg hb
        refine MixPost.normal HN8.out ?_
        refine mix_run 3 (by kernel_rfl) ?_
        simp only [segOf, pickOps, pickOp]
        go_wp2_with fail
        refine (aNorm_any q _ HN8.out.kq HN8.out.env).mono ?_
        rintro e w9 ⟨b, rfl, hzq, _, hb⟩
        have HBQ := Lib.hid hzq
        have HN9 : Hid (W2F w w9 r q) := HN8.out.next hb
        replace HZ5 : Hid (RqAt w9 g5 Rv.zero ∧ OwnB w9 g5) := ⟨HZ5.out.1.below hb HZ5.out.1.lt, HZ5.out.2.below hb HZ5.out.1.lt⟩
        replace HZ6 : Hid (RqAt w9 g6 Rv.zero ∧ OwnB w9 g6) := ⟨HZ6.out.1.below hb HZ6.out.1.lt, HZ6.out.2.below hb HZ6.out.1.lt⟩
        clear hb hzq
        simp only [Rv.v]
        go_wp2_with fail
        refine MixPost.normal HN9.out ?_
        refine mix_run 6 (by kernel_rfl) ?_
        simp only [segOf, pickOps, pickOp]
        obtain ⟨b0, b1, b2, b3, b4, b5, b6, b7, b8, b9⟩ := HZ5.out.1
        have ff := HZ5.out.2
        unfold OwnB at ff
        go_wp2_with fail
        obtain ⟨w10, hw⟩ : ∃ W, W = RqAt.put w9 g5 a := ⟨_, rfl⟩
        have HN10 : Hid (W2F w w10 r q) := by rw [hw]; exact HN9.out.put hl5 a
        have HA5 : Hid (RqAt w10 g5 a) := by rw [hw]; exact HZ5.out.1.put_at a
        have HZ6b : Hid (RqAt w10 g6 Rv.zero ∧ OwnB w10 g6) := by rw [hw]; exact ⟨HZ6.out.1.besideRqAt hn56.symm a, HZ6.out.2.rq a⟩
        dsimp only [RqAt.put] at hw
        rw [← hw]
        clear hw ff HZ5 b0 b1 b2 b3 b4 b5 b6 b7 b8 b9
        refine MixPost.normal HN10.out ?_
        refine mix_run 7 (by kernel_rfl) ?_
        simp only [segOf, pickOps, pickOp]
        obtain ⟨b0, b1, b2, b3, b4, b5, b6, b7, b8, b9⟩ := HZ6b.out.1
        have ff := HZ6b.out.2
        unfold OwnB at ff
        go_wp2_with fail
        obtain ⟨w11, hw⟩ : ∃ W, W = RqAt.put w10 g6 b := ⟨_, rfl⟩
        have HN11 : Hid (W2F w w11 r q) := by rw [hw]; exact HN10.out.put hl6 b
        have HA5b : Hid (RqAt w11 g5 a) := by rw [hw]; exact HA5.out.besideRqAt hn56 b
        have HA6 : Hid (RqAt w11 g6 b) := by rw [hw]; exact HZ6b.out.1.put_at b
        dsimp only [RqAt.put] at hw
        rw [← hw]
        clear hw ff b0 b1 b2 b3 b4 b5 b6 b7 b8 b9
        refine MixPost.normal HN11.out ?_
        refine mix_done (by kernel_rfl) ?_
        go_wp2_with fail
        go_meet
        exact ⟨g5, g6, a, b, rfl, rfl, HAQ.out, HBQ.out, ⟨HN11.out, HA5b.out, HA6.out⟩⟩
      obtain rfl := List.mem_singleton.1 hi
      simp only [segOf, pickOps, pickOp]
      go_wp2_with fail
      obtain ⟨g6, hg⟩ : ∃ g, g = w6.heap.size := ⟨_, rfl⟩
      obtain ⟨w7, hw⟩ : ∃ W, W = w6.alloc (Obj.cells #[.string ⟨#[]⟩, .string ⟨#[]⟩, .string ⟨#[]⟩, .int .i64 0, .bool false, .slice none 0 0, .int .i64 0, .int .u64 0, .int .i64 0, .int .i64 0] 25) := ⟨_, rfl⟩
      have hb : Below w6.heap.size w6 w7 := by rw [hw]; exact (Below.refl _ _).alloc (Nat.le_refl _) _
      have HN7 : Hid (W2F w w7 r q) := HN6.out.next hb
      have HZ6 : Hid (RqAt w7 g6 Rv.zero ∧ OwnB w7 g6) := by rw [hw, hg]; exact ⟨RqAt.fresh, OwnB.new _ _ _⟩
      have hl6 : w.heap.size + 1 < g6 := by rw [hg]; exact HN6.out.aq.lt
      have hn56 : g5 ≠ g6 := by have := HZ5.out.1.lt; omega
      replace HZ5 : Hid (RqAt w7 g5 Rv.zero ∧ OwnB w7 g5) := ⟨HZ5.out.1.below hb HZ5.out.1.lt, HZ5.out.2.below hb HZ5.out.1.lt⟩
      rw [← hw, ← hg]
      clear hw hg hb
      refine MixPost.normal HN7.out ?_
      refine mix_run 1 (by kernel_rfl) ?_
      simp only [segOf, pickOps, pickOp]
      go_wp2_with fail
      refine (aNorm_any r _ HN7.out.kr HN7.out.env).mono ?_
      rintro e w8 ⟨a, rfl, hzq, _, hb⟩
      have HAQ := Lib.hid hzq
      have HN8 : Hid (W2F w w8 r q) := HN7.out.next hb
      replace HZ5 : Hid (RqAt w8 g5 Rv.zero ∧ OwnB w8 g5) := ⟨HZ5.out.1.below hb HZ5.out.1.lt, HZ5.out.2.below hb HZ5.out.1.lt⟩
      replace HZ6 : Hid (RqAt w8 g6 Rv.zero ∧ OwnB w8 g6) := ⟨HZ6.out.1.below hb HZ6.out.1.lt, HZ6.out.2.below hb HZ6.out.1.lt⟩
      clear hb hzq
      simp only [Rv.v]
      go_wp2_with fail
      refine MixPost.normal HN8.out ?_
      refine mix_run 3 (by kernel_rfl) ?_
      simp only [segOf, pickOps, pickOp]
      go_wp2_with fail
      refine (aNorm_any q _ HN8.out.kq HN8.out.env).mono ?_
      rintro e w9 ⟨b, rfl, hzq, _, hb⟩
      have HBQ := Lib.hid hzq
      have HN9 : Hid (W2F w w9 r q) := HN8.out.next hb
      replace HZ5 : Hid (RqAt w9 g5 Rv.zero ∧ OwnB w9 g5) := ⟨HZ5.out.1.below hb HZ5.out.1.lt, HZ5.out.2.below hb HZ5.out.1.lt⟩
      replace HZ6 : Hid (RqAt w9 g6 Rv.zero ∧ OwnB w9 g6) := ⟨HZ6.out.1.below hb HZ6.out.1.lt, HZ6.out.2.below hb HZ6.out.1.lt⟩
      clear hb hzq
      simp only [Rv.v]
      go_wp2_with fail
      refine MixPost.normal HN9.out ?_
      refine mix_run 6 (by kernel_rfl) ?_
      simp only [segOf, pickOps, pickOp]
      obtain ⟨b0, b1, b2, b3, b4, b5, b6, b7, b8, b9⟩ := HZ5.out.1
      have ff := HZ5.out.2
      unfold OwnB at ff
      go_wp2_with fail
      obtain ⟨w10, hw⟩ : ∃ W, W = RqAt.put w9 g5 a := ⟨_, rfl⟩
      have HN10 : Hid (W2F w w10 r q) := by rw [hw]; exact HN9.out.put hl5 a
      have HA5 : Hid (RqAt w10 g5 a) := by rw [hw]; exact HZ5.out.1.put_at a
      have HZ6b : Hid (RqAt w10 g6 Rv.zero ∧ OwnB w10 g6) := by rw [hw]; exact ⟨HZ6.out.1.besideRqAt hn56.symm a, HZ6.out.2.rq a⟩
      dsimp only [RqAt.put] at hw
      rw [← hw]
      clear hw ff HZ5 b0 b1 b2 b3 b4 b5 b6 b7 b8 b9
      refine MixPost.normal HN10.out ?_
      refine mix_run 7 (by kernel_rfl) ?_
      simp only [segOf, pickOps, pickOp]
      obtain ⟨b0, b1, b2, b3, b4, b5, b6, b7, b8, b9⟩ := HZ6b.out.1
      have ff := HZ6b.out.2
      unfold OwnB at ff
      go_wp2_with fail
      obtain ⟨w11, hw⟩ : ∃ W, W = RqAt.put w10 g6 b := ⟨_, rfl⟩
      have HN11 : Hid (W2F w w11 r q) := by rw [hw]; exact HN10.out.put hl6 b
      have HA5b : Hid (RqAt w11 g5 a) := by rw [hw]; exact HA5.out.besideRqAt hn56 b
      have HA6 : Hid (RqAt w11 g6 b) := by rw [hw]; exact HZ6b.out.1.put_at b
      dsimp only [RqAt.put] at hw
      rw [← hw]
      clear hw ff b0 b1 b2 b3 b4 b5 b6 b7 b8 b9
      refine MixPost.normal HN11.out ?_
      refine mix_done (by kernel_rfl) ?_
      go_wp2_with fail
      go_meet
      exact ⟨g5, g6, a, b, rfl, rfl, HAQ.out, HBQ.out, ⟨HN11.out, HA5b.out, HA6.out⟩⟩
    obtain rfl := List.mem_singleton.1 hi
    simp only [segOf, pickOps, pickOp]
    go_wp2_with fail
    obtain ⟨g6, hg⟩ : ∃ g, g = w5.heap.size := ⟨_, rfl⟩
    obtain ⟨w6, hw⟩ : ∃ W, W = w5.alloc (Obj.cells #[.string ⟨#[]⟩, .string ⟨#[]⟩, .string ⟨#[]⟩, .int .i64 0, .bool false, .slice none 0 0, .int .i64 0, .int .u64 0, .int .i64 0, .int .i64 0] 25) := ⟨_, rfl⟩
    have hb : Below w5.heap.size w5 w6 := by rw [hw]; exact (Below.refl _ _).alloc (Nat.le_refl _) _
    have HN6 : Hid (W2F w w6 r q) := HN5.out.next hb
    have HZ6 : Hid (RqAt w6 g6 Rv.zero ∧ OwnB w6 g6) := by rw [hw, hg]; exact ⟨RqAt.fresh, OwnB.new _ _ _⟩
    have hl6 : w.heap.size + 1 < g6 := by rw [hg]; exact HN5.out.aq.lt
    rw [← hw, ← hg]
    clear hw hg hb
    refine MixPost.normal HN6.out ?_
    refine mix_several [1, 4] (by kernel_rfl) ?_
    intro i hi
    rcases List.mem_cons.1 hi with rfl | hi
    · skip
      simp only [segOf, pickOps, pickOp]
      go_wp2_with fail
      refine (aNorm_any r _ HN6.out.kr HN6.out.env).mono ?_
      rintro e w7 ⟨a, rfl, hzq, _, hb⟩
      have HAQ := Lib.hid hzq
      have HN7 : Hid (W2F w w7 r q) := HN6.out.next hb
      replace HZ6 : Hid (RqAt w7 g6 Rv.zero ∧ OwnB w7 g6) := ⟨HZ6.out.1.below hb HZ6.out.1.lt, HZ6.out.2.below hb HZ6.out.1.lt⟩
      clear hb hzq
      simp only [Rv.v]
      go_wp2_with fail
      refine MixPost.normal HN7.out ?_
      refine mix_several [3, 4] (by kernel_rfl) ?_
      intro i hi
      rcases List.mem_cons.1 hi with rfl | hi
      · skip
        simp only [segOf, pickOps, pickOp]
        go_wp2_with fail
        refine (aNorm_any q _ HN7.out.kq HN7.out.env).mono ?_
        rintro e w8 ⟨b, rfl, hzq, _, hb⟩
        have HBQ := Lib.hid hzq
        have HN8 : Hid (W2F w w8 r q) := HN7.out.next hb
        replace HZ6 : Hid (RqAt w8 g6 Rv.zero ∧ OwnB w8 g6) := ⟨HZ6.out.1.below hb HZ6.out.1.lt, HZ6.out.2.below hb HZ6.out.1.lt⟩
        clear hb hzq
        simp only [Rv.v]
        go_wp2_with fail
        refine MixPost.normal HN8.out ?_
        refine mix_run 4 (by kernel_rfl) ?_
        simp only [segOf, pickOps, pickOp]
        go_wp2_with fail
        obtain ⟨g5, hg⟩ : ∃ g, g = w8.heap.size := ⟨_, rfl⟩
        obtain ⟨w9, hw⟩ : ∃ W, W = w8.alloc (Obj.cells #[.string ⟨#[]⟩, .string ⟨#[]⟩, .string ⟨#[]⟩, .int .i64 0, .bool false, .slice none 0 0, .int .i64 0, .int .u64 0, .int .i64 0, .int .i64 0] 25) := ⟨_, rfl⟩
        have hb : Below w8.heap.size w8 w9 := by rw [hw]; exact (Below.refl _ _).alloc (Nat.le_refl _) _
        have HN9 : Hid (W2F w w9 r q) := HN8.out.next hb
        have HZ5 : Hid (RqAt w9 g5 Rv.zero ∧ OwnB w9 g5) := by rw [hw, hg]; exact ⟨RqAt.fresh, OwnB.new _ _ _⟩
        have hl5 : w.heap.size + 1 < g5 := by rw [hg]; exact HN8.out.aq.lt
        have hn56 : g5 ≠ g6 := by have := HZ6.out.1.lt; omega
        replace HZ6 : Hid (RqAt w9 g6 Rv.zero ∧ OwnB w9 g6) := ⟨HZ6.out.1.below hb HZ6.out.1.lt, HZ6.out.2.below hb HZ6.out.1.lt⟩
        rw [← hw, ← hg]
        clear hw hg hb
        refine MixPost.normal HN9.out ?_
        refine mix_run 6 (by kernel_rfl) ?_
        simp only [segOf, pickOps, pickOp]
        obtain ⟨b0, b1, b2, b3, b4, b5, b6, b7, b8, b9⟩ := HZ5.out.1
        have ff := HZ5.out.2
        unfold OwnB at ff
        go_wp2_with fail
        obtain ⟨w10, hw⟩ : ∃ W, W = RqAt.put w9 g5 a := ⟨_, rfl⟩
        have HN10 : Hid (W2F w w10 r q) := by rw [hw]; exact HN9.out.put hl5 a
        have HA5 : Hid (RqAt w10 g5 a) := by rw [hw]; exact HZ5.out.1.put_at a
        have HZ6b : Hid (RqAt w10 g6 Rv.zero ∧ OwnB w10 g6) := by rw [hw]; exact ⟨HZ6.out.1.besideRqAt hn56.symm a, HZ6.out.2.rq a⟩
        dsimp only [RqAt.put] at hw
        rw [← hw]
        clear hw ff HZ5 b0 b1 b2 b3 b4 b5 b6 b7 b8 b9
        refine MixPost.normal HN10.out ?_
        refine mix_run 7 (by kernel_rfl) ?_
        simp only [segOf, pickOps, pickOp]
        obtain ⟨b0, b1, b2, b3, b4, b5, b6, b7, b8, b9⟩ := HZ6b.out.1
        have ff := HZ6b.out.2
        unfold OwnB at ff
        go_wp2_with fail
        obtain ⟨w11, hw⟩ : ∃ W, W = RqAt.put w10 g6 b := ⟨_, rfl⟩
        have HN11 : Hid (W2F w w11 r q) := by rw [hw]; exact HN10.out.put hl6 b
        have HA5b : Hid (RqAt w11 g5 a) := by rw [hw]; exact HA5.out.besideRqAt hn56 b
        have HA6 : Hid (RqAt w11 g6 b) := by rw [hw]; exact HZ6b.out.1.put_at b
        dsimp only [RqAt.put] at hw
        rw [← hw]
        clear hw ff b0 b1 b2 b3 b4 b5 b6 b7 b8 b9
        refine MixPost.normal HN11.out ?_
        refine mix_done (by kernel_rfl) ?_
        go_wp2_with fail
        go_meet
        exact ⟨g5, g6, a, b, rfl, rfl, HAQ.out, HBQ.out, ⟨HN11.out, HA5b.out, HA6.out⟩⟩
      obtain rfl := List.mem_singleton.1 hi
      simp only [segOf, pickOps, pickOp]
      go_wp2_with fail
      obtain ⟨g5, hg⟩ : ∃ g, g = w7.heap.size := ⟨_, rfl⟩
      obtain ⟨w8, hw⟩ : ∃ W, W = w7.alloc (Obj.cells #[.string ⟨#[]⟩, .string ⟨#[]⟩, .string ⟨#[]⟩, .int .i64 0, .bool false, .slice none 0 0, .int .i64 0, .int .u64 0, .int .i64 0, .int .i64 0] 25) := ⟨_, rfl⟩
      have hb : Below w7.heap.size w7 w8 := by rw [hw]; exact (Below.refl _ _).alloc (Nat.le_refl _) _
      have HN8 : Hid (W2F w w8 r q) := HN7.out.next hb
      have HZ5 : Hid (RqAt w8 g5 Rv.zero ∧ OwnB w8 g5) := by rw [hw, hg]; exact ⟨RqAt.fresh, OwnB.new _ _ _⟩
      have hl5 : w.heap.size + 1 < g5 := by rw [hg]; exact HN7.out.aq.lt
      have hn56 : g5 ≠ g6 := by have := HZ6.out.1.lt; omega
      replace HZ6 : Hid (RqAt w8 g6 Rv.zero ∧ OwnB w8 g6) := ⟨HZ6.out.1.below hb HZ6.out.1.lt, HZ6.out.2.below hb HZ6.out.1.lt⟩
      rw [← hw, ← hg]
      clear hw hg hb
      refine MixPost.normal HN8.out ?_
      refine mix_run 3 (by kernel_rfl) ?_
      simp only [segOf, pickOps, pickOp]
      go_wp2_with fail
      refine (aNorm_any q _ HN8.out.kq HN8.out.env).mono ?_
      rintro e w9 ⟨b, rfl, hzq, _, hb⟩
      have HBQ := Lib.hid hzq
      have HN9 : Hid (W2F w w9 r q) := HN8.out.next hb
      replace HZ5 : Hid (RqAt w9 g5 Rv.zero ∧ OwnB w9 g5) := ⟨HZ5.out.1.below hb HZ5.out.1.lt, HZ5.out.2.below hb HZ5.out.1.lt⟩
      replace HZ6 : Hid (RqAt w9 g6 Rv.zero ∧ OwnB w9 g6) := ⟨HZ6.out.1.below hb HZ6.out.1.lt, HZ6.out.2.below hb HZ6.out.1.lt⟩
      clear hb hzq
      simp only [Rv.v]
      go_wp2_with fail
      refine MixPost.normal HN9.out ?_
      refine mix_run 6 (by kernel_rfl) ?_
      simp only [segOf, pickOps, pickOp]
      obtain ⟨b0, b1, b2, b3, b4, b5, b6, b7, b8, b9⟩ := HZ5.out.1
      have ff := HZ5.out.2
      unfold OwnB at ff
      go_wp2_with fail
      obtain ⟨w10, hw⟩ : ∃ W, W = RqAt.put w9 g5 a := ⟨_, rfl⟩
      have HN10 : Hid (W2F w w10 r q) := by rw [hw]; exact HN9.out.put hl5 a
      have HA5 : Hid (RqAt w10 g5 a) := by rw [hw]; exact HZ5.out.1.put_at a
      have HZ6b : Hid (RqAt w10 g6 Rv.zero ∧ OwnB w10 g6) := by rw [hw]; exact ⟨HZ6.out.1.besideRqAt hn56.symm a, HZ6.out.2.rq a⟩
      dsimp only [RqAt.put] at hw
      rw [← hw]
      clear hw ff HZ5 b0 b1 b2 b3 b4 b5 b6 b7 b8 b9
      refine MixPost.normal HN10.out ?_
      refine mix_run 7 (by kernel_rfl) ?_
      simp only [segOf, pickOps, pickOp]
      obtain ⟨b0, b1, b2, b3, b4, b5, b6, b7, b8, b9⟩ := HZ6b.out.1
      have ff := HZ6b.out.2
      unfold OwnB at ff
      go_wp2_with fail
      obtain ⟨w11, hw⟩ : ∃ W, W = RqAt.put w10 g6 b := ⟨_, rfl⟩
      have HN11 : Hid (W2F w w11 r q) := by rw [hw]; exact HN10.out.put hl6 b
      have HA5b : Hid (RqAt w11 g5 a) := by rw [hw]; exact HA5.out.besideRqAt hn56 b
      have HA6 : Hid (RqAt w11 g6 b) := by rw [hw]; exact HZ6b.out.1.put_at b
      dsimp only [RqAt.put] at hw
      rw [← hw]
      clear hw ff b0 b1 b2 b3 b4 b5 b6 b7 b8 b9
      refine MixPost.normal HN11.out ?_
      refine mix_done (by kernel_rfl) ?_
      go_wp2_with fail
      go_meet
      exact ⟨g5, g6, a, b, rfl, rfl, HAQ.out, HBQ.out, ⟨HN11.out, HA5b.out, HA6.out⟩⟩
    obtain rfl := List.mem_singleton.1 hi
    simp only [segOf, pickOps, pickOp]
    go_wp2_with fail
    obtain ⟨g5, hg⟩ : ∃ g, g = w6.heap.size := ⟨_, rfl⟩
    obtain ⟨w7, hw⟩ : ∃ W, W = w6.alloc (Obj.cells #[.string ⟨#[]⟩, .string ⟨#[]⟩, .string ⟨#[]⟩, .int .i64 0, .bool false, .slice none 0 0, .int .i64 0, .int .u64 0, .int .i64 0, .int .i64 0] 25) := ⟨_, rfl⟩
    have hb : Below w6.heap.size w6 w7 := by rw [hw]; exact (Below.refl _ _).alloc (Nat.le_refl _) _
    have HN7 : Hid (W2F w w7 r q) := HN6.out.next hb
    have HZ5 : Hid (RqAt w7 g5 Rv.zero ∧ OwnB w7 g5) := by rw [hw, hg]; exact ⟨RqAt.fresh, OwnB.new _ _ _⟩
    have hl5 : w.heap.size + 1 < g5 := by rw [hg]; exact HN6.out.aq.lt
    have hn56 : g5 ≠ g6 := by have := HZ6.out.1.lt; omega
    replace HZ6 : Hid (RqAt w7 g6 Rv.zero ∧ OwnB w7 g6) := ⟨HZ6.out.1.below hb HZ6.out.1.lt, HZ6.out.2.below hb HZ6.out.1.lt⟩
    rw [← hw, ← hg]
    clear hw hg hb
    refine MixPost.normal HN7.out ?_
    refine mix_run 1 (by kernel_rfl) ?_
    simp only [segOf, pickOps, pickOp]
    go_wp2_with fail
    refine (aNorm_any r _ HN7.out.kr HN7.out.env).mono ?_
    rintro e w8 ⟨a, rfl, hzq, _, hb⟩
    have HAQ := Lib.hid hzq
    have HN8 : Hid (W2F w w8 r q) := HN7.out.next hb
    replace HZ5 : Hid (RqAt w8 g5 Rv.zero ∧ OwnB w8 g5) := ⟨HZ5.out.1.below hb HZ5.out.1.lt, HZ5.out.2.below hb HZ5.out.1.lt⟩
    replace HZ6 : Hid (RqAt w8 g6 Rv.zero ∧ OwnB w8 g6) := ⟨HZ6.out.1.below hb HZ6.out.1.lt, HZ6.out.2.below hb HZ6.out.1.lt⟩
    clear hb hzq
    simp only [Rv.v]
    go_wp2_with fail
    refine MixPost.normal HN8.out ?_
    refine mix_run 3 (by kernel_rfl) ?_
    simp only [segOf, pickOps, pickOp]
    go_wp2_with fail
    refine (aNorm_any q _ HN8.out.kq HN8.out.env).mono ?_
    rintro e w9 ⟨b, rfl, hzq, _, hb⟩
    have HBQ := Lib.hid hzq
    have HN9 : Hid (W2F w w9 r q) := HN8.out.next hb
    replace HZ5 : Hid (RqAt w9 g5 Rv.zero ∧ OwnB w9 g5) := ⟨HZ5.out.1.below hb HZ5.out.1.lt, HZ5.out.2.below hb HZ5.out.1.lt⟩
    replace HZ6 : Hid (RqAt w9 g6 Rv.zero ∧ OwnB w9 g6) := ⟨HZ6.out.1.below hb HZ6.out.1.lt, HZ6.out.2.below hb HZ6.out.1.lt⟩
    clear hb hzq
    simp only [Rv.v]
    go_wp2_with fail
    refine MixPost.normal HN9.out ?_
    refine mix_run 6 (by kernel_rfl) ?_
    simp only [segOf, pickOps, pickOp]
    obtain ⟨b0, b1, b2, b3, b4, b5, b6, b7, b8, b9⟩ := HZ5.out.1
    have ff := HZ5.out.2
    unfold OwnB at ff
    go_wp2_with fail
    obtain ⟨w10, hw⟩ : ∃ W, W = RqAt.put w9 g5 a := ⟨_, rfl⟩
    have HN10 : Hid (W2F w w10 r q) := by rw [hw]; exact HN9.out.put hl5 a
    have HA5 : Hid (RqAt w10 g5 a) := by rw [hw]; exact HZ5.out.1.put_at a
    have HZ6b : Hid (RqAt w10 g6 Rv.zero ∧ OwnB w10 g6) := by rw [hw]; exact ⟨HZ6.out.1.besideRqAt hn56.symm a, HZ6.out.2.rq a⟩
    dsimp only [RqAt.put] at hw
    rw [← hw]
    clear hw ff HZ5 b0 b1 b2 b3 b4 b5 b6 b7 b8 b9
    refine MixPost.normal HN10.out ?_
    refine mix_run 7 (by kernel_rfl) ?_
    simp only [segOf, pickOps, pickOp]
    obtain ⟨b0, b1, b2, b3, b4, b5, b6, b7, b8, b9⟩ := HZ6b.out.1
    have ff := HZ6b.out.2
    unfold OwnB at ff
    go_wp2_with fail
    obtain ⟨w11, hw⟩ : ∃ W, W = RqAt.put w10 g6 b := ⟨_, rfl⟩
    have HN11 : Hid (W2F w w11 r q) := by rw [hw]; exact HN10.out.put hl6 b
    have HA5b : Hid (RqAt w11 g5 a) := by rw [hw]; exact HA5.out.besideRqAt hn56 b
    have HA6 : Hid (RqAt w11 g6 b) := by rw [hw]; exact HZ6b.out.1.put_at b
    dsimp only [RqAt.put] at hw
    rw [← hw]
    clear hw ff b0 b1 b2 b3 b4 b5 b6 b7 b8 b9
    refine MixPost.normal HN11.out ?_
    refine mix_done (by kernel_rfl) ?_
    go_wp2_with fail
    go_meet
    exact ⟨g5, g6, a, b, rfl, rfl, HAQ.out, HBQ.out, ⟨HN11.out, HA5b.out, HA6.out⟩⟩
  case rest =>
    obtain ⟨g5, g6, a, b, rfl, rfl, haq, hbq, hk⟩ := hcut
    have HK0 := Lib.hid hk
    obtain ⟨x, hx⟩ : ∃ x : Bool, x = true ↔ wantQ r.q = wantQ q.q := by classical exact ⟨decide (wantQ r.q = wantQ q.q), by simp⟩
    have HX := Lib.hid hx
    have HS : Hid (x = true ↔ (a.o = b.o ∧ a.u = b.u ∧ a.cr = b.cr ∧ a.m = b.m ∧ namesQ r.q = namesQ q.q)) := hx.trans (want_x HCA.out.symm HCB.out.symm haq hbq)
    clear hk hx haq hbq HN4
    obtain ⟨ao, hao⟩ : ∃ x, x = a.o := ⟨_, rfl⟩
    obtain ⟨au, hau⟩ : ∃ x, x = a.u := ⟨_, rfl⟩
    obtain ⟨ac, hac⟩ : ∃ x, x = a.cr := ⟨_, rfl⟩
    obtain ⟨am, ham⟩ : ∃ x, x = a.m := ⟨_, rfl⟩
    obtain ⟨bo, hbo⟩ : ∃ x, x = b.o := ⟨_, rfl⟩
    obtain ⟨bu, hbu⟩ : ∃ x, x = b.u := ⟨_, rfl⟩
    obtain ⟨bc, hbc⟩ : ∃ x, x = b.cr := ⟨_, rfl⟩
    obtain ⟨bm, hbm⟩ : ∃ x, x = b.m := ⟨_, rfl⟩
    have HSS : Hid (x = true ↔ (ao = bo ∧ au = bu ∧ ac = bc ∧ am = bm ∧ namesQ r.q = namesQ q.q)) := by rw [hao, hau, hac, ham, hbo, hbu, hbc, hbm]; exact HS.out
    have ZA : Hid (∀ p : Held (fun W => W4F w W r q a b g5 g6), p.w.cell? ⟨g5, 0, none⟩ = some (.string am) ∧ p.w.cell? ⟨g5, 1, none⟩ = some (.string au) ∧ p.w.cell? ⟨g5, 2, none⟩ = some (.string ao) ∧ p.w.cell? ⟨g5, 4, none⟩ = some (.bool ac)) := by rw [ham, hau, hao, hac]; exact fun p => ⟨p.h.a5.c0, p.h.a5.c1, p.h.a5.c2, p.h.a5.c4⟩
    have ZB : Hid (∀ p : Held (fun W => W4F w W r q a b g5 g6), p.w.cell? ⟨g6, 0, none⟩ = some (.string bm) ∧ p.w.cell? ⟨g6, 1, none⟩ = some (.string bu) ∧ p.w.cell? ⟨g6, 2, none⟩ = some (.string bo) ∧ p.w.cell? ⟨g6, 4, none⟩ = some (.bool bc)) := by rw [hbm, hbu, hbo, hbc]; exact fun p => ⟨p.h.a6.c0, p.h.a6.c1, p.h.a6.c2, p.h.a6.c4⟩
    clear hao hau hac ham hbo hbu hbc hbm HS
    go_wp2_with fail
    go_cut [7] from 8 (fun s7 W => s7 = .bool x ∧ W2F w W r q)
    case first =>
      by_cases h0 : ao = bo
      case neg =>
        have HXF : Hid (x = false) := by
          show _ = _
          cases hx : x
          · rfl
          · exact absurd (HSS.out.1 hx).1 h0
        have hbe : (ao.toList == bo.toList) = false := by
          rw [beq_eq_false_iff_ne]; intro h; exact h0 (WideShapes.bytes_inj (by rw [ByteArray.toList_eq, ByteArray.toList_eq] at h; exact h))
        clear h0 HSS
        have HN0 := HK0
        refine mix_start (fun W => W4F w W r q a b g5 g6) (by kernel_rfl) ?_
        have hne : Nonempty (Held (fun W => W4F w W r q a b g5 g6)) := ⟨⟨_, HN0.out⟩⟩
        have zz0 : ∀ pp : Held (fun W => W4F w W r q a b g5 g6), pp.w.cell? ⟨w.heap.size, 0, none⟩ = some (.string r.m) := fun pp => pp.h.k.ar.c0
        have zz1 : ∀ pp : Held (fun W => W4F w W r q a b g5 g6), pp.w.cell? ⟨w.heap.size, 1, none⟩ = some (.string r.u) := fun pp => pp.h.k.ar.c1
        have zz2 : ∀ pp : Held (fun W => W4F w W r q a b g5 g6), pp.w.cell? ⟨w.heap.size, 2, none⟩ = some (.string r.o) := fun pp => pp.h.k.ar.c2
        have zz3 : ∀ pp : Held (fun W => W4F w W r q a b g5 g6), pp.w.cell? ⟨w.heap.size, 3, none⟩ = some (.int .i64 r.mode) := fun pp => pp.h.k.ar.c3
        have zz4 : ∀ pp : Held (fun W => W4F w W r q a b g5 g6), pp.w.cell? ⟨w.heap.size, 4, none⟩ = some (.bool r.cr) := fun pp => pp.h.k.ar.c4
        have zz5 : ∀ pp : Held (fun W => W4F w W r q a b g5 g6), pp.w.cell? ⟨w.heap.size, 5, none⟩ = some (.slice r.A r.n r.c) := fun pp => pp.h.k.ar.c5
        have zz6 : ∀ pp : Held (fun W => W4F w W r q a b g5 g6), pp.w.cell? ⟨w.heap.size, 6, none⟩ = some (.int .i64 r.cl) := fun pp => pp.h.k.ar.c6
        have zz7 : ∀ pp : Held (fun W => W4F w W r q a b g5 g6), pp.w.cell? ⟨w.heap.size, 7, none⟩ = some (.int .u64 r.tm) := fun pp => pp.h.k.ar.c7
        have zz8 : ∀ pp : Held (fun W => W4F w W r q a b g5 g6), pp.w.cell? ⟨w.heap.size, 8, none⟩ = some (.int .i64 r.gr) := fun pp => pp.h.k.ar.c8
        have zz9 : ∀ pp : Held (fun W => W4F w W r q a b g5 g6), pp.w.cell? ⟨w.heap.size, 9, none⟩ = some (.int .i64 r.sg) := fun pp => pp.h.k.ar.c9
        have zz10 : ∀ pp : Held (fun W => W4F w W r q a b g5 g6), pp.w.cell? ⟨w.heap.size + 1, 0, none⟩ = some (.string q.m) := fun pp => pp.h.k.aq.c0
        have zz11 : ∀ pp : Held (fun W => W4F w W r q a b g5 g6), pp.w.cell? ⟨w.heap.size + 1, 1, none⟩ = some (.string q.u) := fun pp => pp.h.k.aq.c1
        have zz12 : ∀ pp : Held (fun W => W4F w W r q a b g5 g6), pp.w.cell? ⟨w.heap.size + 1, 2, none⟩ = some (.string q.o) := fun pp => pp.h.k.aq.c2
        have zz13 : ∀ pp : Held (fun W => W4F w W r q a b g5 g6), pp.w.cell? ⟨w.heap.size + 1, 3, none⟩ = some (.int .i64 q.mode) := fun pp => pp.h.k.aq.c3
        have zz14 : ∀ pp : Held (fun W => W4F w W r q a b g5 g6), pp.w.cell? ⟨w.heap.size + 1, 4, none⟩ = some (.bool q.cr) := fun pp => pp.h.k.aq.c4
        have zz15 : ∀ pp : Held (fun W => W4F w W r q a b g5 g6), pp.w.cell? ⟨w.heap.size + 1, 5, none⟩ = some (.slice q.A q.n q.c) := fun pp => pp.h.k.aq.c5
        have zz16 : ∀ pp : Held (fun W => W4F w W r q a b g5 g6), pp.w.cell? ⟨w.heap.size + 1, 6, none⟩ = some (.int .i64 q.cl) := fun pp => pp.h.k.aq.c6
        have zz17 : ∀ pp : Held (fun W => W4F w W r q a b g5 g6), pp.w.cell? ⟨w.heap.size + 1, 7, none⟩ = some (.int .u64 q.tm) := fun pp => pp.h.k.aq.c7
        have zz18 : ∀ pp : Held (fun W => W4F w W r q a b g5 g6), pp.w.cell? ⟨w.heap.size + 1, 8, none⟩ = some (.int .i64 q.gr) := fun pp => pp.h.k.aq.c8
        have zz19 : ∀ pp : Held (fun W => W4F w W r q a b g5 g6), pp.w.cell? ⟨w.heap.size + 1, 9, none⟩ = some (.int .i64 q.sg) := fun pp => pp.h.k.aq.c9
        have ya0 := fun p => (ZA.out p).1
        have ya1 := fun p => (ZA.out p).2.1
        have ya2 := fun p => (ZA.out p).2.2.1
        have ya4 := fun p => (ZA.out p).2.2.2
        have yb0 := fun p => (ZB.out p).1
        have yb1 := fun p => (ZB.out p).2.1
        have yb2 := fun p => (ZB.out p).2.2.1
        have yb4 := fun p => (ZB.out p).2.2.2
        obtain ⟨w1, hwd⟩ : ∃ W, W = wc.drew := ⟨_, rfl⟩
        rw [← hwd]
        have hb : Below wc.heap.size wc w1 := by rw [hwd]; exact (Below.refl _ _).drew
        have HN1 : Hid (W4F w w1 r q a b g5 g6) := HN0.out.next hb
        clear hb hwd
        refine mix_seg [0, 1, 2, 3, 4, 5, 6, 7, 8, 9, 10, 11, 12, 13, 14, 15, 16, 17, 18, 19, 20, 21, 22, 23, 24, 25, 26, 27, 29] (by kernel_rfl) HN1.out ?_
        simp only [segOf, pickOps, pickOp]
        repeat (go_big_quiet_step (fail))
        refine wpQuiet_nil ?_
        refine mix_run 28 (by kernel_rfl) ?_
        simp only [segOf, pickOps, pickOp]
        go_wp2_with fail
        refine MixPost.normal HN1.out ?_
        refine mix_run 30 (by kernel_rfl) ?_
        simp only [segOf, pickOps, pickOp]
        go_wp2_with fail
        refine MixPost.normal HN1.out ?_
        refine mix_run 31 (by kernel_rfl) ?_
        simp only [segOf, pickOps, pickOp]
        go_wp2_with fail
        refine MixPost.normal HN1.out ?_
        refine mix_seg [32, 33] (by kernel_rfl) HN1.out ?_
        simp only [segOf, pickOps, pickOp]
        repeat (go_big_quiet_step (fail))
        refine wpQuiet_nil ?_
        refine mix_done (by kernel_rfl) ?_
        go_wp2_with fail
        go_meet
        exact ⟨by rw [HXF.out], HN1.out.k⟩
      subst h0
      by_cases h1 : au = bu
      case neg =>
        have HXF : Hid (x = false) := by
          show _ = _
          cases hx : x
          · rfl
          · exact absurd (HSS.out.1 hx).2.1 h1
        have hbe : (au.toList == bu.toList) = false := by
          rw [beq_eq_false_iff_ne]; intro h; exact h1 (WideShapes.bytes_inj (by rw [ByteArray.toList_eq, ByteArray.toList_eq] at h; exact h))
        clear h1 HSS
        have HN0 := HK0
        refine mix_start (fun W => W4F w W r q a b g5 g6) (by kernel_rfl) ?_
        have hne : Nonempty (Held (fun W => W4F w W r q a b g5 g6)) := ⟨⟨_, HN0.out⟩⟩
        have zz0 : ∀ pp : Held (fun W => W4F w W r q a b g5 g6), pp.w.cell? ⟨w.heap.size, 0, none⟩ = some (.string r.m) := fun pp => pp.h.k.ar.c0
        have zz1 : ∀ pp : Held (fun W => W4F w W r q a b g5 g6), pp.w.cell? ⟨w.heap.size, 1, none⟩ = some (.string r.u) := fun pp => pp.h.k.ar.c1
        have zz2 : ∀ pp : Held (fun W => W4F w W r q a b g5 g6), pp.w.cell? ⟨w.heap.size, 2, none⟩ = some (.string r.o) := fun pp => pp.h.k.ar.c2
        have zz3 : ∀ pp : Held (fun W => W4F w W r q a b g5 g6), pp.w.cell? ⟨w.heap.size, 3, none⟩ = some (.int .i64 r.mode) := fun pp => pp.h.k.ar.c3
        have zz4 : ∀ pp : Held (fun W => W4F w W r q a b g5 g6), pp.w.cell? ⟨w.heap.size, 4, none⟩ = some (.bool r.cr) := fun pp => pp.h.k.ar.c4
        have zz5 : ∀ pp : Held (fun W => W4F w W r q a b g5 g6), pp.w.cell? ⟨w.heap.size, 5, none⟩ = some (.slice r.A r.n r.c) := fun pp => pp.h.k.ar.c5
        have zz6 : ∀ pp : Held (fun W => W4F w W r q a b g5 g6), pp.w.cell? ⟨w.heap.size, 6, none⟩ = some (.int .i64 r.cl) := fun pp => pp.h.k.ar.c6
        have zz7 : ∀ pp : Held (fun W => W4F w W r q a b g5 g6), pp.w.cell? ⟨w.heap.size, 7, none⟩ = some (.int .u64 r.tm) := fun pp => pp.h.k.ar.c7
        have zz8 : ∀ pp : Held (fun W => W4F w W r q a b g5 g6), pp.w.cell? ⟨w.heap.size, 8, none⟩ = some (.int .i64 r.gr) := fun pp => pp.h.k.ar.c8
        have zz9 : ∀ pp : Held (fun W => W4F w W r q a b g5 g6), pp.w.cell? ⟨w.heap.size, 9, none⟩ = some (.int .i64 r.sg) := fun pp => pp.h.k.ar.c9
        have zz10 : ∀ pp : Held (fun W => W4F w W r q a b g5 g6), pp.w.cell? ⟨w.heap.size + 1, 0, none⟩ = some (.string q.m) := fun pp => pp.h.k.aq.c0
        have zz11 : ∀ pp : Held (fun W => W4F w W r q a b g5 g6), pp.w.cell? ⟨w.heap.size + 1, 1, none⟩ = some (.string q.u) := fun pp => pp.h.k.aq.c1
        have zz12 : ∀ pp : Held (fun W => W4F w W r q a b g5 g6), pp.w.cell? ⟨w.heap.size + 1, 2, none⟩ = some (.string q.o) := fun pp => pp.h.k.aq.c2
        have zz13 : ∀ pp : Held (fun W => W4F w W r q a b g5 g6), pp.w.cell? ⟨w.heap.size + 1, 3, none⟩ = some (.int .i64 q.mode) := fun pp => pp.h.k.aq.c3
        have zz14 : ∀ pp : Held (fun W => W4F w W r q a b g5 g6), pp.w.cell? ⟨w.heap.size + 1, 4, none⟩ = some (.bool q.cr) := fun pp => pp.h.k.aq.c4
        have zz15 : ∀ pp : Held (fun W => W4F w W r q a b g5 g6), pp.w.cell? ⟨w.heap.size + 1, 5, none⟩ = some (.slice q.A q.n q.c) := fun pp => pp.h.k.aq.c5
        have zz16 : ∀ pp : Held (fun W => W4F w W r q a b g5 g6), pp.w.cell? ⟨w.heap.size + 1, 6, none⟩ = some (.int .i64 q.cl) := fun pp => pp.h.k.aq.c6
        have zz17 : ∀ pp : Held (fun W => W4F w W r q a b g5 g6), pp.w.cell? ⟨w.heap.size + 1, 7, none⟩ = some (.int .u64 q.tm) := fun pp => pp.h.k.aq.c7
        have zz18 : ∀ pp : Held (fun W => W4F w W r q a b g5 g6), pp.w.cell? ⟨w.heap.size + 1, 8, none⟩ = some (.int .i64 q.gr) := fun pp => pp.h.k.aq.c8
        have zz19 : ∀ pp : Held (fun W => W4F w W r q a b g5 g6), pp.w.cell? ⟨w.heap.size + 1, 9, none⟩ = some (.int .i64 q.sg) := fun pp => pp.h.k.aq.c9
        have ya0 := fun p => (ZA.out p).1
        have ya1 := fun p => (ZA.out p).2.1
        have ya2 := fun p => (ZA.out p).2.2.1
        have ya4 := fun p => (ZA.out p).2.2.2
        have yb0 := fun p => (ZB.out p).1
        have yb1 := fun p => (ZB.out p).2.1
        have yb2 := fun p => (ZB.out p).2.2.1
        have yb4 := fun p => (ZB.out p).2.2.2
        obtain ⟨w1, hwd⟩ : ∃ W, W = wc.drew := ⟨_, rfl⟩
        rw [← hwd]
        have hb : Below wc.heap.size wc w1 := by rw [hwd]; exact (Below.refl _ _).drew
        have HN1 : Hid (W4F w w1 r q a b g5 g6) := HN0.out.next hb
        clear hb hwd
        refine mix_seg [0, 1, 2, 3, 4, 5, 6, 7, 8, 9, 10, 11, 12, 13, 14, 15, 16, 17, 18, 19, 20, 21, 22, 23, 24, 25, 26, 27, 29] (by kernel_rfl) HN1.out ?_
        simp only [segOf, pickOps, pickOp]
        repeat (go_big_quiet_step (fail))
        refine wpQuiet_nil ?_
        refine mix_run 28 (by kernel_rfl) ?_
        simp only [segOf, pickOps, pickOp]
        go_wp2_with fail
        refine MixPost.normal HN1.out ?_
        refine mix_run 30 (by kernel_rfl) ?_
        simp only [segOf, pickOps, pickOp]
        go_wp2_with fail
        refine MixPost.normal HN1.out ?_
        refine mix_run 31 (by kernel_rfl) ?_
        simp only [segOf, pickOps, pickOp]
        go_wp2_with fail
        refine MixPost.normal HN1.out ?_
        refine mix_seg [32, 33] (by kernel_rfl) HN1.out ?_
        simp only [segOf, pickOps, pickOp]
        repeat (go_big_quiet_step (fail))
        refine wpQuiet_nil ?_
        refine mix_done (by kernel_rfl) ?_
        go_wp2_with fail
        go_meet
        exact ⟨by rw [HXF.out], HN1.out.k⟩
      subst h1
      by_cases h2 : ac = bc
      case neg =>
        have HXF : Hid (x = false) := by
          show _ = _
          cases hx : x
          · rfl
          · exact absurd (HSS.out.1 hx).2.2.1 h2
        have hbe : (ac == bc) = false := by rw [beq_eq_false_iff_ne]; exact h2
        clear h2 HSS
        have HN0 := HK0
        refine mix_start (fun W => W4F w W r q a b g5 g6) (by kernel_rfl) ?_
        have hne : Nonempty (Held (fun W => W4F w W r q a b g5 g6)) := ⟨⟨_, HN0.out⟩⟩
        have zz0 : ∀ pp : Held (fun W => W4F w W r q a b g5 g6), pp.w.cell? ⟨w.heap.size, 0, none⟩ = some (.string r.m) := fun pp => pp.h.k.ar.c0
        have zz1 : ∀ pp : Held (fun W => W4F w W r q a b g5 g6), pp.w.cell? ⟨w.heap.size, 1, none⟩ = some (.string r.u) := fun pp => pp.h.k.ar.c1
        have zz2 : ∀ pp : Held (fun W => W4F w W r q a b g5 g6), pp.w.cell? ⟨w.heap.size, 2, none⟩ = some (.string r.o) := fun pp => pp.h.k.ar.c2
        have zz3 : ∀ pp : Held (fun W => W4F w W r q a b g5 g6), pp.w.cell? ⟨w.heap.size, 3, none⟩ = some (.int .i64 r.mode) := fun pp => pp.h.k.ar.c3
        have zz4 : ∀ pp : Held (fun W => W4F w W r q a b g5 g6), pp.w.cell? ⟨w.heap.size, 4, none⟩ = some (.bool r.cr) := fun pp => pp.h.k.ar.c4
        have zz5 : ∀ pp : Held (fun W => W4F w W r q a b g5 g6), pp.w.cell? ⟨w.heap.size, 5, none⟩ = some (.slice r.A r.n r.c) := fun pp => pp.h.k.ar.c5
        have zz6 : ∀ pp : Held (fun W => W4F w W r q a b g5 g6), pp.w.cell? ⟨w.heap.size, 6, none⟩ = some (.int .i64 r.cl) := fun pp => pp.h.k.ar.c6
        have zz7 : ∀ pp : Held (fun W => W4F w W r q a b g5 g6), pp.w.cell? ⟨w.heap.size, 7, none⟩ = some (.int .u64 r.tm) := fun pp => pp.h.k.ar.c7
        have zz8 : ∀ pp : Held (fun W => W4F w W r q a b g5 g6), pp.w.cell? ⟨w.heap.size, 8, none⟩ = some (.int .i64 r.gr) := fun pp => pp.h.k.ar.c8
        have zz9 : ∀ pp : Held (fun W => W4F w W r q a b g5 g6), pp.w.cell? ⟨w.heap.size, 9, none⟩ = some (.int .i64 r.sg) := fun pp => pp.h.k.ar.c9
        have zz10 : ∀ pp : Held (fun W => W4F w W r q a b g5 g6), pp.w.cell? ⟨w.heap.size + 1, 0, none⟩ = some (.string q.m) := fun pp => pp.h.k.aq.c0
        have zz11 : ∀ pp : Held (fun W => W4F w W r q a b g5 g6), pp.w.cell? ⟨w.heap.size + 1, 1, none⟩ = some (.string q.u) := fun pp => pp.h.k.aq.c1
        have zz12 : ∀ pp : Held (fun W => W4F w W r q a b g5 g6), pp.w.cell? ⟨w.heap.size + 1, 2, none⟩ = some (.string q.o) := fun pp => pp.h.k.aq.c2
        have zz13 : ∀ pp : Held (fun W => W4F w W r q a b g5 g6), pp.w.cell? ⟨w.heap.size + 1, 3, none⟩ = some (.int .i64 q.mode) := fun pp => pp.h.k.aq.c3
        have zz14 : ∀ pp : Held (fun W => W4F w W r q a b g5 g6), pp.w.cell? ⟨w.heap.size + 1, 4, none⟩ = some (.bool q.cr) := fun pp => pp.h.k.aq.c4
        have zz15 : ∀ pp : Held (fun W => W4F w W r q a b g5 g6), pp.w.cell? ⟨w.heap.size + 1, 5, none⟩ = some (.slice q.A q.n q.c) := fun pp => pp.h.k.aq.c5
        have zz16 : ∀ pp : Held (fun W => W4F w W r q a b g5 g6), pp.w.cell? ⟨w.heap.size + 1, 6, none⟩ = some (.int .i64 q.cl) := fun pp => pp.h.k.aq.c6
        have zz17 : ∀ pp : Held (fun W => W4F w W r q a b g5 g6), pp.w.cell? ⟨w.heap.size + 1, 7, none⟩ = some (.int .u64 q.tm) := fun pp => pp.h.k.aq.c7
        have zz18 : ∀ pp : Held (fun W => W4F w W r q a b g5 g6), pp.w.cell? ⟨w.heap.size + 1, 8, none⟩ = some (.int .i64 q.gr) := fun pp => pp.h.k.aq.c8
        have zz19 : ∀ pp : Held (fun W => W4F w W r q a b g5 g6), pp.w.cell? ⟨w.heap.size + 1, 9, none⟩ = some (.int .i64 q.sg) := fun pp => pp.h.k.aq.c9
        have ya0 := fun p => (ZA.out p).1
        have ya1 := fun p => (ZA.out p).2.1
        have ya2 := fun p => (ZA.out p).2.2.1
        have ya4 := fun p => (ZA.out p).2.2.2
        have yb0 := fun p => (ZB.out p).1
        have yb1 := fun p => (ZB.out p).2.1
        have yb2 := fun p => (ZB.out p).2.2.1
        have yb4 := fun p => (ZB.out p).2.2.2
        obtain ⟨w1, hwd⟩ : ∃ W, W = wc.drew := ⟨_, rfl⟩
        rw [← hwd]
        have hb : Below wc.heap.size wc w1 := by rw [hwd]; exact (Below.refl _ _).drew
        have HN1 : Hid (W4F w w1 r q a b g5 g6) := HN0.out.next hb
        clear hb hwd
        refine mix_seg [0, 1, 2, 3, 4, 5, 6, 7, 8, 9, 10, 11, 12, 13, 14, 15, 16, 17, 18, 19, 20, 21, 22, 23, 24, 25, 26, 27, 29] (by kernel_rfl) HN1.out ?_
        simp only [segOf, pickOps, pickOp]
        repeat (go_big_quiet_step (fail))
        refine wpQuiet_nil ?_
        refine mix_run 28 (by kernel_rfl) ?_
        simp only [segOf, pickOps, pickOp]
        go_wp2_with fail
        refine MixPost.normal HN1.out ?_
        refine mix_run 30 (by kernel_rfl) ?_
        simp only [segOf, pickOps, pickOp]
        go_wp2_with fail
        refine MixPost.normal HN1.out ?_
        refine mix_run 31 (by kernel_rfl) ?_
        simp only [segOf, pickOps, pickOp]
        go_wp2_with fail
        refine MixPost.normal HN1.out ?_
        refine mix_seg [32, 33] (by kernel_rfl) HN1.out ?_
        simp only [segOf, pickOps, pickOp]
        repeat (go_big_quiet_step (fail))
        refine wpQuiet_nil ?_
        refine mix_done (by kernel_rfl) ?_
        go_wp2_with fail
        go_meet
        exact ⟨by rw [HXF.out], HN1.out.k⟩
      subst h2
      by_cases h3 : am = bm
      case neg =>
        have HXF : Hid (x = false) := by
          show _ = _
          cases hx : x
          · rfl
          · exact absurd (HSS.out.1 hx).2.2.2.1 h3
        have hbe : (am.toList == bm.toList) = false := by
          rw [beq_eq_false_iff_ne]; intro h; exact h3 (WideShapes.bytes_inj (by rw [ByteArray.toList_eq, ByteArray.toList_eq] at h; exact h))
        clear h3 HSS
        have HN0 := HK0
        refine mix_start (fun W => W4F w W r q a b g5 g6) (by kernel_rfl) ?_
        have hne : Nonempty (Held (fun W => W4F w W r q a b g5 g6)) := ⟨⟨_, HN0.out⟩⟩
        have zz0 : ∀ pp : Held (fun W => W4F w W r q a b g5 g6), pp.w.cell? ⟨w.heap.size, 0, none⟩ = some (.string r.m) := fun pp => pp.h.k.ar.c0
        have zz1 : ∀ pp : Held (fun W => W4F w W r q a b g5 g6), pp.w.cell? ⟨w.heap.size, 1, none⟩ = some (.string r.u) := fun pp => pp.h.k.ar.c1
        have zz2 : ∀ pp : Held (fun W => W4F w W r q a b g5 g6), pp.w.cell? ⟨w.heap.size, 2, none⟩ = some (.string r.o) := fun pp => pp.h.k.ar.c2
        have zz3 : ∀ pp : Held (fun W => W4F w W r q a b g5 g6), pp.w.cell? ⟨w.heap.size, 3, none⟩ = some (.int .i64 r.mode) := fun pp => pp.h.k.ar.c3
        have zz4 : ∀ pp : Held (fun W => W4F w W r q a b g5 g6), pp.w.cell? ⟨w.heap.size, 4, none⟩ = some (.bool r.cr) := fun pp => pp.h.k.ar.c4
        have zz5 : ∀ pp : Held (fun W => W4F w W r q a b g5 g6), pp.w.cell? ⟨w.heap.size, 5, none⟩ = some (.slice r.A r.n r.c) := fun pp => pp.h.k.ar.c5
        have zz6 : ∀ pp : Held (fun W => W4F w W r q a b g5 g6), pp.w.cell? ⟨w.heap.size, 6, none⟩ = some (.int .i64 r.cl) := fun pp => pp.h.k.ar.c6
        have zz7 : ∀ pp : Held (fun W => W4F w W r q a b g5 g6), pp.w.cell? ⟨w.heap.size, 7, none⟩ = some (.int .u64 r.tm) := fun pp => pp.h.k.ar.c7
        have zz8 : ∀ pp : Held (fun W => W4F w W r q a b g5 g6), pp.w.cell? ⟨w.heap.size, 8, none⟩ = some (.int .i64 r.gr) := fun pp => pp.h.k.ar.c8
        have zz9 : ∀ pp : Held (fun W => W4F w W r q a b g5 g6), pp.w.cell? ⟨w.heap.size, 9, none⟩ = some (.int .i64 r.sg) := fun pp => pp.h.k.ar.c9
        have zz10 : ∀ pp : Held (fun W => W4F w W r q a b g5 g6), pp.w.cell? ⟨w.heap.size + 1, 0, none⟩ = some (.string q.m) := fun pp => pp.h.k.aq.c0
        have zz11 : ∀ pp : Held (fun W => W4F w W r q a b g5 g6), pp.w.cell? ⟨w.heap.size + 1, 1, none⟩ = some (.string q.u) := fun pp => pp.h.k.aq.c1
        have zz12 : ∀ pp : Held (fun W => W4F w W r q a b g5 g6), pp.w.cell? ⟨w.heap.size + 1, 2, none⟩ = some (.string q.o) := fun pp => pp.h.k.aq.c2
        have zz13 : ∀ pp : Held (fun W => W4F w W r q a b g5 g6), pp.w.cell? ⟨w.heap.size + 1, 3, none⟩ = some (.int .i64 q.mode) := fun pp => pp.h.k.aq.c3
        have zz14 : ∀ pp : Held (fun W => W4F w W r q a b g5 g6), pp.w.cell? ⟨w.heap.size + 1, 4, none⟩ = some (.bool q.cr) := fun pp => pp.h.k.aq.c4
        have zz15 : ∀ pp : Held (fun W => W4F w W r q a b g5 g6), pp.w.cell? ⟨w.heap.size + 1, 5, none⟩ = some (.slice q.A q.n q.c) := fun pp => pp.h.k.aq.c5
        have zz16 : ∀ pp : Held (fun W => W4F w W r q a b g5 g6), pp.w.cell? ⟨w.heap.size + 1, 6, none⟩ = some (.int .i64 q.cl) := fun pp => pp.h.k.aq.c6
        have zz17 : ∀ pp : Held (fun W => W4F w W r q a b g5 g6), pp.w.cell? ⟨w.heap.size + 1, 7, none⟩ = some (.int .u64 q.tm) := fun pp => pp.h.k.aq.c7
        have zz18 : ∀ pp : Held (fun W => W4F w W r q a b g5 g6), pp.w.cell? ⟨w.heap.size + 1, 8, none⟩ = some (.int .i64 q.gr) := fun pp => pp.h.k.aq.c8
        have zz19 : ∀ pp : Held (fun W => W4F w W r q a b g5 g6), pp.w.cell? ⟨w.heap.size + 1, 9, none⟩ = some (.int .i64 q.sg) := fun pp => pp.h.k.aq.c9
        have ya0 := fun p => (ZA.out p).1
        have ya1 := fun p => (ZA.out p).2.1
        have ya2 := fun p => (ZA.out p).2.2.1
        have ya4 := fun p => (ZA.out p).2.2.2
        have yb0 := fun p => (ZB.out p).1
        have yb1 := fun p => (ZB.out p).2.1
        have yb2 := fun p => (ZB.out p).2.2.1
        have yb4 := fun p => (ZB.out p).2.2.2
        obtain ⟨w1, hwd⟩ : ∃ W, W = wc.drew := ⟨_, rfl⟩
        rw [← hwd]
        have hb : Below wc.heap.size wc w1 := by rw [hwd]; exact (Below.refl _ _).drew
        have HN1 : Hid (W4F w w1 r q a b g5 g6) := HN0.out.next hb
        clear hb hwd
        refine mix_seg [0, 1, 2, 3, 4, 5, 6, 7, 8, 9, 10, 11, 12, 13, 14, 15, 16, 17, 18, 19, 20, 21, 22, 23, 24, 25, 26, 27, 29] (by kernel_rfl) HN1.out ?_
        simp only [segOf, pickOps, pickOp]
        repeat (go_big_quiet_step (fail))
        refine wpQuiet_nil ?_
        refine mix_run 28 (by kernel_rfl) ?_
        simp only [segOf, pickOps, pickOp]
        go_wp2_with fail
        refine MixPost.normal HN1.out ?_
        refine mix_run 30 (by kernel_rfl) ?_
        simp only [segOf, pickOps, pickOp]
        go_wp2_with fail
        refine MixPost.normal HN1.out ?_
        refine mix_run 31 (by kernel_rfl) ?_
        simp only [segOf, pickOps, pickOp]
        go_wp2_with fail
        refine MixPost.normal HN1.out ?_
        refine mix_seg [32, 33] (by kernel_rfl) HN1.out ?_
        simp only [segOf, pickOps, pickOp]
        repeat (go_big_quiet_step (fail))
        refine wpQuiet_nil ?_
        refine mix_done (by kernel_rfl) ?_
        go_wp2_with fail
        go_meet
        exact ⟨by rw [HXF.out], HN1.out.k⟩
      subst h3
      have HTX : Hid (x = true ↔ (namesQ r.q).map mk = (namesQ q.q).map mk) := by
        show _ ↔ _
        rw [names_map]
        exact HSS.out.trans ⟨fun h => h.2.2.2.2, fun h => ⟨rfl, rfl, rfl, rfl, h⟩⟩
      clear HSS
      have HN0 := HK0
      refine mix_start (fun W => W4F w W r q a b g5 g6) (by kernel_rfl) ?_
      have hne : Nonempty (Held (fun W => W4F w W r q a b g5 g6)) := ⟨⟨_, HN0.out⟩⟩
      have zz0 : ∀ pp : Held (fun W => W4F w W r q a b g5 g6), pp.w.cell? ⟨w.heap.size, 0, none⟩ = some (.string r.m) := fun pp => pp.h.k.ar.c0
      have zz1 : ∀ pp : Held (fun W => W4F w W r q a b g5 g6), pp.w.cell? ⟨w.heap.size, 1, none⟩ = some (.string r.u) := fun pp => pp.h.k.ar.c1
      have zz2 : ∀ pp : Held (fun W => W4F w W r q a b g5 g6), pp.w.cell? ⟨w.heap.size, 2, none⟩ = some (.string r.o) := fun pp => pp.h.k.ar.c2
      have zz3 : ∀ pp : Held (fun W => W4F w W r q a b g5 g6), pp.w.cell? ⟨w.heap.size, 3, none⟩ = some (.int .i64 r.mode) := fun pp => pp.h.k.ar.c3
      have zz4 : ∀ pp : Held (fun W => W4F w W r q a b g5 g6), pp.w.cell? ⟨w.heap.size, 4, none⟩ = some (.bool r.cr) := fun pp => pp.h.k.ar.c4
      have zz5 : ∀ pp : Held (fun W => W4F w W r q a b g5 g6), pp.w.cell? ⟨w.heap.size, 5, none⟩ = some (.slice r.A r.n r.c) := fun pp => pp.h.k.ar.c5
      have zz6 : ∀ pp : Held (fun W => W4F w W r q a b g5 g6), pp.w.cell? ⟨w.heap.size, 6, none⟩ = some (.int .i64 r.cl) := fun pp => pp.h.k.ar.c6
      have zz7 : ∀ pp : Held (fun W => W4F w W r q a b g5 g6), pp.w.cell? ⟨w.heap.size, 7, none⟩ = some (.int .u64 r.tm) := fun pp => pp.h.k.ar.c7
      have zz8 : ∀ pp : Held (fun W => W4F w W r q a b g5 g6), pp.w.cell? ⟨w.heap.size, 8, none⟩ = some (.int .i64 r.gr) := fun pp => pp.h.k.ar.c8
      have zz9 : ∀ pp : Held (fun W => W4F w W r q a b g5 g6), pp.w.cell? ⟨w.heap.size, 9, none⟩ = some (.int .i64 r.sg) := fun pp => pp.h.k.ar.c9
      have zz10 : ∀ pp : Held (fun W => W4F w W r q a b g5 g6), pp.w.cell? ⟨w.heap.size + 1, 0, none⟩ = some (.string q.m) := fun pp => pp.h.k.aq.c0
      have zz11 : ∀ pp : Held (fun W => W4F w W r q a b g5 g6), pp.w.cell? ⟨w.heap.size + 1, 1, none⟩ = some (.string q.u) := fun pp => pp.h.k.aq.c1
      have zz12 : ∀ pp : Held (fun W => W4F w W r q a b g5 g6), pp.w.cell? ⟨w.heap.size + 1, 2, none⟩ = some (.string q.o) := fun pp => pp.h.k.aq.c2
      have zz13 : ∀ pp : Held (fun W => W4F w W r q a b g5 g6), pp.w.cell? ⟨w.heap.size + 1, 3, none⟩ = some (.int .i64 q.mode) := fun pp => pp.h.k.aq.c3
      have zz14 : ∀ pp : Held (fun W => W4F w W r q a b g5 g6), pp.w.cell? ⟨w.heap.size + 1, 4, none⟩ = some (.bool q.cr) := fun pp => pp.h.k.aq.c4
      have zz15 : ∀ pp : Held (fun W => W4F w W r q a b g5 g6), pp.w.cell? ⟨w.heap.size + 1, 5, none⟩ = some (.slice q.A q.n q.c) := fun pp => pp.h.k.aq.c5
      have zz16 : ∀ pp : Held (fun W => W4F w W r q a b g5 g6), pp.w.cell? ⟨w.heap.size + 1, 6, none⟩ = some (.int .i64 q.cl) := fun pp => pp.h.k.aq.c6
      have zz17 : ∀ pp : Held (fun W => W4F w W r q a b g5 g6), pp.w.cell? ⟨w.heap.size + 1, 7, none⟩ = some (.int .u64 q.tm) := fun pp => pp.h.k.aq.c7
      have zz18 : ∀ pp : Held (fun W => W4F w W r q a b g5 g6), pp.w.cell? ⟨w.heap.size + 1, 8, none⟩ = some (.int .i64 q.gr) := fun pp => pp.h.k.aq.c8
      have zz19 : ∀ pp : Held (fun W => W4F w W r q a b g5 g6), pp.w.cell? ⟨w.heap.size + 1, 9, none⟩ = some (.int .i64 q.sg) := fun pp => pp.h.k.aq.c9
      have ya0 := fun p => (ZA.out p).1
      have ya1 := fun p => (ZA.out p).2.1
      have ya2 := fun p => (ZA.out p).2.2.1
      have ya4 := fun p => (ZA.out p).2.2.2
      have yb0 := fun p => (ZB.out p).1
      have yb1 := fun p => (ZB.out p).2.1
      have yb2 := fun p => (ZB.out p).2.2.1
      have yb4 := fun p => (ZB.out p).2.2.2
      obtain ⟨w1, hwd⟩ : ∃ W, W = wc.drew := ⟨_, rfl⟩
      rw [← hwd]
      have hb : Below wc.heap.size wc w1 := by rw [hwd]; exact (Below.refl _ _).drew
      have HN1 : Hid (W4F w w1 r q a b g5 g6) := HN0.out.next hb
      clear hb hwd
      refine mix_seg [0, 1, 2, 3, 4, 5, 6, 7, 8, 9, 10, 11, 12, 13, 14, 15, 16, 17, 18, 19, 20, 21, 22, 23, 24, 25, 26, 27, 29] (by kernel_rfl) HN1.out ?_
      simp only [segOf, pickOps, pickOp]
      repeat (go_big_quiet_step (fail))
      refine wpQuiet_nil ?_
      refine mix_run 28 (by kernel_rfl) ?_
      simp only [segOf, pickOps, pickOp]
      go_wp2_with fail
      refine (aNames_any r _ HN1.out.k.kr HN1.out.k.env).mono ?_
      rintro e w2 ⟨v, rfl, hs, hb⟩
      have HN2 : Hid (W4F w w2 r q a b g5 g6) := HN1.out.next hb
      obtain ⟨N1, n1, c1, rfl, hn1, hp1⟩ := trow_row hs
      have HN1_ := Lib.hid hn1
      obtain ⟨wa, hwa⟩ : ∃ W, W = w2 := ⟨_, rfl⟩
      have HPA : Hid (SRow wa wa.heap.size N1 ((namesQ r.q).map mk)) := by rw [hwa]; exact hp1
      have HLW : Hid (Below wa.heap.size wa w2) := by rw [hwa]; exact Below.refl _ _
      clear hb hs hn1 hp1 hwa
      go_wp2_with fail
      refine MixPost.normal HN2.out ?_
      refine mix_run 30 (by kernel_rfl) ?_
      simp only [segOf, pickOps, pickOp]
      go_wp2_with fail
      refine (aNames_any q _ HN2.out.k.kq HN2.out.k.env).mono ?_
      rintro e w3 ⟨v, rfl, hs, hb⟩
      have HN3 : Hid (W4F w w3 r q a b g5 g6) := HN2.out.next hb
      obtain ⟨N2, n2, c2, rfl, hn2, hp2⟩ := trow_row hs
      have HN2_ := Lib.hid hn2
      have HPB := Lib.hid hp2
      have HLB : Hid (Below wa.heap.size wa w3) := HLW.out.trans (hb.mono HLW.out.size)
      clear hb hs hn2 hp2
      go_wp2_with fail
      refine MixPost.normal HN3.out ?_
      refine mix_run 31 (by kernel_rfl) ?_
      simp only [segOf, pickOps, pickOp]
      go_wp2_with fail
      refine (Texts_any N1 N2 _ _ c1 c2 wa.heap.size w3.heap.size _ _ x _ HN1_.out HN2_.out (texts_len HN3.out.k.kr rfl) (HPA.out.below HLB.out) HPB.out HTX.out).mono ?_
      rintro e w4 ⟨rfl, nn, hwn⟩
      have hb : Below w3.heap.size w3 w4 := by rw [hwn]; exact below_drewN (Below.refl _ _) _
      have HN4 : Hid (W4F w w4 r q a b g5 g6) := HN3.out.next hb
      clear hb hwn
      go_wp2_with fail
      refine MixPost.normal HN4.out ?_
      refine mix_seg [32, 33] (by kernel_rfl) HN4.out ?_
      simp only [segOf, pickOps, pickOp]
      repeat (go_big_quiet_step (fail))
      refine wpQuiet_nil ?_
      refine mix_done (by kernel_rfl) ?_
      go_wp2_with fail
      go_meet
      exact ⟨rfl, HN4.out.k⟩
    case rest =>
      obtain ⟨rfl, hk⟩ := hcut
      generalize wc = wq at *
      have HN0 := Lib.hid hk
      clear hk HK0 ZA ZB HSS
      have hew0 := want_beq (wantQ r.q) (wantQ q.q) x HX.out
      obtain ⟨o1, ho1⟩ : ∃ b, b = mk (wantQ r.q).o := ⟨_, rfl⟩
      obtain ⟨u1, hu1⟩ : ∃ b, b = mk (wantQ r.q).u := ⟨_, rfl⟩
      obtain ⟨c1, hc1⟩ : ∃ b, b = (wantQ r.q).cr := ⟨_, rfl⟩
      obtain ⟨m1, hm1⟩ : ∃ b, b = mk (wantQ r.q).m := ⟨_, rfl⟩
      obtain ⟨n1, hn1⟩ : ∃ b, b = mk (wantQ r.q).n := ⟨_, rfl⟩
      obtain ⟨o2, ho2⟩ : ∃ b, b = mk (wantQ q.q).o := ⟨_, rfl⟩
      obtain ⟨u2, hu2⟩ : ∃ b, b = mk (wantQ q.q).u := ⟨_, rfl⟩
      obtain ⟨c2, hc2⟩ : ∃ b, b = (wantQ q.q).cr := ⟨_, rfl⟩
      obtain ⟨m2, hm2⟩ : ∃ b, b = mk (wantQ q.q).m := ⟨_, rfl⟩
      obtain ⟨n2, hn2⟩ : ∃ b, b = mk (wantQ q.q).n := ⟨_, rfl⟩
      rw [← ho1, ← hu1, ← hc1, ← hm1, ← hn1, ← ho2, ← hu2, ← hc2, ← hm2, ← hn2] at hew0
      have hew : ∀ W, (binOp .eql 40 (.agg #[.string o1, .string u1, .bool c1, .string m1, .string n1]) (.agg #[.string o2, .string u2, .bool c2, .string m2, .string n2])).run Tryz.prog W = .ok (.bool x) W := fun W => by rw [eql_want, hew0]
      have HW1 : Hid ((wvOf (wantQ r.q)).v = .agg #[.string o1, .string u1, .bool c1, .string m1, .string n1]) := by show _ = _; rw [ho1, hu1, hc1, hm1, hn1]; rfl
      have HW2 : Hid ((wvOf (wantQ q.q)).v = .agg #[.string o2, .string u2, .bool c2, .string m2, .string n2]) := by show _ = _; rw [ho2, hu2, hc2, hm2, hn2]; rfl
      obtain ⟨k1, hk1⟩ : ∃ b, b = mk (keyQ r.q) := ⟨_, rfl⟩
      obtain ⟨k2, hk2⟩ : ∃ b, b = mk (keyQ q.q) := ⟨_, rfl⟩
      have HK1 := Lib.hid hk1
      have HK2 := Lib.hid hk2
      have HKS : Hid (x = true → k1 = k2) := fun h => by rw [hk1, hk2, key_x HCA.out.symm HCB.out.symm (HX.out.1 h)]
      clear hew0 ho1 hu1 hc1 hm1 hn1 ho2 hu2 hc2 hm2 hn2 hk1 hk2 HX
      by_cases hkk : k1 = k2
      case neg =>
        have hx : x = false := by
          cases hx : x
          · rfl
          · exact absurd (HKS.out hx) hkk
        have hbe : (k1.toList == k2.toList) = false := by
          rw [beq_eq_false_iff_ne]; intro h; exact hkk (WideShapes.bytes_inj (by rw [ByteArray.toList_eq, ByteArray.toList_eq] at h; exact h))
        subst hx
        clear HKS hkk
        go_wp2_with fail
        refine mix_start (fun W => W2F w W r q) (by kernel_rfl) ?_
        have hne : Nonempty (Held (fun W => W2F w W r q)) := ⟨⟨_, HN0.out⟩⟩
        have zz0 : ∀ pp : Held (fun W => W2F w W r q), pp.w.cell? ⟨w.heap.size, 0, none⟩ = some (.string r.m) := fun pp => pp.h.ar.c0
        have zz1 : ∀ pp : Held (fun W => W2F w W r q), pp.w.cell? ⟨w.heap.size, 1, none⟩ = some (.string r.u) := fun pp => pp.h.ar.c1
        have zz2 : ∀ pp : Held (fun W => W2F w W r q), pp.w.cell? ⟨w.heap.size, 2, none⟩ = some (.string r.o) := fun pp => pp.h.ar.c2
        have zz3 : ∀ pp : Held (fun W => W2F w W r q), pp.w.cell? ⟨w.heap.size, 3, none⟩ = some (.int .i64 r.mode) := fun pp => pp.h.ar.c3
        have zz4 : ∀ pp : Held (fun W => W2F w W r q), pp.w.cell? ⟨w.heap.size, 4, none⟩ = some (.bool r.cr) := fun pp => pp.h.ar.c4
        have zz5 : ∀ pp : Held (fun W => W2F w W r q), pp.w.cell? ⟨w.heap.size, 5, none⟩ = some (.slice r.A r.n r.c) := fun pp => pp.h.ar.c5
        have zz6 : ∀ pp : Held (fun W => W2F w W r q), pp.w.cell? ⟨w.heap.size, 6, none⟩ = some (.int .i64 r.cl) := fun pp => pp.h.ar.c6
        have zz7 : ∀ pp : Held (fun W => W2F w W r q), pp.w.cell? ⟨w.heap.size, 7, none⟩ = some (.int .u64 r.tm) := fun pp => pp.h.ar.c7
        have zz8 : ∀ pp : Held (fun W => W2F w W r q), pp.w.cell? ⟨w.heap.size, 8, none⟩ = some (.int .i64 r.gr) := fun pp => pp.h.ar.c8
        have zz9 : ∀ pp : Held (fun W => W2F w W r q), pp.w.cell? ⟨w.heap.size, 9, none⟩ = some (.int .i64 r.sg) := fun pp => pp.h.ar.c9
        have zz10 : ∀ pp : Held (fun W => W2F w W r q), pp.w.cell? ⟨w.heap.size + 1, 0, none⟩ = some (.string q.m) := fun pp => pp.h.aq.c0
        have zz11 : ∀ pp : Held (fun W => W2F w W r q), pp.w.cell? ⟨w.heap.size + 1, 1, none⟩ = some (.string q.u) := fun pp => pp.h.aq.c1
        have zz12 : ∀ pp : Held (fun W => W2F w W r q), pp.w.cell? ⟨w.heap.size + 1, 2, none⟩ = some (.string q.o) := fun pp => pp.h.aq.c2
        have zz13 : ∀ pp : Held (fun W => W2F w W r q), pp.w.cell? ⟨w.heap.size + 1, 3, none⟩ = some (.int .i64 q.mode) := fun pp => pp.h.aq.c3
        have zz14 : ∀ pp : Held (fun W => W2F w W r q), pp.w.cell? ⟨w.heap.size + 1, 4, none⟩ = some (.bool q.cr) := fun pp => pp.h.aq.c4
        have zz15 : ∀ pp : Held (fun W => W2F w W r q), pp.w.cell? ⟨w.heap.size + 1, 5, none⟩ = some (.slice q.A q.n q.c) := fun pp => pp.h.aq.c5
        have zz16 : ∀ pp : Held (fun W => W2F w W r q), pp.w.cell? ⟨w.heap.size + 1, 6, none⟩ = some (.int .i64 q.cl) := fun pp => pp.h.aq.c6
        have zz17 : ∀ pp : Held (fun W => W2F w W r q), pp.w.cell? ⟨w.heap.size + 1, 7, none⟩ = some (.int .u64 q.tm) := fun pp => pp.h.aq.c7
        have zz18 : ∀ pp : Held (fun W => W2F w W r q), pp.w.cell? ⟨w.heap.size + 1, 8, none⟩ = some (.int .i64 q.gr) := fun pp => pp.h.aq.c8
        have zz19 : ∀ pp : Held (fun W => W2F w W r q), pp.w.cell? ⟨w.heap.size + 1, 9, none⟩ = some (.int .i64 q.sg) := fun pp => pp.h.aq.c9
        obtain ⟨w1, hwq⟩ : ∃ W, W = wq.drew := ⟨_, rfl⟩
        rw [← hwq]
        have hb : Below wq.heap.size wq w1 := by rw [hwq]; exact (Below.refl _ _).drew
        have HN1 : Hid (W2F w w1 r q) := HN0.out.next hb
        clear hb hwq
        refine mix_seg [0, 2, 5] (by kernel_rfl) HN1.out ?_
        simp only [segOf, pickOps, pickOp]
        repeat (go_big_quiet_step (fail))
        refine wpQuiet_nil ?_
        refine mix_run 1 (by kernel_rfl) ?_
        simp only [segOf, pickOps, pickOp]
        go_wp2_with fail
        refine (aWant_any r _ HN1.out.kr HN1.out.env).mono ?_
        rintro e w2 ⟨rfl, hb⟩
        rw [HW1.out]
        have HN2 : Hid (W2F w w2 r q) := HN1.out.next hb
        clear hb
        go_wp2_with fail
        refine MixPost.normal HN2.out ?_
        refine mix_run 3 (by kernel_rfl) ?_
        simp only [segOf, pickOps, pickOp]
        go_wp2_with fail
        refine (aWant_any q _ HN2.out.kq HN2.out.env).mono ?_
        rintro e w3 ⟨rfl, hb⟩
        rw [HW2.out]
        have HN3 : Hid (W2F w w3 r q) := HN2.out.next hb
        clear hb
        go_wp2_with fail
        refine MixPost.normal HN3.out ?_
        refine mix_seg [4, 6, 7, 8, 10] (by kernel_rfl) HN3.out ?_
        simp only [segOf, pickOps, pickOp]
        repeat (go_big_quiet_step (fail))
        refine wpQuiet_nil ?_
        refine mix_run 9 (by kernel_rfl) ?_
        simp only [segOf, pickOps, pickOp]
        go_wp2_with fail
        refine (aKey_any r _ HN3.out.kr HN3.out.env).mono ?_
        rintro e w4 ⟨rfl, hb⟩
        rw [← HK1.out]
        have HN4 : Hid (W2F w w4 r q) := HN3.out.next hb
        clear hb
        go_wp2_with fail
        refine MixPost.normal HN4.out ?_
        refine mix_run 11 (by kernel_rfl) ?_
        simp only [segOf, pickOps, pickOp]
        go_wp2_with fail
        refine (aKey_any q _ HN4.out.kq HN4.out.env).mono ?_
        rintro e w5 ⟨rfl, hb⟩
        rw [← HK2.out]
        have HN5 : Hid (W2F w w5 r q) := HN4.out.next hb
        clear hb
        go_wp2_with fail
        refine MixPost.normal HN5.out ?_
        refine mix_seg [12, 13, 14, 15, 16, 17, 18] (by kernel_rfl) HN5.out ?_
        simp only [segOf, pickOps, pickOp]
        repeat (go_big_quiet_step (fail))
        refine wpQuiet_nil ?_
        refine mix_run 19 (by kernel_rfl) ?_
        simp only [segOf, pickOps, pickOp]
        go_wp2_with fail
        refine (awake8_any _ HN5.out.env).mono ?_
        rintro e w6 ⟨rfl, hb⟩
        have HN6 : Hid (W2F w w6 r q) := HN5.out.next hb
        clear hb
        go_wp2_with fail
        refine MixPost.normal HN6.out ?_
        refine mix_seg [20, 21] (by kernel_rfl) HN6.out ?_
        simp only [segOf, pickOps, pickOp]
        repeat (go_big_quiet_step (fail))
        refine wpQuiet_nil ?_
        refine mix_done (by kernel_rfl) ?_
        go_wp2
        go_ret
        exact ⟨rfl, HN6.out.bel⟩
      subst hkk
      clear HKS
      cases x
      case true =>
        go_wp2_with fail
        refine mix_start (fun W => W2F w W r q) (by kernel_rfl) ?_
        have hne : Nonempty (Held (fun W => W2F w W r q)) := ⟨⟨_, HN0.out⟩⟩
        have zz0 : ∀ pp : Held (fun W => W2F w W r q), pp.w.cell? ⟨w.heap.size, 0, none⟩ = some (.string r.m) := fun pp => pp.h.ar.c0
        have zz1 : ∀ pp : Held (fun W => W2F w W r q), pp.w.cell? ⟨w.heap.size, 1, none⟩ = some (.string r.u) := fun pp => pp.h.ar.c1
        have zz2 : ∀ pp : Held (fun W => W2F w W r q), pp.w.cell? ⟨w.heap.size, 2, none⟩ = some (.string r.o) := fun pp => pp.h.ar.c2
        have zz3 : ∀ pp : Held (fun W => W2F w W r q), pp.w.cell? ⟨w.heap.size, 3, none⟩ = some (.int .i64 r.mode) := fun pp => pp.h.ar.c3
        have zz4 : ∀ pp : Held (fun W => W2F w W r q), pp.w.cell? ⟨w.heap.size, 4, none⟩ = some (.bool r.cr) := fun pp => pp.h.ar.c4
        have zz5 : ∀ pp : Held (fun W => W2F w W r q), pp.w.cell? ⟨w.heap.size, 5, none⟩ = some (.slice r.A r.n r.c) := fun pp => pp.h.ar.c5
        have zz6 : ∀ pp : Held (fun W => W2F w W r q), pp.w.cell? ⟨w.heap.size, 6, none⟩ = some (.int .i64 r.cl) := fun pp => pp.h.ar.c6
        have zz7 : ∀ pp : Held (fun W => W2F w W r q), pp.w.cell? ⟨w.heap.size, 7, none⟩ = some (.int .u64 r.tm) := fun pp => pp.h.ar.c7
        have zz8 : ∀ pp : Held (fun W => W2F w W r q), pp.w.cell? ⟨w.heap.size, 8, none⟩ = some (.int .i64 r.gr) := fun pp => pp.h.ar.c8
        have zz9 : ∀ pp : Held (fun W => W2F w W r q), pp.w.cell? ⟨w.heap.size, 9, none⟩ = some (.int .i64 r.sg) := fun pp => pp.h.ar.c9
        have zz10 : ∀ pp : Held (fun W => W2F w W r q), pp.w.cell? ⟨w.heap.size + 1, 0, none⟩ = some (.string q.m) := fun pp => pp.h.aq.c0
        have zz11 : ∀ pp : Held (fun W => W2F w W r q), pp.w.cell? ⟨w.heap.size + 1, 1, none⟩ = some (.string q.u) := fun pp => pp.h.aq.c1
        have zz12 : ∀ pp : Held (fun W => W2F w W r q), pp.w.cell? ⟨w.heap.size + 1, 2, none⟩ = some (.string q.o) := fun pp => pp.h.aq.c2
        have zz13 : ∀ pp : Held (fun W => W2F w W r q), pp.w.cell? ⟨w.heap.size + 1, 3, none⟩ = some (.int .i64 q.mode) := fun pp => pp.h.aq.c3
        have zz14 : ∀ pp : Held (fun W => W2F w W r q), pp.w.cell? ⟨w.heap.size + 1, 4, none⟩ = some (.bool q.cr) := fun pp => pp.h.aq.c4
        have zz15 : ∀ pp : Held (fun W => W2F w W r q), pp.w.cell? ⟨w.heap.size + 1, 5, none⟩ = some (.slice q.A q.n q.c) := fun pp => pp.h.aq.c5
        have zz16 : ∀ pp : Held (fun W => W2F w W r q), pp.w.cell? ⟨w.heap.size + 1, 6, none⟩ = some (.int .i64 q.cl) := fun pp => pp.h.aq.c6
        have zz17 : ∀ pp : Held (fun W => W2F w W r q), pp.w.cell? ⟨w.heap.size + 1, 7, none⟩ = some (.int .u64 q.tm) := fun pp => pp.h.aq.c7
        have zz18 : ∀ pp : Held (fun W => W2F w W r q), pp.w.cell? ⟨w.heap.size + 1, 8, none⟩ = some (.int .i64 q.gr) := fun pp => pp.h.aq.c8
        have zz19 : ∀ pp : Held (fun W => W2F w W r q), pp.w.cell? ⟨w.heap.size + 1, 9, none⟩ = some (.int .i64 q.sg) := fun pp => pp.h.aq.c9
        obtain ⟨w1, hwq⟩ : ∃ W, W = wq.drew := ⟨_, rfl⟩
        rw [← hwq]
        have hb : Below wq.heap.size wq w1 := by rw [hwq]; exact (Below.refl _ _).drew
        have HN1 : Hid (W2F w w1 r q) := HN0.out.next hb
        clear hb hwq
        refine mix_seg [0, 2, 5] (by kernel_rfl) HN1.out ?_
        simp only [segOf, pickOps, pickOp]
        repeat (go_big_quiet_step (fail))
        refine wpQuiet_nil ?_
        refine mix_run 1 (by kernel_rfl) ?_
        simp only [segOf, pickOps, pickOp]
        go_wp2_with fail
        refine (aWant_any r _ HN1.out.kr HN1.out.env).mono ?_
        rintro e w2 ⟨rfl, hb⟩
        rw [HW1.out]
        have HN2 : Hid (W2F w w2 r q) := HN1.out.next hb
        clear hb
        go_wp2_with fail
        refine MixPost.normal HN2.out ?_
        refine mix_run 3 (by kernel_rfl) ?_
        simp only [segOf, pickOps, pickOp]
        go_wp2_with fail
        refine (aWant_any q _ HN2.out.kq HN2.out.env).mono ?_
        rintro e w3 ⟨rfl, hb⟩
        rw [HW2.out]
        have HN3 : Hid (W2F w w3 r q) := HN2.out.next hb
        clear hb
        go_wp2_with fail
        refine MixPost.normal HN3.out ?_
        refine mix_seg [4, 6, 7, 8, 10] (by kernel_rfl) HN3.out ?_
        simp only [segOf, pickOps, pickOp]
        repeat (go_big_quiet_step (fail))
        refine wpQuiet_nil ?_
        refine mix_run 9 (by kernel_rfl) ?_
        simp only [segOf, pickOps, pickOp]
        go_wp2_with fail
        refine (aKey_any r _ HN3.out.kr HN3.out.env).mono ?_
        rintro e w4 ⟨rfl, hb⟩
        rw [← HK1.out]
        have HN4 : Hid (W2F w w4 r q) := HN3.out.next hb
        clear hb
        go_wp2_with fail
        refine MixPost.normal HN4.out ?_
        refine mix_run 11 (by kernel_rfl) ?_
        simp only [segOf, pickOps, pickOp]
        go_wp2_with fail
        refine (aKey_any q _ HN4.out.kq HN4.out.env).mono ?_
        rintro e w5 ⟨rfl, hb⟩
        rw [← HK2.out]
        have HN5 : Hid (W2F w w5 r q) := HN4.out.next hb
        clear hb
        go_wp2_with fail
        refine MixPost.normal HN5.out ?_
        refine mix_seg [12, 13, 14, 15, 16, 17, 18] (by kernel_rfl) HN5.out ?_
        simp only [segOf, pickOps, pickOp]
        repeat (go_big_quiet_step (fail))
        refine wpQuiet_nil ?_
        refine mix_run 19 (by kernel_rfl) ?_
        simp only [segOf, pickOps, pickOp]
        go_wp2_with fail
        refine (awake8_any _ HN5.out.env).mono ?_
        rintro e w6 ⟨rfl, hb⟩
        have HN6 : Hid (W2F w w6 r q) := HN5.out.next hb
        clear hb
        go_wp2_with fail
        refine MixPost.normal HN6.out ?_
        refine mix_seg [20, 21] (by kernel_rfl) HN6.out ?_
        simp only [segOf, pickOps, pickOp]
        repeat (go_big_quiet_step (fail))
        refine wpQuiet_nil ?_
        refine mix_done (by kernel_rfl) ?_
        go_wp2
        go_ret
        exact ⟨rfl, HN6.out.bel⟩
      case false =>
        go_wp2_with fail
        refine mix_start (fun W => W2F w W r q) (by kernel_rfl) ?_
        have hne : Nonempty (Held (fun W => W2F w W r q)) := ⟨⟨_, HN0.out⟩⟩
        have zz0 : ∀ pp : Held (fun W => W2F w W r q), pp.w.cell? ⟨w.heap.size, 0, none⟩ = some (.string r.m) := fun pp => pp.h.ar.c0
        have zz1 : ∀ pp : Held (fun W => W2F w W r q), pp.w.cell? ⟨w.heap.size, 1, none⟩ = some (.string r.u) := fun pp => pp.h.ar.c1
        have zz2 : ∀ pp : Held (fun W => W2F w W r q), pp.w.cell? ⟨w.heap.size, 2, none⟩ = some (.string r.o) := fun pp => pp.h.ar.c2
        have zz3 : ∀ pp : Held (fun W => W2F w W r q), pp.w.cell? ⟨w.heap.size, 3, none⟩ = some (.int .i64 r.mode) := fun pp => pp.h.ar.c3
        have zz4 : ∀ pp : Held (fun W => W2F w W r q), pp.w.cell? ⟨w.heap.size, 4, none⟩ = some (.bool r.cr) := fun pp => pp.h.ar.c4
        have zz5 : ∀ pp : Held (fun W => W2F w W r q), pp.w.cell? ⟨w.heap.size, 5, none⟩ = some (.slice r.A r.n r.c) := fun pp => pp.h.ar.c5
        have zz6 : ∀ pp : Held (fun W => W2F w W r q), pp.w.cell? ⟨w.heap.size, 6, none⟩ = some (.int .i64 r.cl) := fun pp => pp.h.ar.c6
        have zz7 : ∀ pp : Held (fun W => W2F w W r q), pp.w.cell? ⟨w.heap.size, 7, none⟩ = some (.int .u64 r.tm) := fun pp => pp.h.ar.c7
        have zz8 : ∀ pp : Held (fun W => W2F w W r q), pp.w.cell? ⟨w.heap.size, 8, none⟩ = some (.int .i64 r.gr) := fun pp => pp.h.ar.c8
        have zz9 : ∀ pp : Held (fun W => W2F w W r q), pp.w.cell? ⟨w.heap.size, 9, none⟩ = some (.int .i64 r.sg) := fun pp => pp.h.ar.c9
        have zz10 : ∀ pp : Held (fun W => W2F w W r q), pp.w.cell? ⟨w.heap.size + 1, 0, none⟩ = some (.string q.m) := fun pp => pp.h.aq.c0
        have zz11 : ∀ pp : Held (fun W => W2F w W r q), pp.w.cell? ⟨w.heap.size + 1, 1, none⟩ = some (.string q.u) := fun pp => pp.h.aq.c1
        have zz12 : ∀ pp : Held (fun W => W2F w W r q), pp.w.cell? ⟨w.heap.size + 1, 2, none⟩ = some (.string q.o) := fun pp => pp.h.aq.c2
        have zz13 : ∀ pp : Held (fun W => W2F w W r q), pp.w.cell? ⟨w.heap.size + 1, 3, none⟩ = some (.int .i64 q.mode) := fun pp => pp.h.aq.c3
        have zz14 : ∀ pp : Held (fun W => W2F w W r q), pp.w.cell? ⟨w.heap.size + 1, 4, none⟩ = some (.bool q.cr) := fun pp => pp.h.aq.c4
        have zz15 : ∀ pp : Held (fun W => W2F w W r q), pp.w.cell? ⟨w.heap.size + 1, 5, none⟩ = some (.slice q.A q.n q.c) := fun pp => pp.h.aq.c5
        have zz16 : ∀ pp : Held (fun W => W2F w W r q), pp.w.cell? ⟨w.heap.size + 1, 6, none⟩ = some (.int .i64 q.cl) := fun pp => pp.h.aq.c6
        have zz17 : ∀ pp : Held (fun W => W2F w W r q), pp.w.cell? ⟨w.heap.size + 1, 7, none⟩ = some (.int .u64 q.tm) := fun pp => pp.h.aq.c7
        have zz18 : ∀ pp : Held (fun W => W2F w W r q), pp.w.cell? ⟨w.heap.size + 1, 8, none⟩ = some (.int .i64 q.gr) := fun pp => pp.h.aq.c8
        have zz19 : ∀ pp : Held (fun W => W2F w W r q), pp.w.cell? ⟨w.heap.size + 1, 9, none⟩ = some (.int .i64 q.sg) := fun pp => pp.h.aq.c9
        obtain ⟨w1, hwq⟩ : ∃ W, W = wq.drew := ⟨_, rfl⟩
        rw [← hwq]
        have hb : Below wq.heap.size wq w1 := by rw [hwq]; exact (Below.refl _ _).drew
        have HN1 : Hid (W2F w w1 r q) := HN0.out.next hb
        clear hb hwq
        refine mix_seg [0, 2, 5] (by kernel_rfl) HN1.out ?_
        simp only [segOf, pickOps, pickOp]
        repeat (go_big_quiet_step (fail))
        refine wpQuiet_nil ?_
        refine mix_run 1 (by kernel_rfl) ?_
        simp only [segOf, pickOps, pickOp]
        go_wp2_with fail
        refine (aWant_any r _ HN1.out.kr HN1.out.env).mono ?_
        rintro e w2 ⟨rfl, hb⟩
        rw [HW1.out]
        have HN2 : Hid (W2F w w2 r q) := HN1.out.next hb
        clear hb
        go_wp2_with fail
        refine MixPost.normal HN2.out ?_
        refine mix_run 3 (by kernel_rfl) ?_
        simp only [segOf, pickOps, pickOp]
        go_wp2_with fail
        refine (aWant_any q _ HN2.out.kq HN2.out.env).mono ?_
        rintro e w3 ⟨rfl, hb⟩
        rw [HW2.out]
        have HN3 : Hid (W2F w w3 r q) := HN2.out.next hb
        clear hb
        go_wp2_with fail
        refine MixPost.normal HN3.out ?_
        refine mix_seg [4, 6, 7, 8, 10] (by kernel_rfl) HN3.out ?_
        simp only [segOf, pickOps, pickOp]
        repeat (go_big_quiet_step (fail))
        refine wpQuiet_nil ?_
        refine mix_run 9 (by kernel_rfl) ?_
        simp only [segOf, pickOps, pickOp]
        go_wp2_with fail
        refine (aKey_any r _ HN3.out.kr HN3.out.env).mono ?_
        rintro e w4 ⟨rfl, hb⟩
        rw [← HK1.out]
        have HN4 : Hid (W2F w w4 r q) := HN3.out.next hb
        clear hb
        go_wp2_with fail
        refine MixPost.normal HN4.out ?_
        refine mix_run 11 (by kernel_rfl) ?_
        simp only [segOf, pickOps, pickOp]
        go_wp2_with fail
        refine (aKey_any q _ HN4.out.kq HN4.out.env).mono ?_
        rintro e w5 ⟨rfl, hb⟩
        rw [← HK2.out]
        have HN5 : Hid (W2F w w5 r q) := HN4.out.next hb
        clear hb
        go_wp2_with fail
        refine MixPost.normal HN5.out ?_
        refine mix_seg [12, 13, 14, 15, 16, 17, 18] (by kernel_rfl) HN5.out ?_
        simp only [segOf, pickOps, pickOp]
        repeat (go_big_quiet_step (fail))
        refine wpQuiet_nil ?_
        refine mix_run 19 (by kernel_rfl) ?_
        simp only [segOf, pickOps, pickOp]
        go_wp2_with fail
        refine (awake8_any _ HN5.out.env).mono ?_
        rintro e w6 ⟨rfl, hb⟩
        have HN6 : Hid (W2F w w6 r q) := HN5.out.next hb
        clear hb
        go_wp2_with fail
        refine MixPost.normal HN6.out ?_
        refine mix_seg [20, 21] (by kernel_rfl) HN6.out ?_
        simp only [segOf, pickOps, pickOp]
        repeat (go_big_quiet_step (fail))
        refine wpQuiet_nil ?_
        refine mix_done (by kernel_rfl) ?_
        go_wp2
        go_ret
        exact ⟨rfl, HN6.out.bel⟩
end Go.Proofs.YticedcnmajcgbaaGreatDoor
