/-
  Contracts of the document's own Check and Show (layer 4), over this seat's program, by the same plain mathematics as target's; nothing that was there has turned. Conditions: path and query have at most 100,000 bytes.
-/
import Derived.Test.YtfamllkmmiajoaaDoorHRefFits
import Derived.Test.YtfamllkmmiajoaaDoorGRef2
namespace Go.Proofs.YtfamllkmmiajoaaDoor
open Go.RowKit

theorem refShow_as (s h : ByteArray) (p : Int) (t : ByteArray) (w : World) (hh : h.size ≤ maxLen) (ht : t = mk (showL s.data.toList h.data.toList p)) :
    Calls Tryd.prog 35 #[.agg #[.string s, .string h, .int .i64 p]] w fun e w' => e = .returned (.string t) ∧ Below w.heap.size w w' := by rw [ht]; exact refShow_any s h p w hh
theorem refFits_as (s h : ByteArray) (p : Int) (pa q : ByteArray) (b : Bool) (w : World) (hpa : pa.size ≤ 100000) (hq : q.size ≤ 100000) (hb : b = (pathL pa.data.toList && queryL q.data.toList)) :
    Calls Tryd.prog 44 #[urlV s h p pa q] w fun e w' => e = .returned (.bool b) ∧ Below w.heap.size w w' := by rw [hb]; exact refFits_any s h p pa q w hpa hq
theorem refCheck_as (s h : ByteArray) (p : Int) (b : Bool) (w : World) (hh : h.size ≤ maxLen) (hb : b = checkL s.data.toList h.data.toList p) :
    Calls Tryd.prog 43 #[.agg #[.string s, .string h, .int .i64 p]] w fun e w' => e = .returned (.bool b) ∧ Below w.heap.size w w' := by rw [hb]; exact refCheck_any s h p w hh
theorem ok_bits (s h : ByteArray) (p : Int) (pa q t : ByteArray) (b1 b2 : Bool) (h1 : b1 = checkL s.data.toList h.data.toList p) (h2 : b2 = (pathL pa.data.toList && queryL q.data.toList)) (ht : t = mk (showL s.data.toList h.data.toList p)) :
    (urlOf s h p pa q).ok = (b1 && b2 && decide (t.size + pa.size + q.size ≤ 512)) := by
  have hl : (urlOf s h p pa q).len = t.size + pa.size + q.size := by
    rw [ht, mk_size]; unfold Url.len urlOf; simp
  rw [ok_at, hl, h1, h2, Bool.and_assoc (checkL _ _ _)]

set_option maxRecDepth 100000 in
set_option maxHeartbeats 8000000 in
theorem refTCheck_any (s h : ByteArray) (p : Int) (pa q : ByteArray) (w : World) (hh : h.size ≤ maxLen) (hpa : pa.size ≤ 100000) (hq : q.size ≤ 100000) :
    Calls Tryd.prog 18 #[urlV s h p pa q] w fun e w' => e = .returned (.bool (urlOf s h p pa q).ok) ∧ Below w.heap.size w w' := by
  have hb : Below w.heap.size w (w.alloc (.cells #[.string s, .string h, .int .i64 p, .string pa, .string q] 27)) := (Below.refl _ _).alloc (Nat.le_refl _) _
  have ho := UrlAt.new w s h p pa q 27
  have HB := Lib.hid hb
  clear hb
  obtain ⟨b1, hb1⟩ : ∃ b, b = checkL s.data.toList h.data.toList p := ⟨_, rfl⟩
  obtain ⟨b2, hb2⟩ : ∃ b, b = (pathL pa.data.toList && queryL q.data.toList) := ⟨_, rfl⟩
  obtain ⟨t, ht⟩ : ∃ t, t = mk (showL s.data.toList h.data.toList p) := ⟨_, rfl⟩
  have htz : t.size ≤ 270 := by rw [ht, mk_size]; exact show_len
  have HK := Lib.hid (ok_bits s h p pa q t b1 b2 hb1 hb2 ht)
  have H1 := Lib.hid hb1
  have H2 := Lib.hid hb2
  have HT := Lib.hid ht
  clear hb1 hb2 ht
  unfold urlV
  have hne : Nonempty (Held (fun W => UrlAt W w.heap.size s h p pa q)) := ⟨⟨_, ho⟩⟩
  have hx0 : ∀ z : Held (fun W => UrlAt W w.heap.size s h p pa q), z.w.cell? ⟨w.heap.size, 0, none⟩ = some (.string s) := fun z => z.h.c0
  have hx1 : ∀ z : Held (fun W => UrlAt W w.heap.size s h p pa q), z.w.cell? ⟨w.heap.size, 1, none⟩ = some (.string h) := fun z => z.h.c1
  have hx2 : ∀ z : Held (fun W => UrlAt W w.heap.size s h p pa q), z.w.cell? ⟨w.heap.size, 2, none⟩ = some (.int .i64 p) := fun z => z.h.c2
  have hx3 : ∀ z : Held (fun W => UrlAt W w.heap.size s h p pa q), z.w.cell? ⟨w.heap.size, 3, none⟩ = some (.string pa) := fun z => z.h.c3
  have hx4 : ∀ z : Held (fun W => UrlAt W w.heap.size s h p pa q), z.w.cell? ⟨w.heap.size, 4, none⟩ = some (.string q) := fun z => z.h.c4
  cases b1
  · go_enter Tryd.func18, Tryd.ntmps18
    go_wp2_with fail
    refine mix_start (fun W => UrlAt W w.heap.size s h p pa q) (by kernel_rfl) ?_
    refine mix_seg [0, 1] (by kernel_rfl) ho.drew ?_
    simp only [segOf, pickOps, pickOp]
    repeat (go_big_quiet_step (fail))
    refine wpQuiet_nil ?_
    refine mix_run 2 (by kernel_rfl) ?_
    simp only [segOf, pickOps, pickOp]
    go_wp2_with fail
    refine (refCheck_as s h p _ _ hh H1.out).mono ?_
    rintro e w1 ⟨rfl, hb1⟩
    have ho1 : UrlAt w1 w.heap.size s h p pa q := ho.drew.below hb1 ho.drew.lt
    have HB1 : Hid (Below w.heap.size w w1) := HB.out.drew.trans (hb1.mono HB.out.drew.size)
    clear hb1
    go_wp2_with fail
    refine MixPost.normal ho1 ?_
    refine mix_seg [3, 4, 5, 6, 7, 8, 9, 10, 11, 12, 13, 14, 15, 16] (by kernel_rfl) ho1 ?_
    simp only [segOf, pickOps, pickOp]
    repeat (go_big_quiet_step (fail))
    refine wpQuiet_nil ?_
    refine mix_run 17 (by kernel_rfl) ?_
    simp only [segOf, pickOps, pickOp]
    go_wp2_with fail
    refine MixPost.normal ho1 ?_
    refine mix_seg [18, 19, 20, 21, 24, 25, 26, 28, 29, 30] (by kernel_rfl) ho1 ?_
    simp only [segOf, pickOps, pickOp]
    repeat (go_big_quiet_step (fail))
    refine wpQuiet_nil ?_
    refine mix_run 22 (by kernel_rfl) ?_
    simp only [segOf, pickOps, pickOp]
    go_wp2_with fail
    refine MixPost.normal ho1 ?_
    refine mix_seg [23, 27, 31, 32, 33, 34] (by kernel_rfl) ho1 ?_
    simp only [segOf, pickOps, pickOp]
    repeat (go_big_quiet_step (fail))
    refine wpQuiet_nil ?_
    refine mix_done (by kernel_rfl) ?_
    go_wp2
    go_ret
    exact ⟨ret_bool (by rw [HK.out]; rfl), HB1.out⟩
  by_cases hpz : pa.size ≤ 512
  rotate_left
  · have hd : decide ((pa.size : Int) ≤ 512) = false := by simp; omega
    go_enter Tryd.func18, Tryd.ntmps18
    go_wp2_with fail
    refine mix_start (fun W => UrlAt W w.heap.size s h p pa q) (by kernel_rfl) ?_
    refine mix_seg [0, 1] (by kernel_rfl) ho.drew ?_
    simp only [segOf, pickOps, pickOp]
    repeat (go_big_quiet_step (fail))
    refine wpQuiet_nil ?_
    refine mix_run 2 (by kernel_rfl) ?_
    simp only [segOf, pickOps, pickOp]
    go_wp2_with fail
    refine (refCheck_as s h p _ _ hh H1.out).mono ?_
    rintro e w1 ⟨rfl, hb1⟩
    have ho1 : UrlAt w1 w.heap.size s h p pa q := ho.drew.below hb1 ho.drew.lt
    have HB1 : Hid (Below w.heap.size w w1) := HB.out.drew.trans (hb1.mono HB.out.drew.size)
    clear hb1
    go_wp2_with fail
    refine MixPost.normal ho1 ?_
    refine mix_seg [3, 4, 5, 6, 7, 8, 9, 10, 11, 12, 13, 14, 15, 16] (by kernel_rfl) ho1 ?_
    simp only [segOf, pickOps, pickOp]
    repeat (go_big_quiet_step (fail))
    refine wpQuiet_nil ?_
    refine mix_run 17 (by kernel_rfl) ?_
    simp only [segOf, pickOps, pickOp]
    go_wp2_with fail
    refine MixPost.normal ho1 ?_
    refine mix_seg [18, 19, 20, 21, 24, 25, 26, 28, 29, 30] (by kernel_rfl) ho1 ?_
    simp only [segOf, pickOps, pickOp]
    repeat (go_big_quiet_step (fail))
    refine wpQuiet_nil ?_
    refine mix_run 22 (by kernel_rfl) ?_
    simp only [segOf, pickOps, pickOp]
    go_wp2_with fail
    refine MixPost.normal ho1 ?_
    refine mix_seg [23, 27, 31, 32, 33, 34] (by kernel_rfl) ho1 ?_
    simp only [segOf, pickOps, pickOp]
    repeat (go_big_quiet_step (fail))
    refine wpQuiet_nil ?_
    refine mix_done (by kernel_rfl) ?_
    go_wp2
    go_ret
    exact ⟨ret_bool (by rw [HK.out]; symm; simp; omega), HB1.out⟩
  have hd1 : decide ((pa.size : Int) ≤ 512) = true := by simp; omega
  by_cases hqz : q.size ≤ 512
  rotate_left
  · have hd2 : decide ((q.size : Int) ≤ 512) = false := by simp; omega
    go_enter Tryd.func18, Tryd.ntmps18
    go_wp2_with fail
    refine mix_start (fun W => UrlAt W w.heap.size s h p pa q) (by kernel_rfl) ?_
    refine mix_seg [0, 1] (by kernel_rfl) ho.drew ?_
    simp only [segOf, pickOps, pickOp]
    repeat (go_big_quiet_step (fail))
    refine wpQuiet_nil ?_
    refine mix_run 2 (by kernel_rfl) ?_
    simp only [segOf, pickOps, pickOp]
    go_wp2_with fail
    refine (refCheck_as s h p _ _ hh H1.out).mono ?_
    rintro e w1 ⟨rfl, hb1⟩
    have ho1 : UrlAt w1 w.heap.size s h p pa q := ho.drew.below hb1 ho.drew.lt
    have HB1 : Hid (Below w.heap.size w w1) := HB.out.drew.trans (hb1.mono HB.out.drew.size)
    clear hb1
    go_wp2_with fail
    refine MixPost.normal ho1 ?_
    refine mix_seg [3, 4, 5, 6, 7, 8, 9, 10, 11, 12, 13, 14, 15, 16] (by kernel_rfl) ho1 ?_
    simp only [segOf, pickOps, pickOp]
    repeat (go_big_quiet_step (fail))
    refine wpQuiet_nil ?_
    refine mix_run 17 (by kernel_rfl) ?_
    simp only [segOf, pickOps, pickOp]
    go_wp2_with fail
    refine MixPost.normal ho1 ?_
    refine mix_seg [18, 19, 20, 21, 24, 25, 26, 28, 29, 30] (by kernel_rfl) ho1 ?_
    simp only [segOf, pickOps, pickOp]
    repeat (go_big_quiet_step (fail))
    refine wpQuiet_nil ?_
    refine mix_run 22 (by kernel_rfl) ?_
    simp only [segOf, pickOps, pickOp]
    go_wp2_with fail
    refine MixPost.normal ho1 ?_
    refine mix_seg [23, 27, 31, 32, 33, 34] (by kernel_rfl) ho1 ?_
    simp only [segOf, pickOps, pickOp]
    repeat (go_big_quiet_step (fail))
    refine wpQuiet_nil ?_
    refine mix_done (by kernel_rfl) ?_
    go_wp2
    go_ret
    exact ⟨ret_bool (by rw [HK.out]; symm; simp; omega), HB1.out⟩
  have hd2 : decide ((q.size : Int) ≤ 512) = true := by simp; omega
  cases b2
  · go_enter Tryd.func18, Tryd.ntmps18
    go_wp2_with fail
    refine mix_start (fun W => UrlAt W w.heap.size s h p pa q) (by kernel_rfl) ?_
    refine mix_seg [0, 1] (by kernel_rfl) ho.drew ?_
    simp only [segOf, pickOps, pickOp]
    repeat (go_big_quiet_step (fail))
    refine wpQuiet_nil ?_
    refine mix_run 2 (by kernel_rfl) ?_
    simp only [segOf, pickOps, pickOp]
    go_wp2_with fail
    refine (refCheck_as s h p _ _ hh H1.out).mono ?_
    rintro e w1 ⟨rfl, hb1⟩
    have ho1 : UrlAt w1 w.heap.size s h p pa q := ho.drew.below hb1 ho.drew.lt
    have HB1 : Hid (Below w.heap.size w w1) := HB.out.drew.trans (hb1.mono HB.out.drew.size)
    clear hb1
    go_wp2_with fail
    refine MixPost.normal ho1 ?_
    refine mix_seg [3, 4, 5, 6, 7, 8, 9, 10, 11, 12, 13, 14, 15, 16] (by kernel_rfl) ho1 ?_
    simp only [segOf, pickOps, pickOp]
    repeat (go_big_quiet_step (fail))
    refine wpQuiet_nil ?_
    refine mix_run 17 (by kernel_rfl) ?_
    simp only [segOf, pickOps, pickOp]
    go_wp2_with fail
    refine (refFits_as s h p pa q _ _ hpa hq H2.out).mono ?_
    rintro e w2 ⟨rfl, hb2⟩
    have ho2 : UrlAt w2 w.heap.size s h p pa q := ho1.below hb2 ho1.lt
    have HB2 : Hid (Below w.heap.size w w2) := HB1.out.trans (hb2.mono HB1.out.size)
    clear hb2
    go_wp2_with fail
    refine MixPost.normal ho2 ?_
    refine mix_seg [18, 19, 20, 21, 24, 25, 26, 28, 29, 30] (by kernel_rfl) ho2 ?_
    simp only [segOf, pickOps, pickOp]
    repeat (go_big_quiet_step (fail))
    refine wpQuiet_nil ?_
    refine mix_run 22 (by kernel_rfl) ?_
    simp only [segOf, pickOps, pickOp]
    go_wp2_with fail
    refine MixPost.normal ho2 ?_
    refine mix_seg [23, 27, 31, 32, 33, 34] (by kernel_rfl) ho2 ?_
    simp only [segOf, pickOps, pickOp]
    repeat (go_big_quiet_step (fail))
    refine wpQuiet_nil ?_
    refine mix_done (by kernel_rfl) ?_
    go_wp2
    go_ret
    exact ⟨ret_bool (by rw [HK.out]; rfl), HB2.out⟩
  · go_enter Tryd.func18, Tryd.ntmps18
    go_wp2_with fail
    refine mix_start (fun W => UrlAt W w.heap.size s h p pa q) (by kernel_rfl) ?_
    refine mix_seg [0, 1] (by kernel_rfl) ho.drew ?_
    simp only [segOf, pickOps, pickOp]
    repeat (go_big_quiet_step (fail))
    refine wpQuiet_nil ?_
    refine mix_run 2 (by kernel_rfl) ?_
    simp only [segOf, pickOps, pickOp]
    go_wp2_with fail
    refine (refCheck_as s h p _ _ hh H1.out).mono ?_
    rintro e w1 ⟨rfl, hb1⟩
    have ho1 : UrlAt w1 w.heap.size s h p pa q := ho.drew.below hb1 ho.drew.lt
    have HB1 : Hid (Below w.heap.size w w1) := HB.out.drew.trans (hb1.mono HB.out.drew.size)
    clear hb1
    go_wp2_with fail
    refine MixPost.normal ho1 ?_
    refine mix_seg [3, 4, 5, 6, 7, 8, 9, 10, 11, 12, 13, 14, 15, 16] (by kernel_rfl) ho1 ?_
    simp only [segOf, pickOps, pickOp]
    repeat (go_big_quiet_step (fail))
    refine wpQuiet_nil ?_
    refine mix_run 17 (by kernel_rfl) ?_
    simp only [segOf, pickOps, pickOp]
    go_wp2_with fail
    refine (refFits_as s h p pa q _ _ hpa hq H2.out).mono ?_
    rintro e w2 ⟨rfl, hb2⟩
    have ho2 : UrlAt w2 w.heap.size s h p pa q := ho1.below hb2 ho1.lt
    have HB2 : Hid (Below w.heap.size w w2) := HB1.out.trans (hb2.mono HB1.out.size)
    clear hb2
    go_wp2_with fail
    refine MixPost.normal ho2 ?_
    refine mix_seg [18, 19, 20, 21, 24, 25, 26, 28, 29, 30] (by kernel_rfl) ho2 ?_
    simp only [segOf, pickOps, pickOp]
    repeat (go_big_quiet_step (fail))
    refine wpQuiet_nil ?_
    refine mix_run 22 (by kernel_rfl) ?_
    simp only [segOf, pickOps, pickOp]
    go_wp2_with fail
    refine (refShow_as s h p t _ hh HT.out).mono ?_
    rintro e w3 ⟨rfl, hb3⟩
    have ho3 : UrlAt w3 w.heap.size s h p pa q := ho2.below hb3 ho2.lt
    have HB3 : Hid (Below w.heap.size w w3) := HB2.out.trans (hb3.mono HB2.out.size)
    clear hb3
    go_wp2_with fail
    refine MixPost.normal ho3 ?_
    refine mix_seg [23, 27, 31, 32, 33, 34] (by kernel_rfl) ho3 ?_
    simp only [segOf, pickOps, pickOp]
    repeat (go_big_quiet_step (fail))
    refine wpQuiet_nil ?_
    refine mix_done (by kernel_rfl) ?_
    go_wp2
    go_ret
    exact ⟨ret_bool (by rw [HK.out]; simp only [Bool.true_and]; rw [decide_eq_decide]; omega), HB3.out⟩

set_option maxHeartbeats 4000000 in
theorem refTShow_any (s h : ByteArray) (p : Int) (pa q : ByteArray) (w : World) (hh : h.size ≤ maxLen) (hpa : pa.size ≤ 100000) (hq : q.size ≤ 100000) :
    Calls Tryd.prog 20 #[urlV s h p pa q] w fun e w' => e = .returned (.string (mk (urlOf s h p pa q).show_)) ∧ Below w.heap.size w w' := by
  have hb : Below w.heap.size w (w.alloc (.cells #[.string s, .string h, .int .i64 p, .string pa, .string q] 27)) := (Below.refl _ _).alloc (Nat.le_refl _) _
  have ho := UrlAt.new w s h p pa q 27
  have HB := Lib.hid hb
  have HO := Lib.hid ho
  clear hb ho
  unfold urlV
  go_enter Tryd.func20, Tryd.ntmps20
  go_wp2_with fail
  refine (refTCheck_any s h p pa q _ hh hpa hq).mono ?_
  rintro e w1 ⟨rfl, hb1⟩
  have ho1 := HO.out.below hb1 (by simp)
  have HB1 : Hid (Below w.heap.size w w1) := HB.out.trans (hb1.mono HB.out.size)
  clear hb1
  cases hc : (urlOf s h p pa q).ok
  · have HS : Hid (mk (urlOf s h p pa q).show_ = ⟨#[]⟩) := by show _ = _; rw [show_no hc]; rfl
    go_wp2
    go_ret
    exact ⟨ret_string HS.out.symm, HB1.out⟩
  obtain ⟨t, ht⟩ : ∃ t, t = mk (showL s.data.toList h.data.toList p) := ⟨_, rfl⟩
  have htz : t.size ≤ 270 := by rw [ht, mk_size]; exact show_len
  have HS := Lib.hid (show_mk (pa := pa) (q := q) ht hc)
  have HT := Lib.hid ht
  clear hc ht
  go_wp2_with fail
  refine mix_start (fun W => UrlAt W w.heap.size s h p pa q) (by kernel_rfl) ?_
  have hne : Nonempty (Held (fun W => UrlAt W w.heap.size s h p pa q)) := ⟨⟨_, ho1⟩⟩
  have hx0 : ∀ z : Held (fun W => UrlAt W w.heap.size s h p pa q), z.w.cell? ⟨w.heap.size, 0, none⟩ = some (.string s) := fun z => z.h.c0
  have hx1 : ∀ z : Held (fun W => UrlAt W w.heap.size s h p pa q), z.w.cell? ⟨w.heap.size, 1, none⟩ = some (.string h) := fun z => z.h.c1
  have hx2 : ∀ z : Held (fun W => UrlAt W w.heap.size s h p pa q), z.w.cell? ⟨w.heap.size, 2, none⟩ = some (.int .i64 p) := fun z => z.h.c2
  have hx3 : ∀ z : Held (fun W => UrlAt W w.heap.size s h p pa q), z.w.cell? ⟨w.heap.size, 3, none⟩ = some (.string pa) := fun z => z.h.c3
  have hx4 : ∀ z : Held (fun W => UrlAt W w.heap.size s h p pa q), z.w.cell? ⟨w.heap.size, 4, none⟩ = some (.string q) := fun z => z.h.c4
  refine mix_seg [0, 1, 3, 4, 6, 7] (by kernel_rfl) ho1.drew ?_
  simp only [segOf, pickOps, pickOp]
  repeat (go_big_quiet_step (fail))
  refine wpQuiet_nil ?_
  refine mix_run 2 (by kernel_rfl) ?_
  simp only [segOf, pickOps, pickOp]
  go_wp2_with fail
  refine (refShow_as s h p t _ hh HT.out).mono ?_
  rintro e w2 ⟨rfl, hb2⟩
  have ho2 : UrlAt w2 w.heap.size s h p pa q := ho1.drew.below hb2 ho1.drew.lt
  have HB2 : Hid (Below w.heap.size w w2) := HB1.out.drew.trans (hb2.mono HB1.out.drew.size)
  clear hb2
  go_wp2_with fail
  refine MixPost.normal ho2 ?_
  refine mix_seg [5, 8, 9] (by kernel_rfl) ho2 ?_
  simp only [segOf, pickOps, pickOp]
  repeat (go_big_quiet_step (fail))
  refine wpQuiet_nil ?_
  refine mix_done (by kernel_rfl) ?_
  go_wp2
  go_ret
  exact ⟨ret_string HS.out, HB2.out⟩
end Go.Proofs.YtfamllkmmiajoaaDoor
