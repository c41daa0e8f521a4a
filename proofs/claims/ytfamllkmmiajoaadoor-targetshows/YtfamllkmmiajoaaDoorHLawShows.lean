/-
  The walk of the law TargetShows: whatever the URL, it returns true, and nothing that was there has turned. Conditions: the argument is such as any that comes in; the library's variables are as they are laid.
-/
import Derived.Test.YtfamllkmmiajoaaDoorHWords
import Derived.Test.YtfamllkmmiajoaaDoorHRefUrl
namespace Go.Proofs.YtfamllkmmiajoaaDoor
open Go.RowKit

theorem tCheck_as (s h : ByteArray) (p : Int) (pa q : ByteArray) (b : Bool) (w : World) (hh : h.size ≤ maxLen) (hpa : pa.size ≤ 100000) (hq : q.size ≤ 100000) (he : Env w) (hb : b = (urlOf s h p pa q).ok) :
    Calls Tryd.prog 17 #[urlV s h p pa q] w fun e w' => e = .returned (.bool b) ∧ Below w.heap.size w w' := by rw [hb]; exact tCheck_any s h p pa q w hh hpa hq he
theorem refTCheck_as (s h : ByteArray) (p : Int) (pa q : ByteArray) (b : Bool) (w : World) (hh : h.size ≤ maxLen) (hpa : pa.size ≤ 100000) (hq : q.size ≤ 100000) (hb : b = (urlOf s h p pa q).ok) :
    Calls Tryd.prog 18 #[urlV s h p pa q] w fun e w' => e = .returned (.bool b) ∧ Below w.heap.size w w' := by rw [hb]; exact refTCheck_any s h p pa q w hh hpa hq
theorem tShow_as2 (s h : ByteArray) (p : Int) (pa q t : ByteArray) (w : World) (hh : h.size ≤ maxLen) (hpa : pa.size ≤ 100000) (hq : q.size ≤ 100000) (he : Env w) (ht : t = mk (urlOf s h p pa q).show_) :
    Calls Tryd.prog 19 #[urlV s h p pa q] w fun e w' => e = .returned (.string t) ∧ Below w.heap.size w w' := by rw [ht]; exact tShow_any s h p pa q w hh hpa hq he
theorem refTShow_as (s h : ByteArray) (p : Int) (pa q t : ByteArray) (w : World) (hh : h.size ≤ maxLen) (hpa : pa.size ≤ 100000) (hq : q.size ≤ 100000) (ht : t = mk (urlOf s h p pa q).show_) :
    Calls Tryd.prog 20 #[urlV s h p pa q] w fun e w' => e = .returned (.string t) ∧ Below w.heap.size w w' := by rw [ht]; exact refTShow_any s h p pa q w hh hpa hq

set_option maxRecDepth 100000 in
set_option maxHeartbeats 4000000 in
theorem walk_TargetShows (s h : ByteArray) (p : Int) (pa q : ByteArray) (w : World) (hs : s.size ≤ maxLen) (hh : h.size ≤ maxLen) (_hp : (Lit.int .i64 p).wf = true) (hpa : pa.size ≤ maxLen) (hq : q.size ≤ maxLen) (he : Env w) :
    Calls Tryd.prog 4 #[.agg #[.string s, .string h, .int .i64 p, .string pa, .string q]] w fun e w' => e = .returned (.bool true) ∧ Below w.heap.size w w' := by
  have HE := Lib.hid he
  have HB0 : Hid (Below w.heap.size w (w.alloc (.cells #[.string s, .string h, .int .i64 p, .string pa, .string q] 27))) := (Below.refl _ _).alloc (Nat.le_refl _) _
  have HU0 := Lib.hid (UrlAt.new w s h p pa q 27)
  clear he
  cases hl : Lk.longL 700 [s.size, h.size, pa.size, q.size]
  rotate_left
  · have HL : Hid (Lk.longL (700 : Int).toNat ([s, h, pa, q].map ByteArray.size) = true) := hl
    clear hl
    go_enter Tryd.func4, Tryd.ntmps4
    go_wp2_with fail
    refine (Long_any _ _ _ _ [s, h, pa, q] _ _ (by decide) (by decide) rfl (SRow.four_at _ _ _ _ _ _ _ (by simp)) (by simp [maxLen]) (by simpa using ⟨hs, hh, hpa, hq⟩)).mono ?_
    rintro e w1 ⟨rfl, hw⟩
    rw [HL.out]
    have HB1 : Hid (Below w.heap.size w w1) := by rw [← hw]; exact HB0.out.alloc HB0.out.size _
    clear hw
    go_wp2_with fail
    refine (awake_from HE.out HB1.out).mono ?_
    rintro e w2 ⟨rfl, hb⟩
    go_wp2
    go_ret
    exact ⟨rfl, hb⟩
  have hsum := Lk.long_no _ _ hl
  simp at hsum
  have HL : Hid (Lk.longL (700 : Int).toNat ([s, h, pa, q].map ByteArray.size) = false) := hl
  clear hl
  obtain ⟨b, hbb⟩ : ∃ b, b = (urlOf s h p pa q).ok := ⟨_, rfl⟩
  obtain ⟨t, ht⟩ : ∃ t, t = mk (urlOf s h p pa q).show_ := ⟨_, rfl⟩
  have HBB := Lib.hid hbb
  have HT := Lib.hid ht
  clear hbb ht
  have hself : (t.toList == t.toList) = true := by simp
  have hbself : (b == b) = true := by simp
  go_enter Tryd.func4, Tryd.ntmps4
  go_wp2_with fail
  refine (Long_any _ _ _ _ [s, h, pa, q] _ _ (by decide) (by decide) rfl (SRow.four_at _ _ _ _ _ _ _ (by simp)) (by simp [maxLen]) (by simpa using ⟨hs, hh, hpa, hq⟩)).mono ?_
  rintro e w1 ⟨rfl, hw⟩
  rw [HL.out]
  have HB1 : Hid (Below w.heap.size w w1) := by rw [← hw]; exact HB0.out.alloc HB0.out.size _
  have ho1 : UrlAt w1 w.heap.size s h p pa q := by rw [← hw]; exact HU0.out.alloc _
  clear hw HB0 HU0
  go_wp2_with fail
  refine mix_start (fun W => UrlAt W w.heap.size s h p pa q) (by kernel_rfl) ?_
  have hne : Nonempty (Held (fun W => UrlAt W w.heap.size s h p pa q)) := ⟨⟨_, ho1⟩⟩
  have hx0 : ∀ z : Held (fun W => UrlAt W w.heap.size s h p pa q), z.w.cell? ⟨w.heap.size, 0, none⟩ = some (.string s) := fun z => z.h.c0
  have hx1 : ∀ z : Held (fun W => UrlAt W w.heap.size s h p pa q), z.w.cell? ⟨w.heap.size, 1, none⟩ = some (.string h) := fun z => z.h.c1
  have hx2 : ∀ z : Held (fun W => UrlAt W w.heap.size s h p pa q), z.w.cell? ⟨w.heap.size, 2, none⟩ = some (.int .i64 p) := fun z => z.h.c2
  have hx3 : ∀ z : Held (fun W => UrlAt W w.heap.size s h p pa q), z.w.cell? ⟨w.heap.size, 3, none⟩ = some (.string pa) := fun z => z.h.c3
  have hx4 : ∀ z : Held (fun W => UrlAt W w.heap.size s h p pa q), z.w.cell? ⟨w.heap.size, 4, none⟩ = some (.string q) := fun z => z.h.c4
  refine mix_seg [0, 2] (by kernel_rfl) ho1.drew ?_
  simp only [segOf, pickOps, pickOp]
  repeat (go_big_quiet_step (fail))
  refine wpQuiet_nil ?_
  refine mix_run 1 (by kernel_rfl) ?_
  simp only [segOf, pickOps, pickOp]
  go_wp2_with fail
  refine (tCheck_as s h p pa q b _ hh (by omega) (by omega) (HE.out.below HB1.out).drew HBB.out).mono ?_
  rintro e w2 ⟨rfl, hb⟩
  have HB2 : Hid (Below w.heap.size w w2) := HB1.out.drew.trans (hb.mono HB1.out.size)
  have ho2 : UrlAt w2 w.heap.size s h p pa q := ho1.drew.below hb ho1.lt
  clear hb
  go_wp2_with fail
  refine MixPost.normal ho2 ?_
  refine mix_run 3 (by kernel_rfl) ?_
  simp only [segOf, pickOps, pickOp]
  go_wp2_with fail
  refine (refTCheck_as s h p pa q b _ hh (by omega) (by omega) HBB.out).mono ?_
  rintro e w3 ⟨rfl, hb⟩
  have HB3 : Hid (Below w.heap.size w w3) := HB2.out.trans (hb.mono HB2.out.size)
  have ho3 : UrlAt w3 w.heap.size s h p pa q := ho2.below hb ho2.lt
  clear hb
  go_wp2_with fail
  refine MixPost.normal ho3 ?_
  refine mix_seg [4, 5, 6, 8] (by kernel_rfl) ho3 ?_
  simp only [segOf, pickOps, pickOp]
  repeat (go_big_quiet_step (fail))
  refine wpQuiet_nil ?_
  refine mix_run 7 (by kernel_rfl) ?_
  simp only [segOf, pickOps, pickOp]
  go_wp2_with fail
  refine (tShow_as2 s h p pa q t _ hh (by omega) (by omega) (HE.out.below HB3.out) HT.out).mono ?_
  rintro e w4 ⟨rfl, hb⟩
  have HB4 : Hid (Below w.heap.size w w4) := HB3.out.trans (hb.mono HB3.out.size)
  have ho4 : UrlAt w4 w.heap.size s h p pa q := ho3.below hb ho3.lt
  clear hb
  go_wp2_with fail
  refine MixPost.normal ho4 ?_
  refine mix_run 9 (by kernel_rfl) ?_
  simp only [segOf, pickOps, pickOp]
  go_wp2_with fail
  refine (refTShow_as s h p pa q t _ hh (by omega) (by omega) HT.out).mono ?_
  rintro e w5 ⟨rfl, hb⟩
  have HB5 : Hid (Below w.heap.size w w5) := HB4.out.trans (hb.mono HB4.out.size)
  have ho5 : UrlAt w5 w.heap.size s h p pa q := ho4.below hb ho4.lt
  clear hb
  go_wp2_with fail
  refine MixPost.normal ho5 ?_
  refine mix_seg [10, 11, 12] (by kernel_rfl) ho5 ?_
  simp only [segOf, pickOps, pickOp]
  repeat (go_big_quiet_step (fail))
  refine wpQuiet_nil ?_
  refine mix_run 13 (by kernel_rfl) ?_
  simp only [segOf, pickOps, pickOp]
  go_wp2_with fail
  refine (awake4_any _ (HE.out.below HB5.out)).mono ?_
  rintro e w6 ⟨rfl, hb⟩
  have HB6 : Hid (Below w.heap.size w w6) := HB5.out.trans (hb.mono HB5.out.size)
  have ho6 : UrlAt w6 w.heap.size s h p pa q := ho5.below hb ho5.lt
  clear hb
  go_wp2_with fail
  refine MixPost.normal ho6 ?_
  refine mix_seg [14, 15] (by kernel_rfl) ho6 ?_
  simp only [segOf, pickOps, pickOp]
  repeat (go_big_quiet_step (fail))
  refine wpQuiet_nil ?_
  refine mix_done (by kernel_rfl) ?_
  go_wp2
  go_ret
  exact ⟨rfl, HB6.out⟩
end Go.Proofs.YtfamllkmmiajoaaDoor
