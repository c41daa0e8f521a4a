/-
  Contracts of target's isPath, fits, Check and Show, over this seat's program: each returns what the plain mathematics says, and nothing that was there has turned. Conditions: the texts have at most 100,000 bytes; the library's variables are as they are laid.
-/
import Derived.Test.YtfamllkmmiajoaaDoorHClean
namespace Go.Proofs.YtfamllkmmiajoaaDoor
open Go.RowKit

/-- block g holds a URL -/
structure UrlAt (W : World) (g : Nat) (s h : ByteArray) (p : Int) (pa q : ByteArray) : Prop where
  c0 : W.cell? ⟨g, 0, none⟩ = some (.string s)
  c1 : W.cell? ⟨g, 1, none⟩ = some (.string h)
  c2 : W.cell? ⟨g, 2, none⟩ = some (.int .i64 p)
  c3 : W.cell? ⟨g, 3, none⟩ = some (.string pa)
  c4 : W.cell? ⟨g, 4, none⟩ = some (.string q)
theorem UrlAt.below {W W' : World} {g B : Nat} {s h pa q : ByteArray} {p : Int} (o : UrlAt W g s h p pa q) (hb : Below B W W') (hg : g < B) : UrlAt W' g s h p pa q :=
  ⟨(hb.cell hg).trans o.c0, (hb.cell hg).trans o.c1, (hb.cell hg).trans o.c2, (hb.cell hg).trans o.c3, (hb.cell hg).trans o.c4⟩
theorem UrlAt.new (w : World) (s h : ByteArray) (p : Int) (pa q : ByteArray) (t : TypeId) : UrlAt (w.alloc (.cells #[.string s, .string h, .int .i64 p, .string pa, .string q] t)) w.heap.size s h p pa q :=
  ⟨by simp, by simp, by simp, by simp, by simp⟩
theorem UrlAt.drew {W : World} {g : Nat} {s h pa q : ByteArray} {p : Int} (o : UrlAt W g s h p pa q) : UrlAt W.drew g s h p pa q := ⟨o.c0, o.c1, o.c2, o.c3, o.c4⟩
theorem UrlAt.lt {W : World} {g : Nat} {s h pa q : ByteArray} {p : Int} (o : UrlAt W g s h p pa q) : g < W.heap.size := block_of_cell o.c0
theorem UrlAt.alloc {W : World} {g : Nat} {s h pa q : ByteArray} {p : Int} (o : UrlAt W g s h p pa q) (x : Obj) : UrlAt (W.alloc x) g s h p pa q :=
  o.below ((Below.refl _ _).alloc (Nat.le_refl _) x) o.lt

/-- a URL as a value, and as the mathematics has it -/
def urlV (s h : ByteArray) (p : Int) (pa q : ByteArray) : Value := .agg #[.string s, .string h, .int .i64 p, .string pa, .string q]
def urlOf (s h : ByteArray) (p : Int) (pa q : ByteArray) : Url := ⟨s.data.toList, h.data.toList, p, pa.data.toList, q.data.toList⟩

theorem Clean_as (p t : ByteArray) (w : World) (hp : p.size ≤ 100000) (ht : t = mk (cleanL p.data.toList)) :
    Calls Tryd.prog 15 #[.string p] w fun e w' => e = .returned (.string t) ∧ Below w.heap.size w w' := by rw [ht]; exact Clean_any p w hp
theorem eq_clean (s : ByteArray) (t : ByteArray) (ht : t = mk (cleanL s.data.toList)) : (t.toList == s.toList) = (cleanL s.data.toList == s.data.toList) := by
  rw [ByteArray.toList_eq, ByteArray.toList_eq, ht, mk_data]

set_option maxHeartbeats 1000000 in
theorem isPath_any (s : ByteArray) (w : World) (hs : s.size ≤ 100000) :
    Calls Tryd.prog 41 #[.string s] w fun e w' => e = .returned (.bool (pathL s.data.toList)) ∧ Below w.heap.size w w' := by
  obtain ⟨t, ht⟩ : ∃ t, t = mk (cleanL s.data.toList) := ⟨_, rfl⟩
  have HE := Lib.hid (eq_clean s t ht)
  have HT := Lib.hid ht
  clear ht
  cases hf : freeL noPathL s.data.toList
  · have HF : Hid (freeL (ByteArray.mk #[34, 35, 60, 62, 63, 92, 94, 96, 123, 124, 125]).data.toList s.data.toList = false) := hf
    go_enter Tryd.func41, Tryd.ntmps41
    go_wp2_with (go_at_call 29; refine (isFree_any _ _ _ (by unfold maxLen; omega)).mono ?_; rintro e w' ⟨rfl, rfl⟩; rw [HF.out])
    go_ret
    exact ⟨ret_bool (by unfold pathL; rw [hf]; rfl), Below.refl _ _⟩
  · have HF : Hid (freeL (ByteArray.mk #[34, 35, 60, 62, 63, 92, 94, 96, 123, 124, 125]).data.toList s.data.toList = true) := hf
    go_enter Tryd.func41, Tryd.ntmps41
    go_wp2_with (go_at_call 29; refine (isFree_any _ _ _ (by unfold maxLen; omega)).mono ?_; rintro e w' ⟨rfl, rfl⟩; rw [HF.out])
    refine (Clean_as s t _ hs HT.out).mono ?_
    rintro e w' ⟨rfl, hb⟩
    go_wp2
    go_ret
    exact ⟨ret_bool (by unfold pathL; rw [hf, ← HE.out]; rfl), hb⟩

theorem Show_as (s h : ByteArray) (p : Int) (t : ByteArray) (w : World) (hh : h.size ≤ maxLen) (he : Env w) (ht : t = mk (showL s.data.toList h.data.toList p)) :
    Calls Tryd.prog 45 #[.agg #[.string s, .string h, .int .i64 p]] w fun e w' => e = .returned (.string t) ∧ Below w.heap.size w w' := by rw [ht]; exact Show_any s h p w hh he

set_option maxHeartbeats 2000000 in
theorem fits_any (s h : ByteArray) (p : Int) (pa q : ByteArray) (w : World) (hh : h.size ≤ maxLen) (hpa : pa.size ≤ 100001) (hq : q.size ≤ 100000) (he : Env w) :
    Calls Tryd.prog 30 #[urlV s h p pa q] w fun e w' => e = .returned (.bool (decide ((urlOf s h p pa q).len ≤ 512))) ∧ Below w.heap.size w w' := by
  have hb : Below w.heap.size w (w.alloc (.cells #[.string s, .string h, .int .i64 p, .string pa, .string q] 27)) := (Below.refl _ _).alloc (Nat.le_refl _) _
  have ho := UrlAt.new w s h p pa q 27
  have HB := Lib.hid hb
  have HE := Lib.hid he
  obtain ⟨t, ht⟩ : ∃ t, t = mk (showL s.data.toList h.data.toList p) := ⟨_, rfl⟩
  have htz : t.size ≤ 270 := by rw [ht, mk_size]; exact show_len
  have HL : Hid ((urlOf s h p pa q).len = t.size + pa.size + q.size) := by
    show _ = _
    rw [ht, mk_size]
    unfold Url.len urlOf
    simp
  have HT := Lib.hid ht
  clear hb he ht
  unfold urlV
  go_enter Tryd.func30, Tryd.ntmps30
  go_wp2_with fail
  refine mix_start (fun W => UrlAt W w.heap.size s h p pa q) (by kernel_rfl) ?_
  have hne : Nonempty (Held (fun W => UrlAt W w.heap.size s h p pa q)) := ⟨⟨_, ho⟩⟩
  have hx0 : ∀ z : Held (fun W => UrlAt W w.heap.size s h p pa q), z.w.cell? ⟨w.heap.size, 0, none⟩ = some (.string s) := fun z => z.h.c0
  have hx1 : ∀ z : Held (fun W => UrlAt W w.heap.size s h p pa q), z.w.cell? ⟨w.heap.size, 1, none⟩ = some (.string h) := fun z => z.h.c1
  have hx2 : ∀ z : Held (fun W => UrlAt W w.heap.size s h p pa q), z.w.cell? ⟨w.heap.size, 2, none⟩ = some (.int .i64 p) := fun z => z.h.c2
  have hx3 : ∀ z : Held (fun W => UrlAt W w.heap.size s h p pa q), z.w.cell? ⟨w.heap.size, 3, none⟩ = some (.string pa) := fun z => z.h.c3
  have hx4 : ∀ z : Held (fun W => UrlAt W w.heap.size s h p pa q), z.w.cell? ⟨w.heap.size, 4, none⟩ = some (.string q) := fun z => z.h.c4
  refine mix_seg [0, 1, 4, 5, 6, 8, 9, 10] (by kernel_rfl) ho.drew ?_
  simp only [segOf, pickOps, pickOp]
  repeat (go_big_quiet_step (fail))
  refine wpQuiet_nil ?_
  refine mix_run 2 (by kernel_rfl) ?_
  simp only [segOf, pickOps, pickOp]
  go_wp2_with fail
  refine (Show_as _ _ _ t _ hh (HE.out.below HB.out).drew HT.out).mono ?_
  rintro e w1 ⟨rfl, hb2⟩
  have ho1 : UrlAt w1 w.heap.size s h p pa q := ho.drew.below hb2 (by simp)
  have HB1 : Hid (Below w.heap.size w w1) := HB.out.drew.trans (hb2.mono HB.out.size)
  clear hb2
  go_wp2_with fail
  refine MixPost.normal ho1 ?_
  refine mix_seg [3, 7, 11, 12, 13] (by kernel_rfl) ho1 ?_
  simp only [segOf, pickOps, pickOp]
  repeat (go_big_quiet_step (fail))
  refine wpQuiet_nil ?_
  refine mix_done (by kernel_rfl) ?_
  go_wp2
  go_ret
  refine ⟨ret_bool ?_, HB1.out⟩
  rw [HL.out]
  rw [decide_eq_decide]
  omega

theorem ok_at (s h : ByteArray) (p : Int) (pa q : ByteArray) : (urlOf s h p pa q).ok = (checkL s.data.toList h.data.toList p && pathL pa.data.toList && queryL q.data.toList && decide ((urlOf s h p pa q).len ≤ 512)) := rfl

set_option maxHeartbeats 2000000 in
theorem tCheck_any (s h : ByteArray) (p : Int) (pa q : ByteArray) (w : World) (hh : h.size ≤ maxLen) (hpa : pa.size ≤ 100000) (hq : q.size ≤ 100000) (he : Env w) :
    Calls Tryd.prog 17 #[urlV s h p pa q] w fun e w' => e = .returned (.bool (urlOf s h p pa q).ok) ∧ Below w.heap.size w w' := by
  have hb : Below w.heap.size w (w.alloc (.cells #[.string s, .string h, .int .i64 p, .string pa, .string q] 27)) := (Below.refl _ _).alloc (Nat.le_refl _) _
  have ho := UrlAt.new w s h p pa q 27
  have HB := Lib.hid hb
  have HE := Lib.hid he
  have HO := Lib.hid ho
  have HK := Lib.hid (ok_at s h p pa q)
  clear hb he ho
  unfold urlV
  go_enter Tryd.func17, Tryd.ntmps17
  go_wp2_with fail
  refine (Check_any _ _ _ _ hh).mono ?_
  rintro e w1 ⟨rfl, hb1⟩
  have ho1 := HO.out.below hb1 (by simp)
  have HB1 : Hid (Below w.heap.size w w1) := HB.out.trans (hb1.mono HB.out.size)
  clear hb1
  have HO1 := Lib.hid ho1
  obtain ⟨a0, a1, a2, a3, a4⟩ := ho1
  cases h1 : checkL s.data.toList h.data.toList p
  · go_wp2
    go_ret
    exact ⟨ret_bool (by rw [HK.out, h1]; rfl), HB1.out⟩
  have H1 := Lib.hid h1
  clear h1
  go_wp2_with fail
  refine (isPath_any _ _ hpa).mono ?_
  rintro e w2 ⟨rfl, hb2⟩
  have ho2 := HO1.out.below hb2 HO1.out.lt
  have HB2 : Hid (Below w.heap.size w w2) := HB1.out.trans (hb2.mono HB1.out.size)
  clear hb2 a0 a1 a2 a3 a4
  have HO2 := Lib.hid ho2
  obtain ⟨a0, a1, a2, a3, a4⟩ := ho2
  cases h2 : pathL pa.data.toList
  · go_wp2
    go_ret
    exact ⟨ret_bool (by rw [HK.out, H1.out, h2]; rfl), HB2.out⟩
  have H2 := Lib.hid h2
  clear h2
  go_wp2_with fail
  refine (isQuery_any _ _ (by unfold maxLen; omega)).mono ?_
  rintro e w3 ⟨rfl, rfl⟩
  cases h3 : queryL q.data.toList
  · go_wp2
    go_ret
    exact ⟨ret_bool (by rw [HK.out, H1.out, H2.out, h3]; rfl), HB2.out⟩
  have H3 := Lib.hid h3
  clear h3
  go_wp2_with fail
  refine (fits_any s h p pa q _ hh (by omega) hq (HE.out.below HB2.out)).mono ?_
  rintro e w4 ⟨rfl, hb4⟩
  go_wp2
  go_ret
  exact ⟨ret_bool (by rw [HK.out, H1.out, H2.out, H3.out]; rfl), HB2.out.trans (hb4.mono HB2.out.size)⟩

theorem show_mk {s h : ByteArray} {p : Int} {pa q : ByteArray} {t : ByteArray} (ht : t = mk (showL s.data.toList h.data.toList p)) (hc : (urlOf s h p pa q).ok = true) :
    t ++ pa ++ q = mk (urlOf s h p pa q).show_ := by
  rw [show_ok hc, ht]
  show mk (showL s.data.toList h.data.toList p) ++ pa ++ q = mk (showL s.data.toList h.data.toList p ++ pa.data.toList ++ q.data.toList)
  conv => lhs; rw [← mk_eq pa, ← mk_eq q]
  rw [mk_append, mk_append]

set_option maxHeartbeats 2000000 in
theorem tShow_any (s h : ByteArray) (p : Int) (pa q : ByteArray) (w : World) (hh : h.size ≤ maxLen) (hpa : pa.size ≤ 100000) (hq : q.size ≤ 100000) (he : Env w) :
    Calls Tryd.prog 19 #[urlV s h p pa q] w fun e w' => e = .returned (.string (mk (urlOf s h p pa q).show_)) ∧ Below w.heap.size w w' := by
  have hb : Below w.heap.size w (w.alloc (.cells #[.string s, .string h, .int .i64 p, .string pa, .string q] 27)) := (Below.refl _ _).alloc (Nat.le_refl _) _
  have ho := UrlAt.new w s h p pa q 27
  have HB := Lib.hid hb
  have HE := Lib.hid he
  have HE0 : Hid (Env (w.alloc (.cells #[.string s, .string h, .int .i64 p, .string pa, .string q] 27))) := he.alloc _
  have HO := Lib.hid ho
  clear hb he ho
  unfold urlV
  go_enter Tryd.func19, Tryd.ntmps19
  go_wp2_with fail
  refine (tCheck_any s h p pa q _ hh hpa hq HE0.out).mono ?_
  rintro e w1 ⟨rfl, hb1⟩
  have ho1 := HO.out.below hb1 (by simp)
  have HB1 : Hid (Below w.heap.size w w1) := HB.out.trans (hb1.mono HB.out.size)
  have HE1 : Hid (Env w1) := HE.out.below HB1.out
  clear hb1
  cases hc : (urlOf s h p pa q).ok
  · have HS : Hid (mk (urlOf s h p pa q).show_ = ⟨#[]⟩) := by show _ = _; rw [show_no hc]; rfl
    go_wp2
    go_ret
    exact ⟨ret_string HS.out.symm, HB1.out⟩
  obtain ⟨t, ht⟩ : ∃ t, t = mk (showL s.data.toList h.data.toList p) := ⟨_, rfl⟩
  have htz : t.size ≤ 270 := by rw [ht, mk_size]; exact show_len
  have HS := Lib.hid (show_mk (pa := pa) (q := q) ht hc)
  have HT := Lib.hid ht
  clear hc ht
  go_wp2_with fail
  refine mix_start (fun W => UrlAt W w.heap.size s h p pa q) (by kernel_rfl) ?_
  have hne : Nonempty (Held (fun W => UrlAt W w.heap.size s h p pa q)) := ⟨⟨_, ho1⟩⟩
  have hx0 : ∀ z : Held (fun W => UrlAt W w.heap.size s h p pa q), z.w.cell? ⟨w.heap.size, 0, none⟩ = some (.string s) := fun z => z.h.c0
  have hx1 : ∀ z : Held (fun W => UrlAt W w.heap.size s h p pa q), z.w.cell? ⟨w.heap.size, 1, none⟩ = some (.string h) := fun z => z.h.c1
  have hx2 : ∀ z : Held (fun W => UrlAt W w.heap.size s h p pa q), z.w.cell? ⟨w.heap.size, 2, none⟩ = some (.int .i64 p) := fun z => z.h.c2
  have hx3 : ∀ z : Held (fun W => UrlAt W w.heap.size s h p pa q), z.w.cell? ⟨w.heap.size, 3, none⟩ = some (.string pa) := fun z => z.h.c3
  have hx4 : ∀ z : Held (fun W => UrlAt W w.heap.size s h p pa q), z.w.cell? ⟨w.heap.size, 4, none⟩ = some (.string q) := fun z => z.h.c4
  refine mix_seg [0, 1, 3, 4, 6, 7] (by kernel_rfl) ho1.drew ?_
  simp only [segOf, pickOps, pickOp]
  repeat (go_big_quiet_step (fail))
  refine wpQuiet_nil ?_
  refine mix_run 2 (by kernel_rfl) ?_
  simp only [segOf, pickOps, pickOp]
  go_wp2_with fail
  refine (Show_as _ _ _ t _ hh HE1.out.drew HT.out).mono ?_
  rintro e w2 ⟨rfl, hb2⟩
  have ho2 : UrlAt w2 w.heap.size s h p pa q := ho1.drew.below hb2 ho1.lt
  have HB2 : Hid (Below w.heap.size w w2) := HB1.out.drew.trans (hb2.mono HB1.out.size)
  clear hb2
  go_wp2_with fail
  refine MixPost.normal ho2 ?_
  refine mix_seg [5, 8, 9] (by kernel_rfl) ho2 ?_
  simp only [segOf, pickOps, pickOp]
  repeat (go_big_quiet_step (fail))
  refine wpQuiet_nil ?_
  refine mix_done (by kernel_rfl) ?_
  go_wp2
  go_ret
  exact ⟨ret_string HS.out, HB2.out⟩
end Go.Proofs.YtfamllkmmiajoaaDoor
