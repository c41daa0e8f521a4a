/-
  The walk of the law OriginApart: whatever the two origins, it returns true, and nothing that was there has turned. Conditions: the arguments are such as any that come in; the library's variables are as they are laid.
-/
import Derived.Test.YtbnkfocaegcjdaaDoorGLawBack
namespace Go.Proofs.YtbnkfocaegcjdaaDoor
open Go.RowKit

theorem two_cases (a b x y : ByteArray) (p q : Int) : (a = b ∧ x = y ∧ p = q) ∨
    ((a.toList == b.toList) = false ∨ ((a.toList == b.toList) = true ∧ (x.toList == y.toList) = false) ∨ ((a.toList == b.toList) = true ∧ (x.toList == y.toList) = true ∧ (p == q) = false)) := by
  cases h1 : a.toList == b.toList
  · exact .inr (.inl rfl)
  cases h2 : x.toList == y.toList
  · exact .inr (.inr (.inl ⟨rfl, rfl⟩))
  cases h3 : p == q
  · exact .inr (.inr (.inr ⟨rfl, rfl, rfl⟩))
  rw [ByteArray.toList_eq, ByteArray.toList_eq, beq_iff_eq] at h1 h2
  rw [beq_iff_eq] at h3
  exact .inl ⟨by rw [← mk_eq a, h1, mk_eq], by rw [← mk_eq x, h2, mk_eq], h3⟩
theorem two_not {a b x y : ByteArray} {p q : Int} (h : (a.toList == b.toList) = false ∨ ((a.toList == b.toList) = true ∧ (x.toList == y.toList) = false) ∨ ((a.toList == b.toList) = true ∧ (x.toList == y.toList) = true ∧ (p == q) = false))
    (e : a.data.toList = b.data.toList ∧ x.data.toList = y.data.toList ∧ p = q) : False := by
  rw [ByteArray.toList_eq, ByteArray.toList_eq, ByteArray.toList_eq, ByteArray.toList_eq, e.1, e.2.1, e.2.2] at h
  simp at h

set_option maxHeartbeats 4000000 in
theorem walk_OriginApart (s h : ByteArray) (p : Int) (s' h' : ByteArray) (p' : Int) (w : World) (hs : s.size ≤ maxLen) (hh : h.size ≤ maxLen) (_hp : (Lit.int .i64 p).wf = true)
    (hs' : s'.size ≤ maxLen) (hh' : h'.size ≤ maxLen) (_hp' : (Lit.int .i64 p').wf = true) (he : Env w) :
    Calls Tryd.prog 8 #[.agg #[.string s, .string h, .int .i64 p], .agg #[.string s', .string h', .int .i64 p']] w fun e w' => e = .returned (.bool true) ∧ Below w.heap.size w w' := by
  have HE := Lib.hid he
  obtain ⟨wa, hwa⟩ : ∃ wa, wa = (w.alloc (.cells #[.string s, .string h, .int .i64 p] 23)).alloc (.cells #[.string s', .string h', .int .i64 p'] 23) := ⟨_, rfl⟩
  have HB0 : Hid (Below w.heap.size w wa) := by rw [hwa]; exact ((Below.refl _ _).alloc (Nat.le_refl _) _).alloc (by simp) _
  have HO0 : Hid (OrgAt wa w.heap.size s h p) := by rw [hwa]; exact (OrgAt.new w s h p 23).alloc _
  have HP0 : Hid (OrgAt wa (w.heap.size + 1) s' h' p') := by
    rw [hwa]
    have := OrgAt.new (w.alloc (.cells #[.string s, .string h, .int .i64 p] 23)) s' h' p' 23
    show OrgAt _ _ _ _ _
    simpa using this
  have HW := Lib.hid hwa
  clear he hwa
  have fin : ∀ W, Below w.heap.size w W → Calls Tryd.prog 10 #[] W fun e w' => e = .returned (.bool true) ∧ Below w.heap.size w w' := fun W hb =>
    (awake3_any W (HE.out.below hb)).mono fun e w' ⟨a, b⟩ => ⟨a, hb.trans (b.mono hb.size)⟩
  have FIN := Lib.hid fin
  clear fin
  cases hl : Lk.longL 700 [s.size, h.size]
  case true =>
    have HL : Hid (Lk.longL (700 : Int).toNat ([s, h].map ByteArray.size) = true) := hl
    clear hl
    go_enter Tryd.func8, Tryd.ntmps8
    go_wp2_with fail
    refine (Long_any _ _ _ _ [s, h] _ _ (by decide) (by decide) rfl (SRow.two_at _ _ _ _ _ (by simp)) (by simp [maxLen]) (by simpa using ⟨hs, hh⟩)).mono ?_
    rintro e w1 ⟨rfl, hw⟩
    rw [HL.out]
    have HB1 : Hid (Below w.heap.size w w1) := by rw [← hw, ← HW.out]; exact HB0.out.alloc HB0.out.size _
    clear hw
    go_wp2_with fail
    refine (FIN.out _ HB1.out).mono ?_
    rintro e w2 ⟨rfl, hb⟩
    go_wp2
    go_ret
    exact ⟨rfl, hb⟩
  have HL : Hid (Lk.longL (700 : Int).toNat ([s, h].map ByteArray.size) = false) := hl
  clear hl
  go_enter Tryd.func8, Tryd.ntmps8
  go_wp2_with fail
  refine (Long_any _ _ _ _ [s, h] _ _ (by decide) (by decide) rfl (SRow.two_at _ _ _ _ _ (by simp)) (by simp [maxLen]) (by simpa using ⟨hs, hh⟩)).mono ?_
  rintro e w1 ⟨rfl, hw⟩
  rw [HL.out]
  have HB1 : Hid (Below w.heap.size w w1) := by rw [← hw, ← HW.out]; exact HB0.out.alloc HB0.out.size _
  have HO1 : Hid (OrgAt w1 w.heap.size s h p) := by rw [← hw, ← HW.out]; exact HO0.out.alloc _
  have HP1 : Hid (OrgAt w1 (w.heap.size + 1) s' h' p') := by rw [← hw, ← HW.out]; exact HP0.out.alloc _
  clear hw
  obtain ⟨a0, a1, a2⟩ := HO1.out
  obtain ⟨b0, b1, b2⟩ := HP1.out
  have l1 := HO1.out.lt
  have l2 := HP1.out.lt
  go_wp2_with fail
  refine (Long_any _ _ _ _ [s', h'] _ _ (by decide) (by decide) rfl (SRow.two_at _ _ _ _ _ (by simp)) (by simp [maxLen]) (by simpa using ⟨hs', hh'⟩)).mono ?_
  rintro e w2 ⟨rfl, hw⟩
  have HB2 : Hid (Below w.heap.size w w2) := by rw [← hw]; exact HB1.out.alloc HB1.out.size _
  have HO2 : Hid (OrgAt w2 w.heap.size s h p) := by rw [← hw]; exact HO1.out.alloc _
  have HP2 : Hid (OrgAt w2 (w.heap.size + 1) s' h' p') := by rw [← hw]; exact HP1.out.alloc _
  clear hw a0 a1 a2 b0 b1 b2 l1 l2
  obtain ⟨a0, a1, a2⟩ := HO2.out
  obtain ⟨b0, b1, b2⟩ := HP2.out
  cases hl : Lk.longL 700 [s'.size, h'.size]
  case true =>
    have HL2 : Hid (Lk.longL (700 : Int).toNat ([s', h'].map ByteArray.size) = true) := hl
    clear hl
    rw [HL2.out]
    go_wp2_with fail
    refine (FIN.out _ HB2.out).mono ?_
    rintro e w3 ⟨rfl, hb⟩
    go_wp2
    go_ret
    exact ⟨rfl, hb⟩
  have HL2 : Hid (Lk.longL (700 : Int).toNat ([s', h'].map ByteArray.size) = false) := hl
  clear hl
  rw [HL2.out]
  go_wp2_with fail
  refine (Check_any _ _ _ _ hh).mono ?_
  rintro e w3 ⟨rfl, hb⟩
  have HB3 : Hid (Below w.heap.size w w3) := HB2.out.trans (hb.mono HB2.out.size)
  have HO3 := Lib.hid (HO2.out.below hb HO2.out.lt)
  have HP3 := Lib.hid (HP2.out.below hb HP2.out.lt)
  clear hb a0 a1 a2 b0 b1 b2
  obtain ⟨a0, a1, a2⟩ := HO3.out
  obtain ⟨b0, b1, b2⟩ := HP3.out
  cases hc : checkL s.data.toList h.data.toList p
  case false =>
    go_wp2_with fail
    refine (FIN.out _ HB3.out).mono ?_
    rintro e w4 ⟨rfl, hb⟩
    go_wp2
    go_ret
    exact ⟨rfl, hb⟩
  have HC := Lib.hid hc
  clear hc
  go_wp2_with fail
  refine (Check_any _ _ _ _ hh').mono ?_
  rintro e w4 ⟨rfl, hb⟩
  have HB4 : Hid (Below w.heap.size w w4) := HB3.out.trans (hb.mono HB3.out.size)
  have ho4 := HO3.out.below hb HO3.out.lt
  have hp4 := HP3.out.below hb HP3.out.lt
  clear hb a0 a1 a2 b0 b1 b2
  obtain ⟨a0, a1, a2⟩ := ho4
  obtain ⟨b0, b1, b2⟩ := hp4
  cases hc : checkL s'.data.toList h'.data.toList p'
  case false =>
    go_wp2_with fail
    refine (FIN.out _ HB4.out).mono ?_
    rintro e w5 ⟨rfl, hb⟩
    go_wp2
    go_ret
    exact ⟨rfl, hb⟩
  have HC' := Lib.hid hc
  clear hc
  go_wp2_with fail
  obtain ⟨t, ht⟩ : ∃ t : ByteArray, t = mk (showL s.data.toList h.data.toList p) := ⟨_, rfl⟩
  obtain ⟨u, hu⟩ : ∃ u : ByteArray, u = mk (keyL s.data.toList h.data.toList p) := ⟨_, rfl⟩
  have HT := Lib.hid ht
  have HU := Lib.hid hu
  clear ht hu
  refine mix_start (fun W => OrgAt W w.heap.size s h p ∧ OrgAt W (w.heap.size + 1) s' h' p') (by kernel_rfl) ?_
  have hF4 : OrgAt w4 w.heap.size s h p ∧ OrgAt w4 (w.heap.size + 1) s' h' p' := ⟨⟨a0, a1, a2⟩, b0, b1, b2⟩
  have hne : Nonempty (Held (fun W => OrgAt W w.heap.size s h p ∧ OrgAt W (w.heap.size + 1) s' h' p')) := ⟨⟨_, hF4⟩⟩
  have x0 : ∀ q : Held (fun W => OrgAt W w.heap.size s h p ∧ OrgAt W (w.heap.size + 1) s' h' p'), q.w.cell? ⟨w.heap.size, 0, none⟩ = some (.string s) := fun q => q.h.1.c0
  have x1 : ∀ q : Held (fun W => OrgAt W w.heap.size s h p ∧ OrgAt W (w.heap.size + 1) s' h' p'), q.w.cell? ⟨w.heap.size, 1, none⟩ = some (.string h) := fun q => q.h.1.c1
  have x2 : ∀ q : Held (fun W => OrgAt W w.heap.size s h p ∧ OrgAt W (w.heap.size + 1) s' h' p'), q.w.cell? ⟨w.heap.size, 2, none⟩ = some (.int .i64 p) := fun q => q.h.1.c2
  have y0 : ∀ q : Held (fun W => OrgAt W w.heap.size s h p ∧ OrgAt W (w.heap.size + 1) s' h' p'), q.w.cell? ⟨w.heap.size + 1, 0, none⟩ = some (.string s') := fun q => q.h.2.c0
  have y1 : ∀ q : Held (fun W => OrgAt W w.heap.size s h p ∧ OrgAt W (w.heap.size + 1) s' h' p'), q.w.cell? ⟨w.heap.size + 1, 1, none⟩ = some (.string h') := fun q => q.h.2.c1
  have y2 : ∀ q : Held (fun W => OrgAt W w.heap.size s h p ∧ OrgAt W (w.heap.size + 1) s' h' p'), q.w.cell? ⟨w.heap.size + 1, 2, none⟩ = some (.int .i64 p') := fun q => q.h.2.c2
  rcases two_cases s s' h h' p p' with hq | hq
  · obtain ⟨rfl, rfl, rfl⟩ := hq
    refine mix_seg [0, 2, 5, 6, 7] (by kernel_rfl) ⟨hF4.1.drew, hF4.2.drew⟩ ?_
    simp only [segOf, pickOps, pickOp]
    repeat (go_big_quiet_step (fail))
    refine wpQuiet_nil ?_
    refine mix_run 1 (by kernel_rfl) ?_
    simp only [segOf, pickOps, pickOp]
    go_wp2_with fail
    refine (Show_any _ _ _ _ hh (HE.out.below HB4.out).drew).mono ?_
    rintro e w5 ⟨rfl, hb⟩
    rw [← HT.out]
    have HB5 : Hid (Below w.heap.size w w5) := HB4.out.drew.trans (hb.mono HB4.out.size)
    have hF5 := And.intro (hF4.1.drew.below hb hF4.1.lt) (hF4.2.drew.below hb hF4.2.lt)
    clear hb
    go_wp2_with fail
    refine MixPost.normal hF5 ?_
    refine mix_run 3 (by kernel_rfl) ?_
    simp only [segOf, pickOps, pickOp]
    go_wp2_with fail
    refine (Show_any _ _ _ _ hh' (HE.out.below HB5.out)).mono ?_
    rintro e w6 ⟨rfl, hb⟩
    rw [← HT.out]
    have HB6 : Hid (Below w.heap.size w w6) := HB5.out.trans (hb.mono HB5.out.size)
    have hF6 := And.intro (hF5.1.below hb hF5.1.lt) (hF5.2.below hb hF5.2.lt)
    clear hb
    go_wp2_with fail
    refine MixPost.normal hF6 ?_
    refine mix_seg [4, 8, 9, 10, 12, 15, 16, 17] (by kernel_rfl) hF6 ?_
    simp only [segOf, pickOps, pickOp]
    repeat (go_big_quiet_step (fail))
    refine wpQuiet_nil ?_
    refine mix_run 11 (by kernel_rfl) ?_
    simp only [segOf, pickOps, pickOp]
    go_wp2_with fail
    refine (Key_any _ _ _ _ hh (HE.out.below HB6.out)).mono ?_
    rintro e w7 ⟨rfl, hb⟩
    rw [← HU.out]
    have HB7 : Hid (Below w.heap.size w w7) := HB6.out.trans (hb.mono HB6.out.size)
    have hF7 := And.intro (hF6.1.below hb hF6.1.lt) (hF6.2.below hb hF6.2.lt)
    clear hb
    go_wp2_with fail
    refine MixPost.normal hF7 ?_
    refine mix_run 13 (by kernel_rfl) ?_
    simp only [segOf, pickOps, pickOp]
    go_wp2_with fail
    refine (Key_any _ _ _ _ hh' (HE.out.below HB7.out)).mono ?_
    rintro e w8 ⟨rfl, hb⟩
    rw [← HU.out]
    have HB8 : Hid (Below w.heap.size w w8) := HB7.out.trans (hb.mono HB7.out.size)
    have hF8 := And.intro (hF7.1.below hb hF7.1.lt) (hF7.2.below hb hF7.2.lt)
    clear hb
    go_wp2_with fail
    refine MixPost.normal hF8 ?_
    refine mix_seg [14, 18, 19, 20] (by kernel_rfl) hF8 ?_
    simp only [segOf, pickOps, pickOp]
    repeat (go_big_quiet_step (fail))
    refine wpQuiet_nil ?_
    refine mix_run 21 (by kernel_rfl) ?_
    simp only [segOf, pickOps, pickOp]
    go_wp2_with fail
    refine (awake3_any _ (HE.out.below HB8.out)).mono ?_
    rintro e w9 ⟨rfl, hb⟩
    have HB9 : Hid (Below w.heap.size w w9) := HB8.out.trans (hb.mono HB8.out.size)
    have hF9 := And.intro (hF8.1.below hb hF8.1.lt) (hF8.2.below hb hF8.2.lt)
    clear hb
    go_wp2_with fail
    refine MixPost.normal hF9 ?_
    refine mix_seg [22, 23] (by kernel_rfl) hF9 ?_
    simp only [segOf, pickOps, pickOp]
    repeat (go_big_quiet_step (fail))
    refine wpQuiet_nil ?_
    refine mix_done (by kernel_rfl) ?_
    go_wp2
    go_ret
    exact ⟨rfl, HB9.out⟩
  · obtain ⟨t', ht'⟩ : ∃ t : ByteArray, t = mk (showL s'.data.toList h'.data.toList p') := ⟨_, rfl⟩
    obtain ⟨u', hu'⟩ : ∃ u : ByteArray, u = mk (keyL s'.data.toList h'.data.toList p') := ⟨_, rfl⟩
    have et : (t.toList == t'.toList) = false := by
      rw [HT.out, ht', ByteArray.toList_eq, ByteArray.toList_eq, mk_data, mk_data, beq_eq_false_iff_ne]
      intro e
      exact two_not hq (show_inj HC.out HC'.out e)
    have eu : (u.toList == u'.toList) = false := by
      rw [HU.out, hu', ByteArray.toList_eq, ByteArray.toList_eq, mk_data, mk_data, beq_eq_false_iff_ne]
      intro e
      exact two_not hq (key_inj HC.out HC'.out e)
    have HT' := Lib.hid ht'
    have HU' := Lib.hid hu'
    clear ht' hu'
    rcases hq with q1 | ⟨q0, q1⟩ | ⟨q0, q00, q1⟩
    · refine mix_seg [0, 2, 5, 6, 7] (by kernel_rfl) ⟨hF4.1.drew, hF4.2.drew⟩ ?_
      simp only [segOf, pickOps, pickOp]
      repeat (go_big_quiet_step (fail))
      refine wpQuiet_nil ?_
      refine mix_run 1 (by kernel_rfl) ?_
      simp only [segOf, pickOps, pickOp]
      go_wp2_with fail
      refine (Show_any _ _ _ _ hh (HE.out.below HB4.out).drew).mono ?_
      rintro e w5 ⟨rfl, hb⟩
      rw [← HT.out]
      have HB5 : Hid (Below w.heap.size w w5) := HB4.out.drew.trans (hb.mono HB4.out.size)
      have hF5 := And.intro (hF4.1.drew.below hb hF4.1.lt) (hF4.2.drew.below hb hF4.2.lt)
      clear hb
      go_wp2_with fail
      refine MixPost.normal hF5 ?_
      refine mix_run 3 (by kernel_rfl) ?_
      simp only [segOf, pickOps, pickOp]
      go_wp2_with fail
      refine (Show_any _ _ _ _ hh' (HE.out.below HB5.out)).mono ?_
      rintro e w6 ⟨rfl, hb⟩
      rw [← HT'.out]
      have HB6 : Hid (Below w.heap.size w w6) := HB5.out.trans (hb.mono HB5.out.size)
      have hF6 := And.intro (hF5.1.below hb hF5.1.lt) (hF5.2.below hb hF5.2.lt)
      clear hb
      go_wp2_with fail
      refine MixPost.normal hF6 ?_
      refine mix_seg [4, 8, 9, 10, 12, 15, 16, 17] (by kernel_rfl) hF6 ?_
      simp only [segOf, pickOps, pickOp]
      repeat (go_big_quiet_step (fail))
      refine wpQuiet_nil ?_
      refine mix_run 11 (by kernel_rfl) ?_
      simp only [segOf, pickOps, pickOp]
      go_wp2_with fail
      refine (Key_any _ _ _ _ hh (HE.out.below HB6.out)).mono ?_
      rintro e w7 ⟨rfl, hb⟩
      rw [← HU.out]
      have HB7 : Hid (Below w.heap.size w w7) := HB6.out.trans (hb.mono HB6.out.size)
      have hF7 := And.intro (hF6.1.below hb hF6.1.lt) (hF6.2.below hb hF6.2.lt)
      clear hb
      go_wp2_with fail
      refine MixPost.normal hF7 ?_
      refine mix_run 13 (by kernel_rfl) ?_
      simp only [segOf, pickOps, pickOp]
      go_wp2_with fail
      refine (Key_any _ _ _ _ hh' (HE.out.below HB7.out)).mono ?_
      rintro e w8 ⟨rfl, hb⟩
      rw [← HU'.out]
      have HB8 : Hid (Below w.heap.size w w8) := HB7.out.trans (hb.mono HB7.out.size)
      have hF8 := And.intro (hF7.1.below hb hF7.1.lt) (hF7.2.below hb hF7.2.lt)
      clear hb
      go_wp2_with fail
      refine MixPost.normal hF8 ?_
      refine mix_seg [14, 18, 19, 20] (by kernel_rfl) hF8 ?_
      simp only [segOf, pickOps, pickOp]
      repeat (go_big_quiet_step (fail))
      refine wpQuiet_nil ?_
      refine mix_run 21 (by kernel_rfl) ?_
      simp only [segOf, pickOps, pickOp]
      go_wp2_with fail
      refine (awake3_any _ (HE.out.below HB8.out)).mono ?_
      rintro e w9 ⟨rfl, hb⟩
      have HB9 : Hid (Below w.heap.size w w9) := HB8.out.trans (hb.mono HB8.out.size)
      have hF9 := And.intro (hF8.1.below hb hF8.1.lt) (hF8.2.below hb hF8.2.lt)
      clear hb
      go_wp2_with fail
      refine MixPost.normal hF9 ?_
      refine mix_seg [22, 23] (by kernel_rfl) hF9 ?_
      simp only [segOf, pickOps, pickOp]
      repeat (go_big_quiet_step (fail))
      refine wpQuiet_nil ?_
      refine mix_done (by kernel_rfl) ?_
      go_wp2
      go_ret
      exact ⟨rfl, HB9.out⟩
    · refine mix_seg [0, 2, 5, 6, 7] (by kernel_rfl) ⟨hF4.1.drew, hF4.2.drew⟩ ?_
      simp only [segOf, pickOps, pickOp]
      repeat (go_big_quiet_step (fail))
      refine wpQuiet_nil ?_
      refine mix_run 1 (by kernel_rfl) ?_
      simp only [segOf, pickOps, pickOp]
      go_wp2_with fail
      refine (Show_any _ _ _ _ hh (HE.out.below HB4.out).drew).mono ?_
      rintro e w5 ⟨rfl, hb⟩
      rw [← HT.out]
      have HB5 : Hid (Below w.heap.size w w5) := HB4.out.drew.trans (hb.mono HB4.out.size)
      have hF5 := And.intro (hF4.1.drew.below hb hF4.1.lt) (hF4.2.drew.below hb hF4.2.lt)
      clear hb
      go_wp2_with fail
      refine MixPost.normal hF5 ?_
      refine mix_run 3 (by kernel_rfl) ?_
      simp only [segOf, pickOps, pickOp]
      go_wp2_with fail
      refine (Show_any _ _ _ _ hh' (HE.out.below HB5.out)).mono ?_
      rintro e w6 ⟨rfl, hb⟩
      rw [← HT'.out]
      have HB6 : Hid (Below w.heap.size w w6) := HB5.out.trans (hb.mono HB5.out.size)
      have hF6 := And.intro (hF5.1.below hb hF5.1.lt) (hF5.2.below hb hF5.2.lt)
      clear hb
      go_wp2_with fail
      refine MixPost.normal hF6 ?_
      refine mix_seg [4, 8, 9, 10, 12, 15, 16, 17] (by kernel_rfl) hF6 ?_
      simp only [segOf, pickOps, pickOp]
      repeat (go_big_quiet_step (fail))
      refine wpQuiet_nil ?_
      refine mix_run 11 (by kernel_rfl) ?_
      simp only [segOf, pickOps, pickOp]
      go_wp2_with fail
      refine (Key_any _ _ _ _ hh (HE.out.below HB6.out)).mono ?_
      rintro e w7 ⟨rfl, hb⟩
      rw [← HU.out]
      have HB7 : Hid (Below w.heap.size w w7) := HB6.out.trans (hb.mono HB6.out.size)
      have hF7 := And.intro (hF6.1.below hb hF6.1.lt) (hF6.2.below hb hF6.2.lt)
      clear hb
      go_wp2_with fail
      refine MixPost.normal hF7 ?_
      refine mix_run 13 (by kernel_rfl) ?_
      simp only [segOf, pickOps, pickOp]
      go_wp2_with fail
      refine (Key_any _ _ _ _ hh' (HE.out.below HB7.out)).mono ?_
      rintro e w8 ⟨rfl, hb⟩
      rw [← HU'.out]
      have HB8 : Hid (Below w.heap.size w w8) := HB7.out.trans (hb.mono HB7.out.size)
      have hF8 := And.intro (hF7.1.below hb hF7.1.lt) (hF7.2.below hb hF7.2.lt)
      clear hb
      go_wp2_with fail
      refine MixPost.normal hF8 ?_
      refine mix_seg [14, 18, 19, 20] (by kernel_rfl) hF8 ?_
      simp only [segOf, pickOps, pickOp]
      repeat (go_big_quiet_step (fail))
      refine wpQuiet_nil ?_
      refine mix_run 21 (by kernel_rfl) ?_
      simp only [segOf, pickOps, pickOp]
      go_wp2_with fail
      refine (awake3_any _ (HE.out.below HB8.out)).mono ?_
      rintro e w9 ⟨rfl, hb⟩
      have HB9 : Hid (Below w.heap.size w w9) := HB8.out.trans (hb.mono HB8.out.size)
      have hF9 := And.intro (hF8.1.below hb hF8.1.lt) (hF8.2.below hb hF8.2.lt)
      clear hb
      go_wp2_with fail
      refine MixPost.normal hF9 ?_
      refine mix_seg [22, 23] (by kernel_rfl) hF9 ?_
      simp only [segOf, pickOps, pickOp]
      repeat (go_big_quiet_step (fail))
      refine wpQuiet_nil ?_
      refine mix_done (by kernel_rfl) ?_
      go_wp2
      go_ret
      exact ⟨rfl, HB9.out⟩
    · refine mix_seg [0, 2, 5, 6, 7] (by kernel_rfl) ⟨hF4.1.drew, hF4.2.drew⟩ ?_
      simp only [segOf, pickOps, pickOp]
      repeat (go_big_quiet_step (fail))
      refine wpQuiet_nil ?_
      refine mix_run 1 (by kernel_rfl) ?_
      simp only [segOf, pickOps, pickOp]
      go_wp2_with fail
      refine (Show_any _ _ _ _ hh (HE.out.below HB4.out).drew).mono ?_
      rintro e w5 ⟨rfl, hb⟩
      rw [← HT.out]
      have HB5 : Hid (Below w.heap.size w w5) := HB4.out.drew.trans (hb.mono HB4.out.size)
      have hF5 := And.intro (hF4.1.drew.below hb hF4.1.lt) (hF4.2.drew.below hb hF4.2.lt)
      clear hb
      go_wp2_with fail
      refine MixPost.normal hF5 ?_
      refine mix_run 3 (by kernel_rfl) ?_
      simp only [segOf, pickOps, pickOp]
      go_wp2_with fail
      refine (Show_any _ _ _ _ hh' (HE.out.below HB5.out)).mono ?_
      rintro e w6 ⟨rfl, hb⟩
      rw [← HT'.out]
      have HB6 : Hid (Below w.heap.size w w6) := HB5.out.trans (hb.mono HB5.out.size)
      have hF6 := And.intro (hF5.1.below hb hF5.1.lt) (hF5.2.below hb hF5.2.lt)
      clear hb
      go_wp2_with fail
      refine MixPost.normal hF6 ?_
      refine mix_seg [4, 8, 9, 10, 12, 15, 16, 17] (by kernel_rfl) hF6 ?_
      simp only [segOf, pickOps, pickOp]
      repeat (go_big_quiet_step (fail))
      refine wpQuiet_nil ?_
      refine mix_run 11 (by kernel_rfl) ?_
      simp only [segOf, pickOps, pickOp]
      go_wp2_with fail
      refine (Key_any _ _ _ _ hh (HE.out.below HB6.out)).mono ?_
      rintro e w7 ⟨rfl, hb⟩
      rw [← HU.out]
      have HB7 : Hid (Below w.heap.size w w7) := HB6.out.trans (hb.mono HB6.out.size)
      have hF7 := And.intro (hF6.1.below hb hF6.1.lt) (hF6.2.below hb hF6.2.lt)
      clear hb
      go_wp2_with fail
      refine MixPost.normal hF7 ?_
      refine mix_run 13 (by kernel_rfl) ?_
      simp only [segOf, pickOps, pickOp]
      go_wp2_with fail
      refine (Key_any _ _ _ _ hh' (HE.out.below HB7.out)).mono ?_
      rintro e w8 ⟨rfl, hb⟩
      rw [← HU'.out]
      have HB8 : Hid (Below w.heap.size w w8) := HB7.out.trans (hb.mono HB7.out.size)
      have hF8 := And.intro (hF7.1.below hb hF7.1.lt) (hF7.2.below hb hF7.2.lt)
      clear hb
      go_wp2_with fail
      refine MixPost.normal hF8 ?_
      refine mix_seg [14, 18, 19, 20] (by kernel_rfl) hF8 ?_
      simp only [segOf, pickOps, pickOp]
      repeat (go_big_quiet_step (fail))
      refine wpQuiet_nil ?_
      refine mix_run 21 (by kernel_rfl) ?_
      simp only [segOf, pickOps, pickOp]
      go_wp2_with fail
      refine (awake3_any _ (HE.out.below HB8.out)).mono ?_
      rintro e w9 ⟨rfl, hb⟩
      have HB9 : Hid (Below w.heap.size w w9) := HB8.out.trans (hb.mono HB8.out.size)
      have hF9 := And.intro (hF8.1.below hb hF8.1.lt) (hF8.2.below hb hF8.2.lt)
      clear hb
      go_wp2_with fail
      refine MixPost.normal hF9 ?_
      refine mix_seg [22, 23] (by kernel_rfl) hF9 ?_
      simp only [segOf, pickOps, pickOp]
      repeat (go_big_quiet_step (fail))
      refine wpQuiet_nil ?_
      refine mix_done (by kernel_rfl) ?_
      go_wp2
      go_ret
      exact ⟨rfl, HB9.out⟩
end Go.Proofs.YtbnkfocaegcjdaaDoor
