/-
  The contracts of the document's own out and Use of hosts over this seat's program. Conditions: the table lies there.
-/
import Derived.Test.YtbnmldfiheffoaaNRef
namespace Go.Proofs.Ytbnmldfiheffoaa
open Go.RowKit

set_option maxRecDepth 20000 in
set_option maxHeartbeats 3200000 in
theorem tout_any (g M k : Nat) (v : Value) (l : List Ho) (w : World) (h : TbAt 102 w g M v l) (hk : k < l.length) :
    Calls Try.prog 56 #[.pointer (some ⟨g, 0, none⟩), .int .i64 (k : Int)] w fun e w' => e = .returned (.tuple #[]) ∧
      ∃ v', TbAt 102 w' g M v' (l.eraseIdx k) ∧ Only [g] w w' ∧ ∀ x ∈ ownL v', w.heap.size ≤ x := by
  obtain ⟨i0, hi, hz0, hz1, hz2⟩ := info_partsU infoUR
  obtain ⟨A0, cap, rfl, hlc, hcm⟩ := h.room
  obtain ⟨gr, rfl, _, hgr⟩ := h.at_ hk
  have HT := Lib.hid h
  have HL : Hid (l.length ≤ 32) := Nat.le_trans h.ok.len h.ok.m2
  have HOE := Lib.hid (h.ok.erase k)
  obtain ⟨W0, hW0⟩ : ∃ W0, W0 = w.drew := ⟨_, rfl⟩
  have HO0 : Hid (Only [] w W0) := by show Only _ _ _; rw [hW0]; exact (Only.refl _ _).drew
  have HT0 := Lib.hid (h.old HO0.out)
  have HTK : Hid ((ucs (l.take k)).length = k * 2 ∧ ∀ j u, (ucs (l.take k))[j]? = some u → W0.cell? ((⟨gr, 0, none⟩ : Addr).add j) = some u) := by
    have h1 := HT0.out.row.cut k (by omega)
    have hl : (l.take k).length = k := by simp; omega
    refine ⟨by rw [ucs_len, hl], ?_⟩
    unfold URow at h1
    exact World.ownsRow.cells h1 (g := gr) rfl
  have HSZ : Hid (0 + k ≤ maxLen ∧ (0 + k) * 24 ≤ 140737488355328 ∧ g + 1 ≤ W0.heap.size) := ⟨by have := HL.out; unfold maxLen; omega, by have := HL.out; omega, by have := HT0.out.head.lt; omega⟩
  have HMK : Hid (∀ (W : World) (u : Value), W.ownsRow (g + 1) 102 2 u (0 + k) ([] ++ ucs (l.take k)) → URow 102 W (g + 1) u (l.take k)) := by
    show ∀ (W : World) (u : Value), _
    intro W u h1
    have hl : (l.take k).length = k := by simp; omega
    unfold URow
    rw [hl]
    rw [Nat.zero_add, List.nil_append] at h1
    exact h1
  have HAT : Hid (∀ u : Value, (u.ownBlock = (Value.slice none 0 0).ownBlock ∨ u.ownBlock = some W0.heap.size) → ∀ x ∈ ownL u, w.heap.size ≤ x) := by
    show ∀ u : Value, _
    intro u hu x hx
    have h2 := mem_ownL.1 hx
    have h3 := HO0.out.size
    rcases hu with h | h
    · rw [h] at h2; simp [Value.ownBlock] at h2
    · rw [h] at h2; simp at h2; omega
  have HDR : Hid ((ucs (l.drop (k + 1))).length = (l.length - (k + 1)) * 2) := by show _ = _; rw [ucs_len, List.length_drop]
  have HM2 : Hid (∀ (W : World) (u : Value), W.ownsRow (g + 1) 102 2 u ((l.take k).length + (l.length - (k + 1))) (ucs (l.take k) ++ ucs (l.drop (k + 1))) → URow 102 W (g + 1) u (l.eraseIdx k)) := by
    show ∀ (W : World) (u : Value), _
    intro W u h1
    unfold URow
    rw [List.eraseIdx_eq_take_drop_succ, List.length_append, ucs_append, List.length_drop]
    exact h1
  obtain ⟨A, hA, HDC⟩ : ∃ A : Addr, (if cap = k + 1 then (some (⟨gr, 0, none⟩ : Addr)) else some ⟨gr, (k + 1) * 2, none⟩) = some A ∧ Hid (∀ W, TbAt 102 W g M (.slice (some ⟨gr, 0, none⟩) l.length cap) l → ∀ j u, (ucs (l.drop (k + 1)))[j]? = some u → W.cell? (A.add j) = some u) := by
    by_cases hc : cap = k + 1
    · refine ⟨⟨gr, 0, none⟩, by simp [hc], fun W _ t u hu => ?_⟩
      rw [List.drop_eq_nil_of_le (by omega)] at hu
      simp [ucs] at hu
    · refine ⟨⟨gr, (k + 1) * 2, none⟩, by simp [hc], fun W hW t u hu => ?_⟩
      have h1 := hW.row
      unfold URow at h1
      have h2 := World.ownsRow.cells h1 (g := gr) rfl ((k + 1) * 2 + t) u (by rw [← List.getElem?_drop, ucs_drop]; exact hu)
      have e : (⟨gr, (k + 1) * 2, none⟩ : Addr).add t = (⟨gr, 0, none⟩ : Addr).add ((k + 1) * 2 + t) := by unfold Addr.add; split <;> split <;> simp_all
      rw [e]; exact h2
  have hic : k ≤ cap := by omega
  have hkl : k ≤ l.length := by omega
  have hkl1 : k + 1 ≤ l.length := by omega
  have hjc : k + 1 ≤ cap := by omega
  have hd2 := HT0.out.head.c1
  clear h hgr
  go_enter Try.func56, Try.ntmps56
  go_wp2_with fail
  refine mix_start (fun _ => True) (by kernel_rfl) ?_
  rw [← hW0]
  clear hW0
  have hne : Nonempty (Held (fun _ => True)) := ⟨⟨W0, trivial⟩⟩
  refine mix_seg [0, 1, 2, 3, 5, 8, 9, 10, 12, 13] (by kernel_rfl) trivial ?_
  simp only [segOf, pickOps, pickOp]
  repeat (go_big_quiet_step (fail))
  refine wpQuiet_nil ?_
  refine mix_several [4, 11] (by kernel_rfl) ?_
  intro i hi'
  simp only [List.mem_cons, List.not_mem_nil, or_false] at hi'
  rcases hi' with rfl | rfl
  · simp only [segOf, pickOps, pickOp]
    go_wp2_with fail
    refine MixPost.normal trivial ?_
    refine mix_seg [6] (by kernel_rfl) trivial ?_
    simp only [segOf, pickOps, pickOp]
    repeat (go_big_quiet_step (fail))
    refine wpQuiet_nil ?_
    refine mix_several [7, 11] (by kernel_rfl) ?_
    intro i hi'
    simp only [List.mem_cons, List.not_mem_nil, or_false] at hi'
    rcases hi' with rfl | rfl
    · simp only [segOf, pickOps, pickOp]
      refine wpList_append_own_at W0 rfl (.const (.slice none 0 0)) (.tmp 10) 74 rfl (g + 1) 102 i0 (.agg #[.string ⟨#[]⟩, .int .i64 0]) 2 24 Try.underlying74 hi hz0 hz1 hz2 rfl (by decide) (.slice none 0 0) 0 [] rfl (World.ownsRow_nil _ _ _ _) ⟨gr, 0, none⟩ k cap (ucs (l.take k)) rfl HTK.out.1 HTK.out.2 (ucs_one _) HSZ.out.1 HSZ.out.2.1 HSZ.out.2.2 ?_
      intro v1 w1 hown1 hgrow1 _ hat1
      have HO1 : Hid (Only [] W0 w1) := Only.of_grown_own hgrow1 (fun g hg => by simp [Value.ownBlock] at hg)
      have HX1 : Hid (URow 102 w1 (g + 1) v1 (l.take k)) := HMK.out w1 v1 hown1
      have HA1 : Hid (∀ x ∈ ownL v1, w.heap.size ≤ x) := HAT.out v1 hat1
      have HT1 := Lib.hid (HT0.out.old HO1.out)
      have hd3 := HT1.out.head.c1
      clear hown1 hgrow1 hat1
      go_wp2_with fail
      refine MixPost.normal trivial ?_
      refine mix_run 11 (by kernel_rfl) ?_
      simp only [segOf, pickOps, pickOp]
      go_wp2_with fail
      refine MixPost.normal trivial ?_
      refine mix_seg [14] (by kernel_rfl) trivial ?_
      simp only [segOf, pickOps, pickOp]
      repeat (go_big_quiet_step (fail))
      refine wpQuiet_nil ?_
      refine mix_run 15 (by kernel_rfl) ?_
      simp only [segOf, pickOps, pickOp]
      clear hd2 hd3
      refine wpList_append_own_at w1 rfl (.tmp 11) (.tmp 18) 74 rfl (g + 1) 102 i0 (.agg #[.string ⟨#[]⟩, .int .i64 0]) 2 24 Try.underlying74 hi hz0 hz1 hz2 rfl (by decide) v1 (l.take k).length (ucs (l.take k)) rfl HX1.out A (l.length - (k + 1)) (cap - (k + 1)) (ucs (l.drop (k + 1))) (by simp [Act.eval]) HDR.out (HDC.out w1 HT1.out) (ucs_one _) ?_ ?_ ?_ ?_
      · have := HL.out; rw [List.length_take]; unfold maxLen; omega
      · have := HL.out; rw [List.length_take]; omega
      · have := HT1.out.head.lt; omega
      intro v2 w2 hown2 hgrow2 _ hat2
      have HO2 : Hid (Only (ownL v1) w1 w2) := Only.of_grown_own hgrow2 (fun g hg => mem_ownL.2 hg)
      have HX2 : Hid (URow 102 w2 (g + 1) v2 (l.eraseIdx k)) := HM2.out w2 v2 hown2
      have HA2 : Hid (∀ x ∈ ownL v2, w.heap.size ≤ x) := by
        show ∀ x ∈ _, _
        intro x hx
        rcases hat2 with h | h
        · exact HA1.out x (by rw [mem_ownL, ← h]; exact mem_ownL.1 hx)
        · have h2 := mem_ownL.1 hx
          rw [h] at h2
          have h3 := HO0.out.size
          have h4 := HO1.out.size
          simp at h2
          omega
      have HD2 : Hid (TbHead w2 g M (.slice (some ⟨gr, 0, none⟩) l.length cap)) := HT1.out.head.only HO2.out (fun hm => by have h1 := HA1.out _ hm; have h2 := HT.out.head.lt; omega)
      have HOB : Hid (Only [g] w w2) := ((HO0.out.trans HO1.out).mono (by simp)).next HO2.out (fun x hx => .inr (HA1.out x hx))
      clear hown2 hgrow2 hat2
      obtain ⟨A2, cap2, e2, _, _⟩ := HX2.out.slice
      subst e2
      obtain ⟨W3, hW3⟩ : ∃ W3, W3 = w2.setCell ⟨g, 1, none⟩ (.slice A2 (l.eraseIdx k).length cap2) := ⟨_, rfl⟩
      have HW3 : Hid (TbAt 102 W3 g M (.slice A2 (l.eraseIdx k).length cap2) (l.eraseIdx k)) := by
        show TbAt _ _ _ _ _ _
        rw [hW3]
        exact ⟨HD2.out.set1 _, HX2.out.setBelow _ _, HOE.out⟩
      have HO3 : Hid (Only [g] w W3) := by show Only _ _ _; rw [hW3]; exact HOB.out.setCell (p := ⟨g, 1, none⟩) (by simp) _
      have hd2 := HD2.out.c1
      have hd3 := HD2.out.z1
      go_wp2_with fail
      refine MixPost.normal trivial ?_
      refine mix_seg [16, 17] (by kernel_rfl) trivial ?_
      simp only [segOf, pickOps, pickOp]
      repeat (go_big_quiet_step (fail))
      refine wpQuiet_nil ?_
      refine mix_run 18 (by kernel_rfl) ?_
      simp only [segOf, pickOps, pickOp]
      go_wp2_with fail
      rw [← hW3]
      clear hW3 hd2 hd3
      refine MixPost.normal trivial ?_
      refine mix_done (by kernel_rfl) ?_
      go_wp2
      go_end0
      exact ⟨rfl, _, HW3.out, HO3.out, HA2.out⟩
    · simp only [segOf, pickOps, pickOp]
      go_wp2_with fail
      refine MixPost.normal trivial ?_
      refine mix_seg [14] (by kernel_rfl) trivial ?_
      simp only [segOf, pickOps, pickOp]
      repeat (go_big_quiet_step (fail))
      refine wpQuiet_nil ?_
      refine mix_run 7 (by kernel_rfl) ?_
      simp only [segOf, pickOps, pickOp]
      refine wpList_append_own_at W0 rfl (.const (.slice none 0 0)) (.tmp 10) 74 rfl (g + 1) 102 i0 (.agg #[.string ⟨#[]⟩, .int .i64 0]) 2 24 Try.underlying74 hi hz0 hz1 hz2 rfl (by decide) (.slice none 0 0) 0 [] rfl (World.ownsRow_nil _ _ _ _) ⟨gr, 0, none⟩ k cap (ucs (l.take k)) rfl HTK.out.1 HTK.out.2 (ucs_one _) HSZ.out.1 HSZ.out.2.1 HSZ.out.2.2 ?_
      intro v1 w1 hown1 hgrow1 _ hat1
      have HO1 : Hid (Only [] W0 w1) := Only.of_grown_own hgrow1 (fun g hg => by simp [Value.ownBlock] at hg)
      have HX1 : Hid (URow 102 w1 (g + 1) v1 (l.take k)) := HMK.out w1 v1 hown1
      have HA1 : Hid (∀ x ∈ ownL v1, w.heap.size ≤ x) := HAT.out v1 hat1
      have HT1 := Lib.hid (HT0.out.old HO1.out)
      have hd3 := HT1.out.head.c1
      clear hown1 hgrow1 hat1
      go_wp2_with fail
      refine MixPost.normal trivial ?_
      refine mix_run 15 (by kernel_rfl) ?_
      simp only [segOf, pickOps, pickOp]
      clear hd2 hd3
      refine wpList_append_own_at w1 rfl (.tmp 11) (.tmp 18) 74 rfl (g + 1) 102 i0 (.agg #[.string ⟨#[]⟩, .int .i64 0]) 2 24 Try.underlying74 hi hz0 hz1 hz2 rfl (by decide) v1 (l.take k).length (ucs (l.take k)) rfl HX1.out A (l.length - (k + 1)) (cap - (k + 1)) (ucs (l.drop (k + 1))) (by simp [Act.eval]) HDR.out (HDC.out w1 HT1.out) (ucs_one _) ?_ ?_ ?_ ?_
      · have := HL.out; rw [List.length_take]; unfold maxLen; omega
      · have := HL.out; rw [List.length_take]; omega
      · have := HT1.out.head.lt; omega
      intro v2 w2 hown2 hgrow2 _ hat2
      have HO2 : Hid (Only (ownL v1) w1 w2) := Only.of_grown_own hgrow2 (fun g hg => mem_ownL.2 hg)
      have HX2 : Hid (URow 102 w2 (g + 1) v2 (l.eraseIdx k)) := HM2.out w2 v2 hown2
      have HA2 : Hid (∀ x ∈ ownL v2, w.heap.size ≤ x) := by
        show ∀ x ∈ _, _
        intro x hx
        rcases hat2 with h | h
        · exact HA1.out x (by rw [mem_ownL, ← h]; exact mem_ownL.1 hx)
        · have h2 := mem_ownL.1 hx
          rw [h] at h2
          have h3 := HO0.out.size
          have h4 := HO1.out.size
          simp at h2
          omega
      have HD2 : Hid (TbHead w2 g M (.slice (some ⟨gr, 0, none⟩) l.length cap)) := HT1.out.head.only HO2.out (fun hm => by have h1 := HA1.out _ hm; have h2 := HT.out.head.lt; omega)
      have HOB : Hid (Only [g] w w2) := ((HO0.out.trans HO1.out).mono (by simp)).next HO2.out (fun x hx => .inr (HA1.out x hx))
      clear hown2 hgrow2 hat2
      obtain ⟨A2, cap2, e2, _, _⟩ := HX2.out.slice
      subst e2
      obtain ⟨W3, hW3⟩ : ∃ W3, W3 = w2.setCell ⟨g, 1, none⟩ (.slice A2 (l.eraseIdx k).length cap2) := ⟨_, rfl⟩
      have HW3 : Hid (TbAt 102 W3 g M (.slice A2 (l.eraseIdx k).length cap2) (l.eraseIdx k)) := by
        show TbAt _ _ _ _ _ _
        rw [hW3]
        exact ⟨HD2.out.set1 _, HX2.out.setBelow _ _, HOE.out⟩
      have HO3 : Hid (Only [g] w W3) := by show Only _ _ _; rw [hW3]; exact HOB.out.setCell (p := ⟨g, 1, none⟩) (by simp) _
      have hd2 := HD2.out.c1
      have hd3 := HD2.out.z1
      go_wp2_with fail
      refine MixPost.normal trivial ?_
      refine mix_seg [16, 17] (by kernel_rfl) trivial ?_
      simp only [segOf, pickOps, pickOp]
      repeat (go_big_quiet_step (fail))
      refine wpQuiet_nil ?_
      refine mix_run 18 (by kernel_rfl) ?_
      simp only [segOf, pickOps, pickOp]
      go_wp2_with fail
      rw [← hW3]
      clear hW3 hd2 hd3
      refine MixPost.normal trivial ?_
      refine mix_done (by kernel_rfl) ?_
      go_wp2
      go_end0
      exact ⟨rfl, _, HW3.out, HO3.out, HA2.out⟩
  · simp only [segOf, pickOps, pickOp]
    go_wp2_with fail
    refine MixPost.normal trivial ?_
    refine mix_seg [14] (by kernel_rfl) trivial ?_
    simp only [segOf, pickOps, pickOp]
    repeat (go_big_quiet_step (fail))
    refine wpQuiet_nil ?_
    refine mix_run 4 (by kernel_rfl) ?_
    simp only [segOf, pickOps, pickOp]
    go_wp2_with fail
    refine MixPost.normal trivial ?_
    refine mix_seg [6] (by kernel_rfl) trivial ?_
    simp only [segOf, pickOps, pickOp]
    repeat (go_big_quiet_step (fail))
    refine wpQuiet_nil ?_
    refine mix_run 7 (by kernel_rfl) ?_
    simp only [segOf, pickOps, pickOp]
    refine wpList_append_own_at W0 rfl (.const (.slice none 0 0)) (.tmp 10) 74 rfl (g + 1) 102 i0 (.agg #[.string ⟨#[]⟩, .int .i64 0]) 2 24 Try.underlying74 hi hz0 hz1 hz2 rfl (by decide) (.slice none 0 0) 0 [] rfl (World.ownsRow_nil _ _ _ _) ⟨gr, 0, none⟩ k cap (ucs (l.take k)) rfl HTK.out.1 HTK.out.2 (ucs_one _) HSZ.out.1 HSZ.out.2.1 HSZ.out.2.2 ?_
    intro v1 w1 hown1 hgrow1 _ hat1
    have HO1 : Hid (Only [] W0 w1) := Only.of_grown_own hgrow1 (fun g hg => by simp [Value.ownBlock] at hg)
    have HX1 : Hid (URow 102 w1 (g + 1) v1 (l.take k)) := HMK.out w1 v1 hown1
    have HA1 : Hid (∀ x ∈ ownL v1, w.heap.size ≤ x) := HAT.out v1 hat1
    have HT1 := Lib.hid (HT0.out.old HO1.out)
    have hd3 := HT1.out.head.c1
    clear hown1 hgrow1 hat1
    go_wp2_with fail
    refine MixPost.normal trivial ?_
    refine mix_run 15 (by kernel_rfl) ?_
    simp only [segOf, pickOps, pickOp]
    clear hd2 hd3
    refine wpList_append_own_at w1 rfl (.tmp 11) (.tmp 18) 74 rfl (g + 1) 102 i0 (.agg #[.string ⟨#[]⟩, .int .i64 0]) 2 24 Try.underlying74 hi hz0 hz1 hz2 rfl (by decide) v1 (l.take k).length (ucs (l.take k)) rfl HX1.out A (l.length - (k + 1)) (cap - (k + 1)) (ucs (l.drop (k + 1))) (by simp [Act.eval]) HDR.out (HDC.out w1 HT1.out) (ucs_one _) ?_ ?_ ?_ ?_
    · have := HL.out; rw [List.length_take]; unfold maxLen; omega
    · have := HL.out; rw [List.length_take]; omega
    · have := HT1.out.head.lt; omega
    intro v2 w2 hown2 hgrow2 _ hat2
    have HO2 : Hid (Only (ownL v1) w1 w2) := Only.of_grown_own hgrow2 (fun g hg => mem_ownL.2 hg)
    have HX2 : Hid (URow 102 w2 (g + 1) v2 (l.eraseIdx k)) := HM2.out w2 v2 hown2
    have HA2 : Hid (∀ x ∈ ownL v2, w.heap.size ≤ x) := by
      show ∀ x ∈ _, _
      intro x hx
      rcases hat2 with h | h
      · exact HA1.out x (by rw [mem_ownL, ← h]; exact mem_ownL.1 hx)
      · have h2 := mem_ownL.1 hx
        rw [h] at h2
        have h3 := HO0.out.size
        have h4 := HO1.out.size
        simp at h2
        omega
    have HD2 : Hid (TbHead w2 g M (.slice (some ⟨gr, 0, none⟩) l.length cap)) := HT1.out.head.only HO2.out (fun hm => by have h1 := HA1.out _ hm; have h2 := HT.out.head.lt; omega)
    have HOB : Hid (Only [g] w w2) := ((HO0.out.trans HO1.out).mono (by simp)).next HO2.out (fun x hx => .inr (HA1.out x hx))
    clear hown2 hgrow2 hat2
    obtain ⟨A2, cap2, e2, _, _⟩ := HX2.out.slice
    subst e2
    obtain ⟨W3, hW3⟩ : ∃ W3, W3 = w2.setCell ⟨g, 1, none⟩ (.slice A2 (l.eraseIdx k).length cap2) := ⟨_, rfl⟩
    have HW3 : Hid (TbAt 102 W3 g M (.slice A2 (l.eraseIdx k).length cap2) (l.eraseIdx k)) := by
      show TbAt _ _ _ _ _ _
      rw [hW3]
      exact ⟨HD2.out.set1 _, HX2.out.setBelow _ _, HOE.out⟩
    have HO3 : Hid (Only [g] w W3) := by show Only _ _ _; rw [hW3]; exact HOB.out.setCell (p := ⟨g, 1, none⟩) (by simp) _
    have hd2 := HD2.out.c1
    have hd3 := HD2.out.z1
    go_wp2_with fail
    refine MixPost.normal trivial ?_
    refine mix_seg [16, 17] (by kernel_rfl) trivial ?_
    simp only [segOf, pickOps, pickOp]
    repeat (go_big_quiet_step (fail))
    refine wpQuiet_nil ?_
    refine mix_run 18 (by kernel_rfl) ?_
    simp only [segOf, pickOps, pickOp]
    go_wp2_with fail
    rw [← hW3]
    clear hW3 hd2 hd3
    refine MixPost.normal trivial ?_
    refine mix_done (by kernel_rfl) ?_
    go_wp2
    go_end0
    exact ⟨rfl, _, HW3.out, HO3.out, HA2.out⟩
end Go.Proofs.Ytbnmldfiheffoaa
