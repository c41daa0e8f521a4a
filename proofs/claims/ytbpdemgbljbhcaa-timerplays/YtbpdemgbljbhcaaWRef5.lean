/-
  The contract of the document's own Cancel over this seat's program. Conditions: at most 500 timers are armed.
-/
import Derived.Test.YtbpdemgbljbhcaaWRef2
import Derived.Maps.AppendAt
namespace Go.Proofs.Ytbpdemgbljbhcaa
open Go.RowKit

/-- the first of a number taken out of a list -/
theorem without_at {s : List Al} (hn : (s.map (fun a => a.2.1)).Nodup) {k : Nat} (hk : k < s.length) : without (nth s k).2.1 s = s.take k ++ s.drop (k + 1) := by
  obtain ⟨m, hm⟩ : ∃ m, m = nth s k := ⟨_, rfl⟩
  rw [← hm]
  have h0 : s = s.take k ++ m :: s.drop (k + 1) := by
    rw [hm, nth_eq hk]; simp
  obtain ⟨l1, h1⟩ : ∃ l1, l1 = s.take k := ⟨_, rfl⟩
  obtain ⟨l2, h2⟩ : ∃ l2, l2 = s.drop (k + 1) := ⟨_, rfl⟩
  rw [← h1, ← h2] at h0 ⊢
  clear hm h1 h2
  subst h0
  rw [List.map_append, List.map_cons, List.nodup_append, List.nodup_cons] at hn
  obtain ⟨_, ⟨h3, _⟩, h5⟩ := hn
  have e1 : without m.2.1 l1 = l1 := without_none (by
    intro a ha e
    exact h5 _ (List.mem_map.2 ⟨a, ha, rfl⟩) _ List.mem_cons_self e)
  have e2 : without m.2.1 l2 = l2 := without_none (by
    intro a ha e
    exact h3 (List.mem_map.2 ⟨a, ha, e⟩))
  unfold Proofs.Ytbpdemgbljbhcaa.without at *
  rw [List.filter_append, List.filter_cons, if_neg (by simp), e1, e2]

theorem add_off (g n j : Nat) : (⟨g, n, none⟩ : Addr).add j = (⟨g, 0, none⟩ : Addr).add (n + j) := by
  unfold Addr.add
  by_cases h : j = 0
  · subst h
    by_cases h2 : n = 0
    · subst h2; rfl
    · rw [if_pos rfl, if_neg (by omega)]; simp
  · rw [if_neg h, if_neg (by omega)]; simp

set_option maxRecDepth 20000 in
set_option maxHeartbeats 2400000 in
theorem rCancel_any (gr : Nat) (most last next : Int) (v : Value) (s : List Al) (id : Int) (w : World) (h : RAt w gr most last v s) (hids : Ids next s) (hs : s.length ≤ 500) :
    Calls Try.prog 15 #[.pointer (some ⟨gr, 0, none⟩), .int .i64 id] w fun e w' => e = .returned (.bool (s.any (fun a => decide (a.2.1 = id)))) ∧
      ∃ v', RAt w' gr most last v' (without id s) ∧ Only [gr] w w' ∧ ∀ g ∈ ownL v', g ∈ ownL v ∨ w.heap.size ≤ g := by
  obtain ⟨i0, hi, hz0, hz1, hz2⟩ := info_partsA infoX
  obtain ⟨A, cap, hv, hlc, hcm⟩ := h.row.slice
  have HW := Lib.hid h
  have HV := Lib.hid hv
  have HI := Lib.hid hids
  have HS := Lib.hid hs
  unfold maxLen at hcm
  clear h hv hids
  go_enter Try.func15, Try.ntmps15
  go_wp2_with fail
  go_loopw [5] (fun i wr => ∃ (k : Nat), k ≤ s.length ∧ i = .int .i64 k ∧ Only [] w wr ∧ ∀ j, j < k → (nth s j).2.1 ≠ id) (fun i _ => s.length - (intOf i).toNat)
  case atStart => exact ⟨0, Nat.zero_le _, rfl, Only.refl _ _, fun j hj => by omega⟩
  case round =>
    obtain ⟨k, hk, rfl, ho, hn⟩ := hrel
    have HO := Lib.hid ho
    have HN := Lib.hid hn
    have HWR := Lib.hid (HW.out.old ho)
    have hc2 := HWR.out.head.c2
    have hz2' := HWR.out.head.z2
    rw [HV.out] at hc2
    clear ho hn
    by_cases hlt : k < s.length
    · have hr := HWR.out.row
      rw [HV.out] at hr
      obtain ⟨g, cap2, hv2, hgb, hgs, _, _⟩ := hr.some_ (by omega)
      obtain ⟨rfl, rfl⟩ : A = some ⟨g, 0, none⟩ ∧ cap = cap2 := by
        injection hv2 with e1 e2 e3
        exact ⟨e1, e3⟩
      have HR := Lib.hid hr
      have e1 := hr.el rfl hlt
      obtain ⟨b, hb⟩ : ∃ b, b = nth s k := ⟨_, rfl⟩
      rw [← hb] at e1
      obtain ⟨b1, b2, b3⟩ := b
      have HB := Lib.hid hb
      obtain ⟨f1, _, _⟩ := e1
      have HG := Lib.hid hgs
      clear hr hb hv2 hgb hgs
      by_cases hid : b2 = id
      · subst hid
        have HB2 : Hid (nth s k = (b1, b2, b3)) := HB.out.symm
        obtain ⟨W0, hW0⟩ : ∃ W0, W0 = wr.drew := ⟨_, rfl⟩
        have HW0 : Hid (RAt W0 gr most last v s) := by show RAt _ _ _ _ _ _; rw [hW0]; exact HWR.out.old ((Only.refl _ _).drew)
        have HO0 : Hid (Only [] w W0) := by show Only _ _ _; rw [hW0]; exact HO.out.drew
        have HR0 : Hid (XRow W0 (gr + 1) (.slice (some ⟨g, 0, none⟩) s.length cap) s) := by
          have h1 := HW0.out.row
          rw [HV.out] at h1
          exact h1
        have HTK : Hid ((tcs (s.take k)).length = k * 3 ∧ ∀ j u, (tcs (s.take k))[j]? = some u → W0.cell? ((⟨g, 0, none⟩ : Addr).add j) = some u) := by
          have h1 := HR0.out.cut k hk
          have hl : (s.take k).length = k := by simp; omega
          refine ⟨by rw [tcs_len, hl], ?_⟩
          unfold XRow at h1
          exact World.ownsRow.cells h1 (g := g) rfl
        have HSZ : Hid (0 + k ≤ maxLen ∧ (0 + k) * 24 ≤ 140737488355328 ∧ gr + 1 ≤ W0.heap.size) := ⟨by unfold maxLen; omega, by omega, by have := HW0.out.head.lt; omega⟩
        have HMK : Hid (∀ (W : World) (u : Value), W.ownsRow (gr + 1) 68 3 u (0 + k) ([] ++ tcs (s.take k)) → XRow W (gr + 1) u (s.take k)) := by
          show ∀ (W : World) (u : Value), _
          intro W u h1
          have hl : (s.take k).length = k := by simp; omega
          unfold XRow
          rw [hl]
          rw [Nat.zero_add, List.nil_append] at h1
          exact h1
        have HAT : Hid (∀ u : Value, (u.ownBlock = (Value.slice none 0 0).ownBlock ∨ u.ownBlock = some W0.heap.size) → ∀ x ∈ ownL u, w.heap.size ≤ x) := by
          show ∀ u : Value, _
          intro u hu x hx
          have h2 := mem_ownL.1 hx
          have h3 := HO0.out.size
          rcases hu with h | h
          · rw [h] at h2; simp [Value.ownBlock] at h2
          · rw [h] at h2; simp at h2; omega
        have hd2 : W0.cell? ⟨gr, 2, none⟩ = some (.slice (some ⟨g, 0, none⟩) s.length cap) := by have h1 := HW0.out.head.c2; rw [HV.out] at h1; exact h1
        have HDR : Hid ((tcs (s.drop (k + 1))).length = (s.length - (k + 1)) * 3) := by show _ = _; rw [tcs_len, List.length_drop]
        have HM2 : Hid (∀ (W : World) (u : Value), W.ownsRow (gr + 1) 68 3 u ((s.take k).length + (s.length - (k + 1))) (tcs (s.take k) ++ tcs (s.drop (k + 1))) → XRow W (gr + 1) u (without b2 s)) := by
          show ∀ (W : World) (u : Value), _
          intro W u h1
          have h2 := without_at HI.out.nodup hlt
          rw [HB2.out] at h2
          rw [h2]
          unfold XRow
          rw [List.length_append, tcs_append, List.length_drop]
          exact h1
        have HANY : Hid (s.any (fun a => decide (a.2.1 = b2)) = true) := any_yes (a := nth s k) (nth_mem hlt) (by rw [HB2.out])
        have HCE : Hid (∀ W, RAt W gr most last v s → ∀ j u, (tcs (s.drop (k + 1)))[j]? = some u → W.cell? ((⟨g, (k + 1) * 3, none⟩ : Addr).add j) = some u) := by
          show ∀ W, _
          intro W hW j u hu
          have h1 := hW.row
          rw [HV.out] at h1
          unfold XRow at h1
          have h2 := World.ownsRow.cells h1 (g := g) rfl ((k + 1) * 3 + j) u (by rw [← List.getElem?_drop, tcs_drop]; exact hu)
          rw [← add_off] at h2
          exact h2
        by_cases hkc : cap = k + 1
        · subst hkc
          have HDC : Hid (∀ W, RAt W gr most last v s → ∀ j u, (tcs (s.drop (k + 1)))[j]? = some u → W.cell? ((⟨g, 0, none⟩ : Addr).add j) = some u) := by
            show ∀ W, _
            intro W _ j u hu
            rw [List.drop_eq_nil_of_le (by omega)] at hu
            simp [tcs] at hu
          go_wp2_with fail
          refine mix_start (fun _ => True) (by kernel_rfl) ?_
          rw [← hW0]
          clear hW0 hc2 hz2' f1
          have hne : Nonempty (Held (fun _ => True)) := ⟨⟨W0, trivial⟩⟩
          refine mix_seg [0, 1, 2, 3, 5, 8, 9, 10, 12, 13] (by kernel_rfl) trivial ?_
          simp only [segOf, pickOps, pickOp]
          repeat (go_big_quiet_step (fail))
          refine wpQuiet_nil ?_
          refine mix_several [4, 11] (by kernel_rfl) ?_
          intro i hi'
          simp only [List.mem_cons, List.not_mem_nil, or_false] at hi'
          rcases hi' with rfl | rfl
          rotate_left
          simp only [segOf, pickOps, pickOp]
          go_wp2_with fail
          refine MixPost.normal trivial ?_
          refine mix_seg [14] (by kernel_rfl) trivial ?_
          simp only [segOf, pickOps, pickOp]
          repeat (go_big_quiet_step (fail))
          refine wpQuiet_nil ?_
          refine mix_run 4 (by kernel_rfl) ?_
          simp only [segOf, pickOps, pickOp]
          go_wp2_with fail
          refine MixPost.normal trivial ?_
          refine mix_seg [6] (by kernel_rfl) trivial ?_
          simp only [segOf, pickOps, pickOp]
          repeat (go_big_quiet_step (fail))
          refine wpQuiet_nil ?_
          refine mix_run 7 (by kernel_rfl) ?_
          simp only [segOf, pickOps, pickOp]
          refine wpList_append_own_at W0 rfl (.const (.slice none 0 0)) (.tmp 31) 41 rfl (gr + 1) 68 i0 (.agg #[.int .i64 0, .int .i64 0, .int .u64 0]) 3 24 Try.underlying41 hi hz0 hz1 hz2 rfl (by decide) (.slice none 0 0) 0 [] rfl (World.ownsRow_nil _ _ _ _) ⟨g, 0, none⟩ k (k + 1) (tcs (s.take k)) rfl HTK.out.1 HTK.out.2 (tcs_one _) HSZ.out.1 HSZ.out.2.1 HSZ.out.2.2 ?_
          intro v1 w1 hown1 hgrow1 _ hat1
          have HO1 : Hid (Only [] W0 w1) := Only.of_grown_own hgrow1 (fun g hg => by simp [Value.ownBlock] at hg)
          have HX1 : Hid (XRow w1 (gr + 1) v1 (s.take k)) := HMK.out w1 v1 hown1
          have HA1 : Hid (∀ x ∈ ownL v1, w.heap.size ≤ x) := HAT.out v1 hat1
          have HW1 := Lib.hid (HW0.out.old HO1.out)
          have hd3 : w1.cell? ⟨gr, 2, none⟩ = some (.slice (some ⟨g, 0, none⟩) s.length (k + 1)) := by have h1 := HW1.out.head.c2; rw [HV.out] at h1; exact h1
          clear hown1 hgrow1 hat1
          go_wp2_with fail
          refine MixPost.normal trivial ?_
          rotate_left
          simp only [pickOps]
          go_wp2_with fail
          refine MixPost.normal trivial ?_
          refine mix_seg [6] (by kernel_rfl) trivial ?_
          simp only [segOf, pickOps, pickOp]
          repeat (go_big_quiet_step (fail))
          refine wpQuiet_nil ?_
          refine mix_several [7, 11] (by kernel_rfl) ?_
          intro i hi'
          simp only [List.mem_cons, List.not_mem_nil, or_false] at hi'
          rcases hi' with rfl | rfl
          simp only [segOf, pickOps, pickOp]
          refine wpList_append_own_at W0 rfl (.const (.slice none 0 0)) (.tmp 31) 41 rfl (gr + 1) 68 i0 (.agg #[.int .i64 0, .int .i64 0, .int .u64 0]) 3 24 Try.underlying41 hi hz0 hz1 hz2 rfl (by decide) (.slice none 0 0) 0 [] rfl (World.ownsRow_nil _ _ _ _) ⟨g, 0, none⟩ k (k + 1) (tcs (s.take k)) rfl HTK.out.1 HTK.out.2 (tcs_one _) HSZ.out.1 HSZ.out.2.1 HSZ.out.2.2 ?_
          intro v1 w1 hown1 hgrow1 _ hat1
          have HO1 : Hid (Only [] W0 w1) := Only.of_grown_own hgrow1 (fun g hg => by simp [Value.ownBlock] at hg)
          have HX1 : Hid (XRow w1 (gr + 1) v1 (s.take k)) := HMK.out w1 v1 hown1
          have HA1 : Hid (∀ x ∈ ownL v1, w.heap.size ≤ x) := HAT.out v1 hat1
          have HW1 := Lib.hid (HW0.out.old HO1.out)
          have hd3 : w1.cell? ⟨gr, 2, none⟩ = some (.slice (some ⟨g, 0, none⟩) s.length (k + 1)) := by have h1 := HW1.out.head.c2; rw [HV.out] at h1; exact h1
          clear hown1 hgrow1 hat1
          go_wp2_with fail
          refine MixPost.normal trivial ?_
          refine mix_run 11 (by kernel_rfl) ?_
          simp only [segOf, pickOps, pickOp]
          go_wp2_with fail
          refine MixPost.normal trivial ?_
          refine mix_seg [14] (by kernel_rfl) trivial ?_
          simp only [segOf, pickOps, pickOp]
          repeat (go_big_quiet_step (fail))
          refine wpQuiet_nil ?_
          rotate_left
          simp only [pickOps]
          go_wp2_with fail
          refine MixPost.normal trivial ?_
          refine mix_seg [14] (by kernel_rfl) trivial ?_
          simp only [segOf, pickOps, pickOp]
          repeat (go_big_quiet_step (fail))
          refine wpQuiet_nil ?_
          refine mix_run 7 (by kernel_rfl) ?_
          simp only [segOf, pickOps, pickOp]
          refine wpList_append_own_at W0 rfl (.const (.slice none 0 0)) (.tmp 31) 41 rfl (gr + 1) 68 i0 (.agg #[.int .i64 0, .int .i64 0, .int .u64 0]) 3 24 Try.underlying41 hi hz0 hz1 hz2 rfl (by decide) (.slice none 0 0) 0 [] rfl (World.ownsRow_nil _ _ _ _) ⟨g, 0, none⟩ k (k + 1) (tcs (s.take k)) rfl HTK.out.1 HTK.out.2 (tcs_one _) HSZ.out.1 HSZ.out.2.1 HSZ.out.2.2 ?_
          intro v1 w1 hown1 hgrow1 _ hat1
          have HO1 : Hid (Only [] W0 w1) := Only.of_grown_own hgrow1 (fun g hg => by simp [Value.ownBlock] at hg)
          have HX1 : Hid (XRow w1 (gr + 1) v1 (s.take k)) := HMK.out w1 v1 hown1
          have HA1 : Hid (∀ x ∈ ownL v1, w.heap.size ≤ x) := HAT.out v1 hat1
          have HW1 := Lib.hid (HW0.out.old HO1.out)
          have hd3 : w1.cell? ⟨gr, 2, none⟩ = some (.slice (some ⟨g, 0, none⟩) s.length (k + 1)) := by have h1 := HW1.out.head.c2; rw [HV.out] at h1; exact h1
          clear hown1 hgrow1 hat1
          go_wp2_with fail
          refine MixPost.normal trivial ?_
          all_goals
            refine mix_run 15 (by kernel_rfl) ?_
            simp only [segOf, pickOps, pickOp]
            clear hd2 hd3
            refine wpList_append_own_at w1 rfl (.tmp 32) (.tmp 39) 41 rfl (gr + 1) 68 i0 (.agg #[.int .i64 0, .int .i64 0, .int .u64 0]) 3 24 Try.underlying41 hi hz0 hz1 hz2 rfl (by decide) v1 (s.take k).length (tcs (s.take k)) rfl HX1.out ⟨g, 0, none⟩ _ 0 (tcs (s.drop (k + 1))) rfl (by first | exact HDR.out | (rw [HDR.out, show s.length - (k + 1) = 0 by omega])) (HDC.out w1 HW1.out) (tcs_one _) ?_ ?_ ?_ ?_
            · have := HS.out; rw [List.length_take]; unfold maxLen; omega
            · have := HS.out; rw [List.length_take]; omega
            · have := HW1.out.head.lt; omega
            intro v2 w2 hown2 hgrow2 _ hat2
            have HO2 : Hid (Only (ownL v1) w1 w2) := Only.of_grown_own hgrow2 (fun g hg => mem_ownL.2 hg)
            have HX2 : Hid (XRow w2 (gr + 1) v2 (without b2 s)) := HM2.out w2 v2 (by first | exact hown2 | (rw [show s.length - (k + 1) = 0 by omega]; exact hown2))
            have HA2 : Hid (∀ x ∈ ownL v2, w.heap.size ≤ x) := by
              show ∀ x ∈ _, _
              intro x hx
              rcases hat2 with h | h
              · exact HA1.out x (by rw [mem_ownL, ← h]; exact mem_ownL.1 hx)
              · have h2 := mem_ownL.1 hx
                rw [h] at h2
                have h3 := HO0.out.size
                have h4 := HO1.out.size
                simp at h2
                omega
            have HD2 : Hid (WHead w2 gr most last v) := HW1.out.head.only HO2.out (fun hm => by have h1 := HA1.out _ hm; have h2 := HW.out.head.lt; omega)
            have HOB : Hid (Only [gr] w w2) := ((HO0.out.trans HO1.out).mono (by simp)).next HO2.out (fun x hx => .inr (HA1.out x hx))
            clear hown2 hgrow2 hat2
            obtain ⟨A2, cap2, e2, _, _⟩ := HX2.out.slice
            subst e2
            obtain ⟨W3, hW3⟩ : ∃ W3, W3 = w2.setCell ⟨gr, 2, none⟩ (.slice A2 (without b2 s).length cap2) := ⟨_, rfl⟩
            have HW3 : Hid (RAt W3 gr most last (.slice A2 (without b2 s).length cap2) (without b2 s)) := by
              show RAt _ _ _ _ _ _
              rw [hW3]
              exact ⟨HD2.out.set2 _, HX2.out.setBelow _ _⟩
            have HO3 : Hid (Only [gr] w W3) := by show Only _ _ _; rw [hW3]; exact HOB.out.setCell (p := ⟨gr, 2, none⟩) (by simp) _
            have hd2 := HD2.out.c2
            rw [HV.out] at hd2
            have hd3 := HD2.out.z2
            go_wp2_with fail
            refine MixPost.normal trivial ?_
            refine mix_seg [16, 17] (by kernel_rfl) trivial ?_
            simp only [segOf, pickOps, pickOp]
            repeat (go_big_quiet_step (fail))
            refine wpQuiet_nil ?_
            refine mix_run 18 (by kernel_rfl) ?_
            simp only [segOf, pickOps, pickOp]
            go_wp2_with fail
            rw [← hW3]
            clear hW3 hd2 hd3
            refine MixPost.normal trivial ?_
            refine mix_done (by kernel_rfl) ?_
            go_wp2
            go_ret
            exact ⟨ret_bool HANY.out.symm, _, HW3.out, HO3.out, fun g hg => .inr (HA2.out g hg)⟩
        · have HDC := HCE
          go_wp2_with fail
          refine mix_start (fun _ => True) (by kernel_rfl) ?_
          rw [← hW0]
          clear hW0 hc2 hz2' f1
          have hne : Nonempty (Held (fun _ => True)) := ⟨⟨W0, trivial⟩⟩
          refine mix_seg [0, 1, 2, 3, 5, 8, 9, 10, 12, 13] (by kernel_rfl) trivial ?_
          simp only [segOf, pickOps, pickOp]
          repeat (go_big_quiet_step (fail))
          refine wpQuiet_nil ?_
          refine mix_several [4, 11] (by kernel_rfl) ?_
          intro i hi'
          simp only [List.mem_cons, List.not_mem_nil, or_false] at hi'
          rcases hi' with rfl | rfl
          rotate_left
          simp only [segOf, pickOps, pickOp]
          go_wp2_with fail
          refine MixPost.normal trivial ?_
          refine mix_seg [14] (by kernel_rfl) trivial ?_
          simp only [segOf, pickOps, pickOp]
          repeat (go_big_quiet_step (fail))
          refine wpQuiet_nil ?_
          refine mix_run 4 (by kernel_rfl) ?_
          simp only [segOf, pickOps, pickOp]
          go_wp2_with fail
          refine MixPost.normal trivial ?_
          refine mix_seg [6] (by kernel_rfl) trivial ?_
          simp only [segOf, pickOps, pickOp]
          repeat (go_big_quiet_step (fail))
          refine wpQuiet_nil ?_
          refine mix_run 7 (by kernel_rfl) ?_
          simp only [segOf, pickOps, pickOp]
          refine wpList_append_own_at W0 rfl (.const (.slice none 0 0)) (.tmp 31) 41 rfl (gr + 1) 68 i0 (.agg #[.int .i64 0, .int .i64 0, .int .u64 0]) 3 24 Try.underlying41 hi hz0 hz1 hz2 rfl (by decide) (.slice none 0 0) 0 [] rfl (World.ownsRow_nil _ _ _ _) ⟨g, 0, none⟩ k cap (tcs (s.take k)) rfl HTK.out.1 HTK.out.2 (tcs_one _) HSZ.out.1 HSZ.out.2.1 HSZ.out.2.2 ?_
          intro v1 w1 hown1 hgrow1 _ hat1
          have HO1 : Hid (Only [] W0 w1) := Only.of_grown_own hgrow1 (fun g hg => by simp [Value.ownBlock] at hg)
          have HX1 : Hid (XRow w1 (gr + 1) v1 (s.take k)) := HMK.out w1 v1 hown1
          have HA1 : Hid (∀ x ∈ ownL v1, w.heap.size ≤ x) := HAT.out v1 hat1
          have HW1 := Lib.hid (HW0.out.old HO1.out)
          have hd3 : w1.cell? ⟨gr, 2, none⟩ = some (.slice (some ⟨g, 0, none⟩) s.length cap) := by have h1 := HW1.out.head.c2; rw [HV.out] at h1; exact h1
          clear hown1 hgrow1 hat1
          go_wp2_with fail
          refine MixPost.normal trivial ?_
          rotate_left
          simp only [pickOps]
          go_wp2_with fail
          refine MixPost.normal trivial ?_
          refine mix_seg [6] (by kernel_rfl) trivial ?_
          simp only [segOf, pickOps, pickOp]
          repeat (go_big_quiet_step (fail))
          refine wpQuiet_nil ?_
          refine mix_several [7, 11] (by kernel_rfl) ?_
          intro i hi'
          simp only [List.mem_cons, List.not_mem_nil, or_false] at hi'
          rcases hi' with rfl | rfl
          simp only [segOf, pickOps, pickOp]
          refine wpList_append_own_at W0 rfl (.const (.slice none 0 0)) (.tmp 31) 41 rfl (gr + 1) 68 i0 (.agg #[.int .i64 0, .int .i64 0, .int .u64 0]) 3 24 Try.underlying41 hi hz0 hz1 hz2 rfl (by decide) (.slice none 0 0) 0 [] rfl (World.ownsRow_nil _ _ _ _) ⟨g, 0, none⟩ k cap (tcs (s.take k)) rfl HTK.out.1 HTK.out.2 (tcs_one _) HSZ.out.1 HSZ.out.2.1 HSZ.out.2.2 ?_
          intro v1 w1 hown1 hgrow1 _ hat1
          have HO1 : Hid (Only [] W0 w1) := Only.of_grown_own hgrow1 (fun g hg => by simp [Value.ownBlock] at hg)
          have HX1 : Hid (XRow w1 (gr + 1) v1 (s.take k)) := HMK.out w1 v1 hown1
          have HA1 : Hid (∀ x ∈ ownL v1, w.heap.size ≤ x) := HAT.out v1 hat1
          have HW1 := Lib.hid (HW0.out.old HO1.out)
          have hd3 : w1.cell? ⟨gr, 2, none⟩ = some (.slice (some ⟨g, 0, none⟩) s.length cap) := by have h1 := HW1.out.head.c2; rw [HV.out] at h1; exact h1
          clear hown1 hgrow1 hat1
          go_wp2_with fail
          refine MixPost.normal trivial ?_
          refine mix_run 11 (by kernel_rfl) ?_
          simp only [segOf, pickOps, pickOp]
          go_wp2_with fail
          refine MixPost.normal trivial ?_
          refine mix_seg [14] (by kernel_rfl) trivial ?_
          simp only [segOf, pickOps, pickOp]
          repeat (go_big_quiet_step (fail))
          refine wpQuiet_nil ?_
          rotate_left
          simp only [pickOps]
          go_wp2_with fail
          refine MixPost.normal trivial ?_
          refine mix_seg [14] (by kernel_rfl) trivial ?_
          simp only [segOf, pickOps, pickOp]
          repeat (go_big_quiet_step (fail))
          refine wpQuiet_nil ?_
          refine mix_run 7 (by kernel_rfl) ?_
          simp only [segOf, pickOps, pickOp]
          refine wpList_append_own_at W0 rfl (.const (.slice none 0 0)) (.tmp 31) 41 rfl (gr + 1) 68 i0 (.agg #[.int .i64 0, .int .i64 0, .int .u64 0]) 3 24 Try.underlying41 hi hz0 hz1 hz2 rfl (by decide) (.slice none 0 0) 0 [] rfl (World.ownsRow_nil _ _ _ _) ⟨g, 0, none⟩ k cap (tcs (s.take k)) rfl HTK.out.1 HTK.out.2 (tcs_one _) HSZ.out.1 HSZ.out.2.1 HSZ.out.2.2 ?_
          intro v1 w1 hown1 hgrow1 _ hat1
          have HO1 : Hid (Only [] W0 w1) := Only.of_grown_own hgrow1 (fun g hg => by simp [Value.ownBlock] at hg)
          have HX1 : Hid (XRow w1 (gr + 1) v1 (s.take k)) := HMK.out w1 v1 hown1
          have HA1 : Hid (∀ x ∈ ownL v1, w.heap.size ≤ x) := HAT.out v1 hat1
          have HW1 := Lib.hid (HW0.out.old HO1.out)
          have hd3 : w1.cell? ⟨gr, 2, none⟩ = some (.slice (some ⟨g, 0, none⟩) s.length cap) := by have h1 := HW1.out.head.c2; rw [HV.out] at h1; exact h1
          clear hown1 hgrow1 hat1
          go_wp2_with fail
          refine MixPost.normal trivial ?_
          all_goals
            refine mix_run 15 (by kernel_rfl) ?_
            simp only [segOf, pickOps, pickOp]
            clear hd2 hd3
            refine wpList_append_own_at w1 rfl (.tmp 32) (.tmp 39) 41 rfl (gr + 1) 68 i0 (.agg #[.int .i64 0, .int .i64 0, .int .u64 0]) 3 24 Try.underlying41 hi hz0 hz1 hz2 rfl (by decide) v1 (s.take k).length (tcs (s.take k)) rfl HX1.out ⟨g, (k + 1) * 3, none⟩ _ (cap - (k + 1)) (tcs (s.drop (k + 1))) rfl (by first | exact HDR.out | (rw [HDR.out, show s.length - (k + 1) = 0 by omega])) (HDC.out w1 HW1.out) (tcs_one _) ?_ ?_ ?_ ?_
            · have := HS.out; rw [List.length_take]; unfold maxLen; omega
            · have := HS.out; rw [List.length_take]; omega
            · have := HW1.out.head.lt; omega
            intro v2 w2 hown2 hgrow2 _ hat2
            have HO2 : Hid (Only (ownL v1) w1 w2) := Only.of_grown_own hgrow2 (fun g hg => mem_ownL.2 hg)
            have HX2 : Hid (XRow w2 (gr + 1) v2 (without b2 s)) := HM2.out w2 v2 (by first | exact hown2 | (rw [show s.length - (k + 1) = 0 by omega]; exact hown2))
            have HA2 : Hid (∀ x ∈ ownL v2, w.heap.size ≤ x) := by
              show ∀ x ∈ _, _
              intro x hx
              rcases hat2 with h | h
              · exact HA1.out x (by rw [mem_ownL, ← h]; exact mem_ownL.1 hx)
              · have h2 := mem_ownL.1 hx
                rw [h] at h2
                have h3 := HO0.out.size
                have h4 := HO1.out.size
                simp at h2
                omega
            have HD2 : Hid (WHead w2 gr most last v) := HW1.out.head.only HO2.out (fun hm => by have h1 := HA1.out _ hm; have h2 := HW.out.head.lt; omega)
            have HOB : Hid (Only [gr] w w2) := ((HO0.out.trans HO1.out).mono (by simp)).next HO2.out (fun x hx => .inr (HA1.out x hx))
            clear hown2 hgrow2 hat2
            obtain ⟨A2, cap2, e2, _, _⟩ := HX2.out.slice
            subst e2
            obtain ⟨W3, hW3⟩ : ∃ W3, W3 = w2.setCell ⟨gr, 2, none⟩ (.slice A2 (without b2 s).length cap2) := ⟨_, rfl⟩
            have HW3 : Hid (RAt W3 gr most last (.slice A2 (without b2 s).length cap2) (without b2 s)) := by
              show RAt _ _ _ _ _ _
              rw [hW3]
              exact ⟨HD2.out.set2 _, HX2.out.setBelow _ _⟩
            have HO3 : Hid (Only [gr] w W3) := by show Only _ _ _; rw [hW3]; exact HOB.out.setCell (p := ⟨gr, 2, none⟩) (by simp) _
            have hd2 := HD2.out.c2
            rw [HV.out] at hd2
            have hd3 := HD2.out.z2
            go_wp2_with fail
            refine MixPost.normal trivial ?_
            refine mix_seg [16, 17] (by kernel_rfl) trivial ?_
            simp only [segOf, pickOps, pickOp]
            repeat (go_big_quiet_step (fail))
            refine wpQuiet_nil ?_
            refine mix_run 18 (by kernel_rfl) ?_
            simp only [segOf, pickOps, pickOp]
            go_wp2_with fail
            rw [← hW3]
            clear hW3 hd2 hd3
            refine MixPost.normal trivial ?_
            refine mix_done (by kernel_rfl) ?_
            go_wp2
            go_ret
            exact ⟨ret_bool HANY.out.symm, _, HW3.out, HO3.out, fun g hg => .inr (HA2.out g hg)⟩
      · have hidi : ¬ b2 = id := hid
        go_wp2_with fail
        go_roundw
        case rel =>
          refine ⟨k + 1, by omega, by go_num, HO.out, ?_⟩
          intro j hj
          by_cases e : j = k
          · subst e; rw [← HB.out]; exact hid
          · exact HN.out j (by omega)
        case measure => simp [intOf]; omega
    · obtain rfl : k = s.length := by omega
      go_wp2
      go_ret
      have hno : ∀ a ∈ s, a.2.1 ≠ id := by
        intro a ha
        obtain ⟨i, hi, rfl⟩ := List.mem_iff_getElem.1 ha
        rw [← nth_eq hi]
        exact HN.out i hi
      have hany : s.any (fun a => decide (a.2.1 = id)) = false := by
        rw [List.any_eq_false]
        intro a ha
        simpa using hno a ha
      refine ⟨ret_bool hany.symm, v, ?_, HO.out.mono (by simp), fun g hg => .inl hg⟩
      rw [without_none hno]
      exact HWR.out
end Go.Proofs.Ytbpdemgbljbhcaa
