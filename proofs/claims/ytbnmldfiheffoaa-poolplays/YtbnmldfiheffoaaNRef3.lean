/-
  The contract of the document's own Use of hosts over this seat's program. Conditions: the table lies there.
-/
import Derived.Test.YtbnmldfiheffoaaNRef2
import Derived.Test.YtbnmldfiheffoaaNUse2
namespace Go.Proofs.Ytbnmldfiheffoaa
open Go.RowKit

set_option maxRecDepth 20000 in
set_option maxHeartbeats 4000000 in
theorem tUse_any (g M : Nat) (v : Value) (l : List Ho) (key : ByteArray) (w : World) (h : TbAt 102 w g M v l) :
    Calls Try.prog 36 #[.pointer (some ⟨g, 0, none⟩), .string key] w fun e w' => e = .returned (.tuple #[.string (useG M l key), .int .i64 (useC M l key : Int)]) ∧
      ∃ v', TbAt 102 w' g M v' (useS M l key) ∧ Only (g :: ownL v) w w' ∧ ∀ x ∈ ownL v', x ∈ ownL v ∨ w.heap.size ≤ x := by
  obtain ⟨V, hV⟩ : ∃ V, V = v := ⟨_, rfl⟩
  rw [← hV]
  have HVE := Lib.hid hV
  obtain ⟨A, cap, rfl, hlc, hcm⟩ := h.room
  have HT := Lib.hid h
  have HOK := Lib.hid (h.ok.use key)
  have HL : Hid (l.length ≤ 32) := Nat.le_trans h.ok.len h.ok.m2
  have hc1 := h.head.c1
  have hc0 := h.head.c0
  clear hV
  obtain ⟨k, hk⟩ : ∃ k, k = l.findIdx (keyB key) := ⟨_, rfl⟩
  by_cases hp : k < l.length
  · have HP : Hid (placeI (keyB key) l = (k : Int)) := by show _ = _; rw [placeI_yes (by rw [← hk]; exact hp), ← hk]
    have hkey : (nthH l k).1 = key := keyB_iff.1 (by rw [hk]; exact place_hit (by rw [← hk]; exact hp))
    obtain ⟨gr, rfl, ⟨f1, f2⟩, _⟩ := h.at_ hp
    obtain ⟨u, hu⟩ : ∃ u, u = (nthH l k).2 := ⟨_, rfl⟩
    rw [← hu] at f2
    rw [hkey] at f1
    by_cases h6 : 6 ≤ u
    · have HE : Hid (useG M l key = ⟨#[]⟩ ∧ useC M l key = 10 ∧ useS M l key = l) := by
        show _ ∧ _
        unfold useG useC useS
        rw [← hk, ← hu, if_pos hp, if_pos hp, if_pos hp, if_pos h6, if_pos h6]
        exact ⟨rfl, rfl, rfl⟩
      rw [HE.out.1, HE.out.2.1, HE.out.2.2]
      have hk0 : (0 : Int) ≤ (k : Int) := by omega
      clear h hk hkey hu
      go_enter Try.func36, Try.ntmps36
      go_wp2_with fail
      refine (tat_any g M _ l key w HT.out).mono ?_
      rintro e w1 ⟨rfl, rfl⟩
      rw [HP.out]
      go_wp2
      go_ret2
      exact ⟨rfl, _, HT.out, Only.refl _ _, fun x hx => .inl (by rw [HVE.out]; exact hx)⟩
    · have HE : Hid (useG M l key = ⟨#[]⟩ ∧ useC M l key = 0 ∧ useS M l key = l.eraseIdx k ++ [(key, u + 1)]) := by
        show _ ∧ _
        unfold useG useC useS
        rw [← hk, ← hu, if_pos hp, if_pos hp, if_pos hp, if_neg h6, if_neg h6]
        exact ⟨rfl, rfl, rfl⟩
      rw [HE.out.1, HE.out.2.1, HE.out.2.2]
      rw [HE.out.2.2] at HOK
      have hu5 : u ≤ 5 := by omega
      have hk0 : (0 : Int) ≤ (k : Int) := by omega
      obtain ⟨gb, hgb⟩ : ∃ gb, gb = w.heap.size := ⟨_, rfl⟩
      obtain ⟨W1, hW1⟩ : ∃ W1, W1 = w.alloc (.cells #[.string key, .int .i64 ((u : Int) + 1)] 102) := ⟨_, rfl⟩
      have HO1 : Hid (Only [] w W1) := by show Only _ _ _; rw [hW1]; exact (Only.refl _ _).alloc _
      have HF1 : Hid (W1.cell? ⟨gb, 0, none⟩ = some (.string key) ∧ W1.cell? ⟨gb, 1, none⟩ = some (.int .i64 ((u : Int) + 1))) := by
        show _ ∧ _
        rw [hW1, hgb]
        exact ⟨by simp, by simp⟩
      have HGB : Hid (g < gb) := by show _ < _; have := HT.out.head.lt; omega
      have HT1 := Lib.hid (HT.out.old HO1.out)
      have HGE := Lib.hid hgb
      clear h hk hkey hu h6
      go_enter Try.func36, Try.ntmps36
      go_wp2_with fail
      refine (tat_any g M _ l key w HT.out).mono ?_
      rintro e w1 ⟨rfl, rfl⟩
      rw [HP.out]
      go_wp2_with fail
      rw [← HGE.out, ← hW1]
      clear hW1 f1 f2 hc1 hc0 hgb
      refine (tout_any g M k _ l W1 HT1.out hp).mono ?_
      rintro e w2 ⟨rfl, v3, ht2, ho2, hv2⟩
      obtain ⟨A3, cap3, rfl, hlc3, hcm3⟩ := ht2.room
      obtain ⟨w3, hw3⟩ : ∃ w3, w3 = w2.drew := ⟨_, rfl⟩
      have HT3 : Hid (TbAt 102 w3 g M (.slice A3 (l.eraseIdx k).length cap3) (l.eraseIdx k)) := by show TbAt _ _ _ _ _ _; rw [hw3]; exact ht2.old ((Only.refl _ _).drew)
      have HOV : Hid (Only (g :: ownL V) w w3) := by show Only _ _ _; rw [hw3]; exact ((HO1.out.mono (by simp)).trans (ho2.mono (by simp))).drew
      have HV3 : Hid (∀ x ∈ ownL (.slice A3 (l.eraseIdx k).length cap3), w.heap.size ≤ x) := by show ∀ x ∈ _, _; intro x hx; exact Nat.le_trans HO1.out.size (hv2 x hx)
      have HV4 : Hid (∀ x ∈ ownL (.slice A3 (l.eraseIdx k).length cap3), x ≠ gb) := by show ∀ x ∈ _, _; intro x hx; have h1 := hv2 x hx; have h2 := block_of_cell (a := ⟨gb, 0, none⟩) HF1.out.1; intro e; subst e; exact absurd h2 (Nat.not_lt.2 h1)
      obtain ⟨F, hF⟩ : ∃ F : World → Prop, ∀ W, F W ↔ (W.cell? ⟨gb, 0, none⟩ = some (.string key) ∧ W.cell? ⟨gb, 1, none⟩ = some (.int .i64 ((u : Int) + 1))) := ⟨_, fun _ => Iff.rfl⟩
      have HFO : Hid (∀ W W', F W → Only [g] W W' → F W') := by
        show ∀ W W', _
        intro W W' h1 h2
        rw [hF] at h1 ⊢
        have hlt := block_of_cell (a := ⟨gb, 0, none⟩) h1.1
        have := HGB.out
        exact ⟨(h2.cell (p := ⟨gb, 0, none⟩) hlt (by simp; omega)).trans h1.1, (h2.cell (p := ⟨gb, 1, none⟩) hlt (by simp; omega)).trans h1.2⟩
      have HFV : Hid (∀ W W', F W → Only (ownL (.slice A3 (l.eraseIdx k).length cap3)) W W' → F W') := by
        show ∀ W W', _
        intro W W' h1 h2
        rw [hF] at h1 ⊢
        have hlt := block_of_cell (a := ⟨gb, 0, none⟩) h1.1
        exact ⟨(h2.cell (p := ⟨gb, 0, none⟩) hlt (fun hm => HV4.out _ hm rfl)).trans h1.1, (h2.cell (p := ⟨gb, 1, none⟩) hlt (fun hm => HV4.out _ hm rfl)).trans h1.2⟩
      have HK3 : Hid (F w3) := by show F _; rw [hw3]; exact HFO.out _ _ ((hF _).2 HF1.out) (ho2.drew)
      have hx0 : ∀ p : Held F, p.w.cell? ⟨gb, 0, none⟩ = some (.string key) := fun p => ((hF _).1 p.h).1
      have hx1 : ∀ p : Held F, p.w.cell? ⟨gb, 1, none⟩ = some (.int .i64 ((u : Int) + 1)) := fun p => ((hF _).1 p.h).2
      have hne : Nonempty (Held F) := ⟨⟨w3, HK3.out⟩⟩
      clear hF ht2 ho2 hv2
      go_wp2_with fail
      refine mix_start F (by kernel_rfl) ?_
      rw [← hw3]
      clear hw3
      refine mix_seg [0, 1, 2, 3, 5] (by kernel_rfl) HK3.out ?_
      simp only [segOf, pickOps, pickOp]
      repeat (go_big_quiet_step (fail))
      refine wpQuiet_nil ?_
      clear hx0 hx1
      have hd2 := HT3.out.head.c1
      refine mix_several [4, 6] (by kernel_rfl) ?_
      intro i hi'
      simp only [List.mem_cons, List.not_mem_nil, or_false] at hi'
      rcases hi' with rfl | rfl
      · simp only [segOf, pickOps, pickOp]
        go_wp2_with fail
        refine MixPost.normal HK3.out ?_
        clear hd2
        refine mix_run 6 (by kernel_rfl) ?_
        simp only [segOf, pickOps, pickOp]
        obtain ⟨W4, hW4⟩ : ∃ W4, W4 = w3.alloc (.cells #[.string key, .int .i64 ((u : Int) + 1)] 102) := ⟨_, rfl⟩
        obtain ⟨B4, hB4⟩ : ∃ B4, B4 = w3.heap.size := ⟨_, rfl⟩
        have HO4 : Hid (Only [] w3 W4) := by show Only _ _ _; rw [hW4]; exact (Only.refl _ _).alloc _
        have HN4 : Hid (W4.cell? ⟨B4, 0, none⟩ = some (.string key) ∧ W4.cell? ⟨B4, 1, none⟩ = some (.int .i64 ((u + 1 : Nat) : Int))) := by show _ ∧ _; rw [hW4, hB4]; exact ⟨by simp, by simp⟩
        have HT4 := Lib.hid (HT3.out.old HO4.out)
        have HK4 := Lib.hid (HFO.out _ _ HK3.out (HO4.out.mono (by simp)))
        go_wp2_with fail
        rw [← hW4, ← hB4]
        clear hW4 hB4
        refine MixPost.normal HK4.out ?_
        refine mix_run 7 (by kernel_rfl) ?_
        simp only [segOf, pickOps, pickOp]
        refine wpList_append_host rfl (.tmp 42) (.tmp 44) 74 102 rfl Try.underlying74 infoUR (g + 1) _ (l.eraseIdx k) rfl HT4.out.row B4 key (u + 1) rfl HN4.out.1 HN4.out.2 (by have := HT4.out.ok.len; have := HT4.out.ok.m2; omega) (by have := HT4.out.head.lt; omega) ?_
        intro g2 cap5 w5 hr5 ho5 hg5
        have HH5 := Lib.hid (HT4.out.head.only ho5.out (fun hm => by have := (HT4.out.own hm).1; omega))
        have HK5 := Lib.hid (HFV.out _ _ HK4.out ho5.out)
        have hd1 := HH5.out.c1
        have hdz := HH5.out.z1
        obtain ⟨W6, hW6⟩ : ∃ W6, W6 = w5.setCell ⟨g, 1, none⟩ (.slice (some ⟨g2, 0, none⟩) ((l.eraseIdx k).length + 1) cap5) := ⟨_, rfl⟩
        have HT6 : Hid (TbAt 102 W6 g M (.slice (some ⟨g2, 0, none⟩) ((l.eraseIdx k).length + 1) cap5) (l.eraseIdx k ++ [(key, u + 1)])) := by
          show TbAt _ _ _ _ _ _
          refine ⟨?_, ?_, HOK.out⟩
          · rw [hW6]; exact HH5.out.set1 _
          · rw [hW6]; exact hr5.out.setBelow _ _
        have HO6 : Hid (Only (g :: ownL V) w W6) := by
          show Only _ _ _
          rw [hW6]
          refine (((HOV.out.trans (HO4.out.mono (by simp))).next ho5.out (fun x hx => .inr (HV3.out x hx)))).setCell (p := ⟨g, 1, none⟩) (by simp) _
        have HK6 : Hid (F W6) := by show F _; rw [hW6]; exact HFO.out _ _ HK5.out ((Only.refl _ _).setCell (p := ⟨g, 1, none⟩) (by simp) _)
        have HG6 : Hid (w.heap.size ≤ g2) := by
          show _ ≤ _
          rcases hg5.out with h1 | h1
          · exact HV3.out _ h1
          · have h2 := HOV.out.size; have h3 := HO4.out.size; omega
        go_wp2_with fail
        refine MixPost.normal HK5.out ?_
        refine mix_seg [8, 9] (by kernel_rfl) HK5.out ?_
        simp only [segOf, pickOps, pickOp]
        repeat (go_big_quiet_step (fail))
        refine wpQuiet_nil ?_
        refine mix_run 10 (by kernel_rfl) ?_
        simp only [segOf, pickOps, pickOp]
        go_wp2_with fail
        rw [← hW6]
        clear hW6 hd1 hdz
        refine MixPost.normal HK6.out ?_
        refine mix_done (by kernel_rfl) ?_
        go_wp2
        go_ret2
        refine ⟨rfl, _, HT6.out, HO6.out, ?_⟩
        intro y hy
        rw [ownL, Value.ownBlock] at hy
        simp at hy
        subst hy
        exact .inr HG6.out
      · simp only [segOf, pickOps, pickOp]
        obtain ⟨W4, hW4⟩ : ∃ W4, W4 = w3.alloc (.cells #[.string key, .int .i64 ((u : Int) + 1)] 102) := ⟨_, rfl⟩
        obtain ⟨B4, hB4⟩ : ∃ B4, B4 = w3.heap.size := ⟨_, rfl⟩
        have HO4 : Hid (Only [] w3 W4) := by show Only _ _ _; rw [hW4]; exact (Only.refl _ _).alloc _
        have HN4 : Hid (W4.cell? ⟨B4, 0, none⟩ = some (.string key) ∧ W4.cell? ⟨B4, 1, none⟩ = some (.int .i64 ((u + 1 : Nat) : Int))) := by show _ ∧ _; rw [hW4, hB4]; exact ⟨by simp, by simp⟩
        have HT4 := Lib.hid (HT3.out.old HO4.out)
        have HK4 := Lib.hid (HFO.out _ _ HK3.out (HO4.out.mono (by simp)))
        go_wp2_with fail
        rw [← hW4, ← hB4]
        clear hW4 hB4
        refine MixPost.normal HK4.out ?_
        have hd4 := HT4.out.head.c1
        clear hd2
        refine mix_run 4 (by kernel_rfl) ?_
        simp only [segOf, pickOps, pickOp]
        go_wp2_with fail
        refine MixPost.normal HK4.out ?_
        clear hd4
        refine mix_run 7 (by kernel_rfl) ?_
        simp only [segOf, pickOps, pickOp]
        refine wpList_append_host rfl (.tmp 42) (.tmp 44) 74 102 rfl Try.underlying74 infoUR (g + 1) _ (l.eraseIdx k) rfl HT4.out.row B4 key (u + 1) rfl HN4.out.1 HN4.out.2 (by have := HT4.out.ok.len; have := HT4.out.ok.m2; omega) (by have := HT4.out.head.lt; omega) ?_
        intro g2 cap5 w5 hr5 ho5 hg5
        have HH5 := Lib.hid (HT4.out.head.only ho5.out (fun hm => by have := (HT4.out.own hm).1; omega))
        have HK5 := Lib.hid (HFV.out _ _ HK4.out ho5.out)
        have hd1 := HH5.out.c1
        have hdz := HH5.out.z1
        obtain ⟨W6, hW6⟩ : ∃ W6, W6 = w5.setCell ⟨g, 1, none⟩ (.slice (some ⟨g2, 0, none⟩) ((l.eraseIdx k).length + 1) cap5) := ⟨_, rfl⟩
        have HT6 : Hid (TbAt 102 W6 g M (.slice (some ⟨g2, 0, none⟩) ((l.eraseIdx k).length + 1) cap5) (l.eraseIdx k ++ [(key, u + 1)])) := by
          show TbAt _ _ _ _ _ _
          refine ⟨?_, ?_, HOK.out⟩
          · rw [hW6]; exact HH5.out.set1 _
          · rw [hW6]; exact hr5.out.setBelow _ _
        have HO6 : Hid (Only (g :: ownL V) w W6) := by
          show Only _ _ _
          rw [hW6]
          refine (((HOV.out.trans (HO4.out.mono (by simp))).next ho5.out (fun x hx => .inr (HV3.out x hx)))).setCell (p := ⟨g, 1, none⟩) (by simp) _
        have HK6 : Hid (F W6) := by show F _; rw [hW6]; exact HFO.out _ _ HK5.out ((Only.refl _ _).setCell (p := ⟨g, 1, none⟩) (by simp) _)
        have HG6 : Hid (w.heap.size ≤ g2) := by
          show _ ≤ _
          rcases hg5.out with h1 | h1
          · exact HV3.out _ h1
          · have h2 := HOV.out.size; have h3 := HO4.out.size; omega
        go_wp2_with fail
        refine MixPost.normal HK5.out ?_
        refine mix_seg [8, 9] (by kernel_rfl) HK5.out ?_
        simp only [segOf, pickOps, pickOp]
        repeat (go_big_quiet_step (fail))
        refine wpQuiet_nil ?_
        refine mix_run 10 (by kernel_rfl) ?_
        simp only [segOf, pickOps, pickOp]
        go_wp2_with fail
        rw [← hW6]
        clear hW6 hd1 hdz
        refine MixPost.normal HK6.out ?_
        refine mix_done (by kernel_rfl) ?_
        go_wp2
        go_ret2
        refine ⟨rfl, _, HT6.out, HO6.out, ?_⟩
        intro y hy
        rw [ownL, Value.ownBlock] at hy
        simp at hy
        subst hy
        exact .inr HG6.out
  · have HP : Hid (placeI (keyB key) l = -1) := placeI_no (by rw [← hk]; exact hp)
    by_cases hm : l.length < M
    · have HE : Hid (useG M l key = ⟨#[]⟩ ∧ useC M l key = 0 ∧ useS M l key = l ++ [(key, 1)]) := by
        show _ ∧ _
        unfold useG useC useS
        rw [← hk, if_neg hp, if_neg hp, if_neg hp, if_pos hm, if_pos hm, if_pos hm]
        exact ⟨rfl, rfl, rfl⟩
      rw [HE.out.1, HE.out.2.1, HE.out.2.2]
      rw [HE.out.2.2] at HOK
      have hmi : decide (M ≤ l.length) = false := decide_eq_false (by omega)
      have HMI := Lib.hid hmi
      clear h hk hp hm hmi
      go_enter Try.func36, Try.ntmps36
      go_wp2_with fail
      refine (tat_any g M _ l key w HT.out).mono ?_
      rintro e w1 ⟨rfl, rfl⟩
      rw [HP.out]
      go_wp2_with fail
      have hmi := HMI.out
      go_quiet (fail)
      obtain ⟨w2, hw2⟩ : ∃ w2, w2 = w.drewN nq := ⟨_, rfl⟩
      have HO2 : Hid (Only [] w w2) := by show Only _ _ _; rw [hw2]; exact (Only.refl _ _).drewN _
      rw [← hw2]
      clear hw2 hc1 hc0
      have HT2 := Lib.hid (HT.out.old HO2.out)
      have HR2 := Lib.hid HT2.out.row
      have HH2 := Lib.hid HT2.out.head
      have HVV : Hid (∀ x ∈ ownL (.slice A l.length cap), x ∈ ownL V ∨ w.heap.size ≤ x) := by show ∀ x ∈ _, _; rw [HVE.out]; exact fun x hx => .inl hx
      have HOV : Hid (Only (g :: ownL V) w w2) := HO2.out.mono (by simp)
      have HL2 := HL
      have HGL : Hid (∀ x ∈ ownL (.slice A l.length cap), x ≠ g) := by show ∀ x ∈ _, _; intro x hx; have := (HT2.out.own hx).1; omega
      have hd1 := HH2.out.c1
      have hdz := HH2.out.z1
      have hgl := HH2.out.lt
      have HO3 : Hid (Only [] w2 (w2.alloc (.cells #[.string key, .int .i64 1] 102))) := (Only.refl _ _).alloc _
      have HN3 : Hid ((w2.alloc (.cells #[.string key, .int .i64 1] 102)).cell? ⟨w2.heap.size, 0, none⟩ = some (.string key) ∧ (w2.alloc (.cells #[.string key, .int .i64 1] 102)).cell? ⟨w2.heap.size, 1, none⟩ = some (.int .i64 ((1 : Nat) : Int))) := by show _ ∧ _; exact ⟨by simp, by simp⟩
      have HR3 := Lib.hid (HR2.out.only HO3.out (by simp))
      have HH3 := Lib.hid (HH2.out.only HO3.out (by simp))
      go_wp2_with (at_builtin; refine wpList_append_host rfl (.tmp 100) (.tmp 103) 74 102 rfl Try.underlying74 infoUR (g + 1) _ l rfl HR3.out w2.heap.size key 1 rfl HN3.out.1 HN3.out.2 (by have := HL2.out; omega) (by have := HH3.out.lt; omega) ?_)
      intro g2 cap4 w4 hr4 ho4 hg4
      have HH4 := Lib.hid (HH3.out.only ho4.out (fun hm => HGL.out _ hm rfl))
      have hd4 := HH4.out.c1
      have hz4 := HH4.out.z1
      obtain ⟨W5, hW5⟩ : ∃ W5, W5 = w4.setCell ⟨g, 1, none⟩ (.slice (some ⟨g2, 0, none⟩) ((l).length + 1) cap4) := ⟨_, rfl⟩
      have HT5 : Hid (TbAt 102 W5 g M (.slice (some ⟨g2, 0, none⟩) ((l).length + 1) cap4) (l ++ [(key, 1)])) := by
        show TbAt _ _ _ _ _ _
        refine ⟨?_, ?_, HOK.out⟩
        · rw [hW5]; exact HH4.out.set1 _
        · rw [hW5]; exact hr4.out.setBelow _ _
      have HO5 : Hid (Only (g :: ownL V) w W5) := by
        show Only _ _ _
        rw [hW5]
        exact ((HOV.out.trans (HO3.out.mono (by simp))).next ho4.out (fun x hx => by rcases HVV.out x hx with h1 | h1; exact .inl (List.mem_cons_of_mem _ h1); exact .inr h1)).setCell (p := ⟨g, 1, none⟩) (by simp) _
      have HG5 : Hid (∀ x ∈ ownL (.slice (some ⟨g2, 0, none⟩) ((l).length + 1) cap4), x ∈ ownL V ∨ w.heap.size ≤ x) := by
        show ∀ x ∈ _, _
        intro x hx
        rw [ownL, Value.ownBlock] at hx
        simp at hx
        subst hx
        rcases hg4.out with h1 | h1
        · exact HVV.out _ h1
        · right
          have h2 := HOV.out.size
          have h3 := HO3.out.size
          omega
      clear hd1 hdz hr4 ho4 hg4
      go_wp2_with fail
      rw [← hW5]
      clear hW5 hd4 hz4
      go_wp2
      go_ret2
      exact ⟨rfl, _, HT5.out, HO5.out, HG5.out⟩
    obtain ⟨z, hz⟩ : ∃ z, z = l.findIdx idleB := ⟨_, rfl⟩
    have hzl : z ≤ l.length := by rw [hz]; exact List.findIdx_le_length
    have HZ := Lib.hid hz
    have HNI : Hid (∀ j, j < z → 0 < (nthH l j).2) := by
      show ∀ j, _
      intro j hj
      rw [hz] at hj
      have h1 := List.not_of_lt_findIdx hj
      rw [← nthH_eq (by omega)] at h1
      simp [idleB] at h1
      omega
    have HYI : Hid (z < l.length → (nthH l z).2 = 0) := by
      show _ → _
      intro h1
      have h2 := place_hit (p := idleB) (l := l) (by rw [← hz]; exact h1)
      rw [← hz] at h2
      simpa [idleB] using h2
    have hmi : decide (M ≤ l.length) = true := decide_eq_true (by omega)
    have HMI := Lib.hid hmi
    have HE : Hid (useG M l key = (if z < l.length then (nthH l z).1 else ⟨#[]⟩) ∧ useC M l key = (if z < l.length then 0 else 10) ∧ useS M l key = (if z < l.length then l.eraseIdx z ++ [(key, 1)] else l)) := by
      show _ ∧ _
      unfold useG useC useS
      rw [← hk, if_neg hp, if_neg hp, if_neg hp, if_neg hm, if_neg hm, if_neg hm, ← hz]
      exact ⟨rfl, rfl, rfl⟩
    have HEO : Hid (∀ e w', (e = Ending.returned (.tuple #[.string (if z < l.length then (nthH l z).1 else ⟨#[]⟩), .int .i64 ((if z < l.length then 0 else 10 : Nat) : Int)]) ∧ ∃ v', TbAt 102 w' g M v' (if z < l.length then l.eraseIdx z ++ [(key, 1)] else l) ∧ Only (g :: ownL V) w w' ∧ ∀ x ∈ ownL v', x ∈ ownL V ∨ w.heap.size ≤ x) →
        (e = Ending.returned (.tuple #[.string (useG M l key), .int .i64 (useC M l key : Int)]) ∧ ∃ v', TbAt 102 w' g M v' (useS M l key) ∧ Only (g :: ownL V) w w' ∧ ∀ x ∈ ownL v', x ∈ ownL V ∨ w.heap.size ≤ x)) := by
      show ∀ e w', _
      intro e w' h1
      rw [HE.out.1, HE.out.2.1, HE.out.2.2]
      exact h1
    rw [HE.out.2.2] at HOK
    refine Calls.mono ?_ HEO.out
    clear h hk hp hm hmi hz HE HEO
    go_enter Try.func36, Try.ntmps36
    go_wp2_with fail
    refine (tat_any g M _ l key w HT.out).mono ?_
    rintro e w1 ⟨rfl, rfl⟩
    rw [HP.out]
    go_wp2_with fail
    have hmi := HMI.out
    go_quiet (fail)
    obtain ⟨w2, hw2⟩ : ∃ w2, w2 = w.drewN nq := ⟨_, rfl⟩
    have HO2 : Hid (Only [] w w2) := by show Only _ _ _; rw [hw2]; exact (Only.refl _ _).drewN _
    rw [← hw2]
    clear hw2 hc1 hc0
    have HT2 := Lib.hid (HT.out.old HO2.out)
    have hc1 := HT2.out.head.c1
    have hmi := HMI.out
    go_wp2_with fail
    clear hmi
    go_loop [9] (fun i => ∃ q : Nat, q ≤ z ∧ i = .int .i64 q) (fun i => l.length - (intOf i).toNat)
    case atStart => exact ⟨0, Nat.zero_le _, rfl⟩
    case round =>
      obtain ⟨q, hq, rfl⟩ := hrel
      by_cases hqz : q < z
      · have hql : q < l.length := by omega
        obtain ⟨gr, rfl, ⟨f1, f2⟩, _⟩ := HT2.out.at_ hql
        have hpos := HNI.out q hqz
        obtain ⟨u, hu⟩ : ∃ u, u = (nthH l q).2 := ⟨_, rfl⟩
        rw [← hu] at f2 hpos
        clear hu
        go_wp2
        go_round
        case rel => exact ⟨q + 1, by omega, by go_num⟩
        case measure => simp [intOf]; omega
      obtain rfl : q = z := by omega
      by_cases hql : q < l.length
      · have hzero := HYI.out hql
        obtain ⟨gr, rfl, ⟨f1, f2⟩, _⟩ := HT2.out.at_ hql
        rw [hzero] at f2
        obtain ⟨x, hx⟩ : ∃ x, x = (nthH l q).1 := ⟨_, rfl⟩
        rw [← hx] at f1
        have HX := Lib.hid hx
        have HQL : Hid (q < l.length) := hql
        rw [if_pos hql] at HOK
        clear hzero hx
        go_wp2_with fail
        refine (tout_any g M q _ l w2 HT2.out hql).mono ?_
        rintro e wz ⟨rfl, vz, htz, hoz, hnz⟩
        have HRz := Lib.hid htz.row
        have HHz := Lib.hid htz.head
        have HVV : Hid (∀ x ∈ ownL vz, x ∈ ownL V ∨ w.heap.size ≤ x) := by show ∀ x ∈ _, _; intro x hx; exact .inr (Nat.le_trans HO2.out.size (hnz x hx))
        have HOV : Hid (Only (g :: ownL V) w wz) := (HO2.out.mono (by simp)).trans (hoz.mono (by simp))
        have HGL : Hid (∀ x ∈ ownL vz, x ≠ g) := by show ∀ x ∈ _, _; intro x hx; have := (htz.own hx).1; omega
        have HL2 : Hid ((l.eraseIdx q).length ≤ 32) := Nat.le_trans (List.length_eraseIdx_le _ _) HL.out
        clear htz hoz hnz f1 f2 hc1
        obtain ⟨Az, capz, hvz, hlcz, hcmz⟩ := HRz.out.slice
        unfold maxLen at hcmz
        subst hvz
        have hd1 := HHz.out.c1
        have hdz := HHz.out.z1
        have hgl := HHz.out.lt
        have HO3 : Hid (Only [] wz (wz.alloc (.cells #[.string key, .int .i64 1] 102))) := (Only.refl _ _).alloc _
        have HN3 : Hid ((wz.alloc (.cells #[.string key, .int .i64 1] 102)).cell? ⟨wz.heap.size, 0, none⟩ = some (.string key) ∧ (wz.alloc (.cells #[.string key, .int .i64 1] 102)).cell? ⟨wz.heap.size, 1, none⟩ = some (.int .i64 ((1 : Nat) : Int))) := by show _ ∧ _; exact ⟨by simp, by simp⟩
        have HR3 := Lib.hid (HRz.out.only HO3.out (by simp))
        have HH3 := Lib.hid (HHz.out.only HO3.out (by simp))
        go_wp2_with (at_builtin; refine wpList_append_host rfl (.tmp 100) (.tmp 103) 74 102 rfl Try.underlying74 infoUR (g + 1) _ (l.eraseIdx q) rfl HR3.out wz.heap.size key 1 rfl HN3.out.1 HN3.out.2 (by have := HL2.out; omega) (by have := HH3.out.lt; omega) ?_)
        intro g2 cap4 w4 hr4 ho4 hg4
        have HH4 := Lib.hid (HH3.out.only ho4.out (fun hm => HGL.out _ hm rfl))
        have hd4 := HH4.out.c1
        have hz4 := HH4.out.z1
        obtain ⟨W5, hW5⟩ : ∃ W5, W5 = w4.setCell ⟨g, 1, none⟩ (.slice (some ⟨g2, 0, none⟩) (((l.eraseIdx q)).length + 1) cap4) := ⟨_, rfl⟩
        have HT5 : Hid (TbAt 102 W5 g M (.slice (some ⟨g2, 0, none⟩) (((l.eraseIdx q)).length + 1) cap4) ((l.eraseIdx q) ++ [(key, 1)])) := by
          show TbAt _ _ _ _ _ _
          refine ⟨?_, ?_, HOK.out⟩
          · rw [hW5]; exact HH4.out.set1 _
          · rw [hW5]; exact hr4.out.setBelow _ _
        have HO5 : Hid (Only (g :: ownL V) w W5) := by
          show Only _ _ _
          rw [hW5]
          exact ((HOV.out.trans (HO3.out.mono (by simp))).next ho4.out (fun x hx => by rcases HVV.out x hx with h1 | h1; exact .inl (List.mem_cons_of_mem _ h1); exact .inr h1)).setCell (p := ⟨g, 1, none⟩) (by simp) _
        have HG5 : Hid (∀ x ∈ ownL (.slice (some ⟨g2, 0, none⟩) (((l.eraseIdx q)).length + 1) cap4), x ∈ ownL V ∨ w.heap.size ≤ x) := by
          show ∀ x ∈ _, _
          intro x hx
          rw [ownL, Value.ownBlock] at hx
          simp at hx
          subst hx
          rcases hg4.out with h1 | h1
          · exact HVV.out _ h1
          · right
            have h2 := HOV.out.size
            have h3 := HO3.out.size
            omega
        clear hd1 hdz hr4 ho4 hg4
        go_wp2_with fail
        rw [← hW5]
        clear hW5 hd4 hz4
        go_wp2
        go_ret2
        repeat rw [if_pos HQL.out]
        exact ⟨by rw [HX.out]; rfl, _, HT5.out, HO5.out, HG5.out⟩
      · obtain rfl : q = l.length := by omega
        go_wp2
        go_ret2
        repeat rw [if_neg (Nat.lt_irrefl _)]
        exact ⟨rfl, _, HT2.out, HO2.out.mono (by simp), fun x hx => .inl (by rw [HVE.out]; exact hx)⟩
end Go.Proofs.Ytbnmldfiheffoaa
