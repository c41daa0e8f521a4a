/-
  The contracts of Table.again, room and Use over this seat's program. Conditions: the table lies there.
-/
import Derived.Test.YtbnmldfiheffoaaNOps
namespace Go.Proofs.Ytbnmldfiheffoaa
open Go.RowKit

set_option maxHeartbeats 800000 in
/-- again: full -/
theorem again_full (g M k : Nat) (v : Value) (l : List Ho) (w : World) (h : TbAt 106 w g M v l) (hk : k < l.length) (h6 : 6 ≤ (nthH l k).2) :
    Calls Try.prog 62 #[.pointer (some ⟨g, 0, none⟩), .int .i64 (k : Int)] w fun e w' => e = .returned (.int .i64 10) ∧ Only [] w w' := by
  obtain ⟨A, cap, rfl, hlc, hcm⟩ := h.room
  obtain ⟨gr, rfl, ⟨f1, f2⟩, _⟩ := h.at_ hk
  have hc1 := h.head.c1
  obtain ⟨x, hx⟩ : ∃ x, x = nthH l k := ⟨_, rfl⟩
  rw [← hx] at f1 f2 h6
  clear hx h
  obtain ⟨x1, x2⟩ := x
  simp only at f1 f2 h6
  go_enter Try.func62, Try.ntmps62
  go_wp2
  go_ret
  exact ⟨rfl, (Only.refl _ _).alloc _⟩

set_option maxHeartbeats 2400000 in
/-- again: a use more, and it is the newest -/
theorem again_room (g M k : Nat) (v : Value) (l : List Ho) (key : ByteArray) (u : Nat) (w : World) (h : TbAt 106 w g M v l) (hk : k < l.length) (hx : nthH l k = (key, u)) (h6 : u < 6) :
    Calls Try.prog 62 #[.pointer (some ⟨g, 0, none⟩), .int .i64 (k : Int)] w fun e w' => e = .returned (.int .i64 0) ∧
      ∃ v', TbHead w' g M v' ∧ URow 106 w' (g + 1) v' (l.eraseIdx k ++ [(key, u + 1)]) ∧ Only (g :: ownL v) w w' ∧ ∀ x ∈ ownL v', x ∈ ownL v ∨ w.heap.size ≤ x := by
  obtain ⟨A, cap, rfl, hlc, hcm⟩ := h.room
  obtain ⟨gr, rfl, ⟨f1, f2⟩, hgr⟩ := h.at_ hk
  have hc1 := h.head.c1
  rw [hx] at f1 f2
  simp only at f1 f2
  have HT := Lib.hid h
  have HGR := Lib.hid hgr
  have HL : Hid (l.length ≤ 32) := Nat.le_trans h.ok.len h.ok.m2
  have HGG : Hid (g < gr ∧ gr < w.heap.size) := h.own hgr
  obtain ⟨gb, hgb⟩ : ∃ gb, gb = w.heap.size := ⟨_, rfl⟩
  obtain ⟨W1, hW1⟩ : ∃ W1, W1 = (w.alloc (.cells #[.string key, .int .i64 ((u : Int) + 1)] 106)).drew := ⟨_, rfl⟩
  have HO1 : Hid (Only [] w W1) := by show Only _ _ _; rw [hW1]; exact ((Only.refl _ _).alloc _).drew
  have HF1 : Hid (W1.cell? ⟨gb, 0, none⟩ = some (.string key) ∧ W1.cell? ⟨gb, 1, none⟩ = some (.int .i64 ((u : Int) + 1))) := by
    show _ ∧ _
    rw [hW1, hgb]
    exact ⟨by simp, by simp⟩
  have HGB : Hid (gr < gb ∧ gb < W1.heap.size) := by show _ ∧ _; have h1 := block_of_cell (a := ⟨gb, 0, none⟩) HF1.out.1; have := HGG.out; refine ⟨by omega, h1⟩
  have HT1 := Lib.hid (h.old HO1.out)
  have HGE := Lib.hid hgb
  clear h hgr hx
  obtain ⟨F, hF⟩ : ∃ F : World → Prop, ∀ W, F W ↔ (W.cell? ⟨gb, 0, none⟩ = some (.string key) ∧ W.cell? ⟨gb, 1, none⟩ = some (.int .i64 ((u : Int) + 1))) := ⟨_, fun _ => Iff.rfl⟩
  have HFF := Lib.hid hF
  have HK1 : Hid (F W1) := (hF W1).2 HF1.out
  have HFO : Hid (∀ W W', F W → Only [gr, g] W W' → F W') := by
    show ∀ W W', _
    intro W W' h1 h2
    rw [hF] at h1 ⊢
    have hlt := block_of_cell (a := ⟨gb, 0, none⟩) h1.1
    have := HGB.out
    have := HGG.out
    exact ⟨(h2.cell (p := ⟨gb, 0, none⟩) hlt (by simp; omega)).trans h1.1, (h2.cell (p := ⟨gb, 1, none⟩) hlt (by simp; omega)).trans h1.2⟩
  have hx0 : ∀ p : Held F, p.w.cell? ⟨gb, 0, none⟩ = some (.string key) := fun p => ((hF _).1 p.h).1
  have hx1 : ∀ p : Held F, p.w.cell? ⟨gb, 1, none⟩ = some (.int .i64 ((u : Int) + 1)) := fun p => ((hF _).1 p.h).2
  have hne : Nonempty (Held F) := ⟨⟨W1, HK1.out⟩⟩
  have HSZ : Hid (∀ W, Only [gr] W1 W → gb < W.heap.size) := by show ∀ W, _; intro W h1; have := h1.size; have := HGB.out; omega
  have HLE : Hid ((l.eraseIdx k).length = l.length - 1) := by show _ = _; rw [List.length_eraseIdx, if_pos hk]
  clear hF hgb
  go_enter Try.func62, Try.ntmps62
  go_wp2_with fail
  rw [← HGE.out]
  clear f1 f2 hc1
  --REGION
  refine mix_start F (by kernel_rfl) ?_
  rw [← hW1]
  clear hW1
  refine mix_seg [0, 1, 2, 3, 5, 6, 7, 9] (by kernel_rfl) HK1.out ?_
  simp only [segOf, pickOps, pickOp]
  repeat (go_big_quiet_step (fail))
  refine wpQuiet_nil ?_
  clear hx0 hx1
  have hd1 := HT1.out.head.c1
  refine mix_several [4, 10] (by kernel_rfl) ?_
  intro i hi'
  simp only [List.mem_cons, List.not_mem_nil, or_false] at hi'
  rcases hi' with rfl | rfl
  · simp only [segOf, pickOps, pickOp]
    go_wp2_with fail
    refine MixPost.normal HK1.out ?_
    clear hd1
    refine mix_several [8, 10] (by kernel_rfl) ?_
    intro i hi'
    simp only [List.mem_cons, List.not_mem_nil, or_false] at hi'
    rcases hi' with rfl | rfl
    · simp only [segOf, pickOps, pickOp]
      have hcon : Calls Try.prog 79 #[.slice (some ⟨gr, 0, none⟩) l.length cap, .int .i64 (k : Int), .int .i64 ((k : Int) + 1)] W1 _ := del_any (g + 1) gr cap k (k + 1) l.length l W1 rfl rfl HT1.out.row hk hlc hcm
      go_wp2_with fail
      refine hcon.mono ?_
      rintro e w3 ⟨rfl, hrw3, how3⟩
      have HRw3 := Lib.hid hrw3
      have HOw3 := Lib.hid how3
      have HHw3 := Lib.hid (HT1.out.head.only how3 (by have := HGG.out; simp; omega))
      have HKw3 := Lib.hid (HFO.out _ _ HK1.out (how3.mono (by simp)))
      clear hcon hrw3 how3
      go_wp2_with fail
      refine MixPost.normal HKw3.out ?_
      refine mix_run 10 (by kernel_rfl) ?_
      obtain ⟨W5, hW5⟩ : ∃ W5, W5 = w3.alloc (.cells #[.string key, .int .i64 ((u : Int) + 1)] 106) := ⟨_, rfl⟩
      have HOW5 : Hid (Only [] w3 W5) := by show Only _ _ _; rw [hW5]; exact (Only.refl _ _).alloc _
      obtain ⟨B4, hB4⟩ : ∃ B4, B4 = w3.heap.size := ⟨_, rfl⟩
      have HNW5 : Hid (W5.cell? ⟨B4, 0, none⟩ = some (.string key) ∧ W5.cell? ⟨B4, 1, none⟩ = some (.int .i64 ((u + 1 : Nat) : Int))) := by show _ ∧ _; rw [hW5, hB4]; exact ⟨by simp, by simp⟩
      have HBW5 : Hid (gr < B4 ∧ g < B4 ∧ B4 < W5.heap.size) := by show _ ∧ _; have h1 := HGB.out; have h2 := HGG.out; have h3 : B4 < W5.heap.size := block_of_cell (a := ⟨B4, 0, none⟩) HNW5.out.1; have h4 := HSZ.out w3 (by first | exact HOw3.out | exact Only.refl _ _); omega
      simp only [segOf, pickOps, pickOp]
      go_wp2_with fail
      rw [← hW5, ← hB4]
      clear hW5 hB4
      refine MixPost.normal (HFO.out _ _ HKw3.out (HOW5.out.mono (by simp))) ?_
      have HR5 : Hid (URow 106 W5 (g + 1) (.slice (some ⟨gr, 0, none⟩) (l.length - 1) cap) (l.eraseIdx k)) := HRw3.out.only HOW5.out (by simp)
      have HH5 := Lib.hid (HHw3.out.only HOW5.out (by simp))
      have HK5 := Lib.hid (HFO.out _ _ HKw3.out (HOW5.out.mono (by simp)))
      have HN5 := HNW5
      have HO5 : Hid (Only [g, gr] w W5) := ((HO1.out.mono (by simp)).trans (HOw3.out.mono (by simp))).trans (HOW5.out.mono (by simp))
      refine mix_run 11 (by kernel_rfl) ?_
      simp only [segOf, pickOps, pickOp]
      refine wpList_append_host rfl (.tmp 28) (.tmp 30) 91 106 rfl Try.underlying91 infoU (g + 1) _ (l.eraseIdx k) (by simp only [Act.eval]; rw [← HLE.out]; rfl) HR5.out B4 key (u + 1) rfl HN5.out.1 HN5.out.2 (by have := HL.out; rw [HLE.out]; omega) (by have := HH5.out.lt; omega) ?_
      intro g2 cap2 w6 hr6 ho6 hg6
      have HH6 := Lib.hid (HH5.out.only ho6.out (by rw [ownL, Value.ownBlock]; have := HGG.out; simp; omega))
      have HK6 := Lib.hid (HFO.out _ _ HK5.out (ho6.out.mono (by rw [ownL, Value.ownBlock]; simp)))
      have hd1 := HH6.out.c1
      have hdz := HH6.out.z1
      obtain ⟨W7, hW7⟩ : ∃ W7, W7 = w6.setCell ⟨g, 1, none⟩ (.slice (some ⟨g2, 0, none⟩) ((l.eraseIdx k).length + 1) cap2) := ⟨_, rfl⟩
      have HH7 : Hid (TbHead W7 g M (.slice (some ⟨g2, 0, none⟩) ((l.eraseIdx k).length + 1) cap2)) := by show TbHead _ _ _ _; rw [hW7]; exact HH6.out.set1 _
      have HR7 : Hid (URow 106 W7 (g + 1) (.slice (some ⟨g2, 0, none⟩) ((l.eraseIdx k).length + 1) cap2) (l.eraseIdx k ++ [(key, u + 1)])) := by show URow _ _ _ _ _; rw [hW7]; exact hr6.out.setBelow _ _
      have HO7 : Hid (Only [g, gr] w W7) := by
        show Only _ _ _
        rw [hW7]
        exact (HO5.out.trans (ho6.out.mono (by rw [ownL, Value.ownBlock]; simp))).setCell (p := ⟨g, 1, none⟩) (by simp) _
      have HK7 : Hid (F W7) := by show F _; rw [hW7]; exact HFO.out _ _ HK6.out ((Only.refl _ _).setCell (p := ⟨g, 1, none⟩) (by simp) _)
      have HG7 : Hid (g2 = gr ∨ w.heap.size ≤ g2) := by
        show _ ∨ _
        rcases hg6.out with h1 | h1
        · rw [ownL, Value.ownBlock] at h1; simp at h1; exact .inl h1
        · have h2 := HO5.out.size; exact .inr (by omega)
      go_wp2_with fail
      refine MixPost.normal HK6.out ?_
      refine mix_seg [12, 13] (by kernel_rfl) HK6.out ?_
      simp only [segOf, pickOps, pickOp]
      repeat (go_big_quiet_step (fail))
      refine wpQuiet_nil ?_
      refine mix_run 14 (by kernel_rfl) ?_
      simp only [segOf, pickOps, pickOp]
      go_wp2_with fail
      rw [← hW7]
      clear hW7 hd1 hdz
      refine MixPost.normal HK7.out ?_
      refine mix_done (by kernel_rfl) ?_
      go_wp2
      go_ret
      refine ⟨rfl, _, HH7.out, HR7.out, HO7.out.mono (by rw [ownL, Value.ownBlock]; simp), ?_⟩
      intro y hy
      rw [ownL, Value.ownBlock] at hy
      simp at hy
      subst hy
      rcases HG7.out with h1 | h1
      · left; rw [ownL, Value.ownBlock]; simp [h1]
      · exact .inr h1
    · obtain ⟨W2, hW2⟩ : ∃ W2, W2 = W1.alloc (.cells #[.string key, .int .i64 ((u : Int) + 1)] 106) := ⟨_, rfl⟩
      have HOW2 : Hid (Only [] W1 W2) := by show Only _ _ _; rw [hW2]; exact (Only.refl _ _).alloc _
      obtain ⟨B4, hB4⟩ : ∃ B4, B4 = W1.heap.size := ⟨_, rfl⟩
      have HNW2 : Hid (W2.cell? ⟨B4, 0, none⟩ = some (.string key) ∧ W2.cell? ⟨B4, 1, none⟩ = some (.int .i64 ((u + 1 : Nat) : Int))) := by show _ ∧ _; rw [hW2, hB4]; exact ⟨by simp, by simp⟩
      have HBW2 : Hid (gr < B4 ∧ g < B4 ∧ B4 < W2.heap.size) := by show _ ∧ _; have h1 := HGB.out; have h2 := HGG.out; have h3 : B4 < W2.heap.size := block_of_cell (a := ⟨B4, 0, none⟩) HNW2.out.1; have h4 := HSZ.out W1 (by first | exact HOw3.out | exact Only.refl _ _); omega
      simp only [segOf, pickOps, pickOp]
      go_wp2_with fail
      rw [← hW2, ← hB4]
      clear hW2 hB4
      refine MixPost.normal (HFO.out _ _ HK1.out (HOW2.out.mono (by simp))) ?_
      have HTW2 := Lib.hid (HT1.out.old HOW2.out)
      have HKW2 := Lib.hid (HFO.out _ _ HK1.out (HOW2.out.mono (by simp)))
      refine mix_run 8 (by kernel_rfl) ?_
      simp only [segOf, pickOps, pickOp]
      have hcon : Calls Try.prog 79 #[.slice (some ⟨gr, 0, none⟩) l.length cap, .int .i64 (k : Int), .int .i64 ((k : Int) + 1)] W2 _ := del_any (g + 1) gr cap k (k + 1) l.length l W2 rfl rfl HTW2.out.row hk hlc hcm
      go_wp2_with fail
      refine hcon.mono ?_
      rintro e w5 ⟨rfl, hrw5, how5⟩
      have HRw5 := Lib.hid hrw5
      have HOw5 := Lib.hid how5
      have HHw5 := Lib.hid (HTW2.out.head.only how5 (by have := HGG.out; simp; omega))
      have HKw5 := Lib.hid (HFO.out _ _ HKW2.out (how5.mono (by simp)))
      clear hcon hrw5 how5
      go_wp2_with fail
      refine MixPost.normal HKw5.out ?_
      have HR5 := HRw5
      have HH5 := HHw5
      have HK5 := HKw5
      have HN5 : Hid (w5.cell? ⟨B4, 0, none⟩ = some (.string key) ∧ w5.cell? ⟨B4, 1, none⟩ = some (.int .i64 ((u + 1 : Nat) : Int))) := ⟨(HOw5.out.cell (p := ⟨B4, 0, none⟩) HBW2.out.2.2 (by have := HBW2.out; simp; omega)).trans HNW2.out.1, (HOw5.out.cell (p := ⟨B4, 1, none⟩) HBW2.out.2.2 (by have := HBW2.out; simp; omega)).trans HNW2.out.2⟩
      have HO5 : Hid (Only [g, gr] w w5) := ((HO1.out.mono (by simp)).trans (HOW2.out.mono (by simp))).trans (HOw5.out.mono (by simp))
      refine mix_run 11 (by kernel_rfl) ?_
      simp only [segOf, pickOps, pickOp]
      refine wpList_append_host rfl (.tmp 28) (.tmp 30) 91 106 rfl Try.underlying91 infoU (g + 1) _ (l.eraseIdx k) (by simp only [Act.eval]; rw [← HLE.out]; rfl) HR5.out B4 key (u + 1) rfl HN5.out.1 HN5.out.2 (by have := HL.out; rw [HLE.out]; omega) (by have := HH5.out.lt; omega) ?_
      intro g2 cap2 w6 hr6 ho6 hg6
      have HH6 := Lib.hid (HH5.out.only ho6.out (by rw [ownL, Value.ownBlock]; have := HGG.out; simp; omega))
      have HK6 := Lib.hid (HFO.out _ _ HK5.out (ho6.out.mono (by rw [ownL, Value.ownBlock]; simp)))
      have hd1 := HH6.out.c1
      have hdz := HH6.out.z1
      obtain ⟨W7, hW7⟩ : ∃ W7, W7 = w6.setCell ⟨g, 1, none⟩ (.slice (some ⟨g2, 0, none⟩) ((l.eraseIdx k).length + 1) cap2) := ⟨_, rfl⟩
      have HH7 : Hid (TbHead W7 g M (.slice (some ⟨g2, 0, none⟩) ((l.eraseIdx k).length + 1) cap2)) := by show TbHead _ _ _ _; rw [hW7]; exact HH6.out.set1 _
      have HR7 : Hid (URow 106 W7 (g + 1) (.slice (some ⟨g2, 0, none⟩) ((l.eraseIdx k).length + 1) cap2) (l.eraseIdx k ++ [(key, u + 1)])) := by show URow _ _ _ _ _; rw [hW7]; exact hr6.out.setBelow _ _
      have HO7 : Hid (Only [g, gr] w W7) := by
        show Only _ _ _
        rw [hW7]
        exact (HO5.out.trans (ho6.out.mono (by rw [ownL, Value.ownBlock]; simp))).setCell (p := ⟨g, 1, none⟩) (by simp) _
      have HK7 : Hid (F W7) := by show F _; rw [hW7]; exact HFO.out _ _ HK6.out ((Only.refl _ _).setCell (p := ⟨g, 1, none⟩) (by simp) _)
      have HG7 : Hid (g2 = gr ∨ w.heap.size ≤ g2) := by
        show _ ∨ _
        rcases hg6.out with h1 | h1
        · rw [ownL, Value.ownBlock] at h1; simp at h1; exact .inl h1
        · have h2 := HO5.out.size; exact .inr (by omega)
      go_wp2_with fail
      refine MixPost.normal HK6.out ?_
      refine mix_seg [12, 13] (by kernel_rfl) HK6.out ?_
      simp only [segOf, pickOps, pickOp]
      repeat (go_big_quiet_step (fail))
      refine wpQuiet_nil ?_
      refine mix_run 14 (by kernel_rfl) ?_
      simp only [segOf, pickOps, pickOp]
      go_wp2_with fail
      rw [← hW7]
      clear hW7 hd1 hdz
      refine MixPost.normal HK7.out ?_
      refine mix_done (by kernel_rfl) ?_
      go_wp2
      go_ret
      refine ⟨rfl, _, HH7.out, HR7.out, HO7.out.mono (by rw [ownL, Value.ownBlock]; simp), ?_⟩
      intro y hy
      rw [ownL, Value.ownBlock] at hy
      simp at hy
      subst hy
      rcases HG7.out with h1 | h1
      · left; rw [ownL, Value.ownBlock]; simp [h1]
      · exact .inr h1
  · obtain ⟨W2, hW2⟩ : ∃ W2, W2 = W1.alloc (.cells #[.string key, .int .i64 ((u : Int) + 1)] 106) := ⟨_, rfl⟩
    have HOW2 : Hid (Only [] W1 W2) := by show Only _ _ _; rw [hW2]; exact (Only.refl _ _).alloc _
    obtain ⟨B4, hB4⟩ : ∃ B4, B4 = W1.heap.size := ⟨_, rfl⟩
    have HNW2 : Hid (W2.cell? ⟨B4, 0, none⟩ = some (.string key) ∧ W2.cell? ⟨B4, 1, none⟩ = some (.int .i64 ((u + 1 : Nat) : Int))) := by show _ ∧ _; rw [hW2, hB4]; exact ⟨by simp, by simp⟩
    have HBW2 : Hid (gr < B4 ∧ g < B4 ∧ B4 < W2.heap.size) := by show _ ∧ _; have h1 := HGB.out; have h2 := HGG.out; have h3 : B4 < W2.heap.size := block_of_cell (a := ⟨B4, 0, none⟩) HNW2.out.1; have h4 := HSZ.out W1 (by first | exact HOw3.out | exact Only.refl _ _); omega
    simp only [segOf, pickOps, pickOp]
    go_wp2_with fail
    rw [← hW2, ← hB4]
    clear hW2 hB4
    refine MixPost.normal (HFO.out _ _ HK1.out (HOW2.out.mono (by simp))) ?_
    have HTW2 := Lib.hid (HT1.out.old HOW2.out)
    have HKW2 := Lib.hid (HFO.out _ _ HK1.out (HOW2.out.mono (by simp)))
    have hd2 := HTW2.out.head.c1
    clear hd1
    refine mix_run 4 (by kernel_rfl) ?_
    simp only [segOf, pickOps, pickOp]
    go_wp2_with fail
    refine MixPost.normal HKW2.out ?_
    clear hd2
    refine mix_run 8 (by kernel_rfl) ?_
    simp only [segOf, pickOps, pickOp]
    have hcon : Calls Try.prog 79 #[.slice (some ⟨gr, 0, none⟩) l.length cap, .int .i64 (k : Int), .int .i64 ((k : Int) + 1)] W2 _ := del_any (g + 1) gr cap k (k + 1) l.length l W2 rfl rfl HTW2.out.row hk hlc hcm
    go_wp2_with fail
    refine hcon.mono ?_
    rintro e w5 ⟨rfl, hrw5, how5⟩
    have HRw5 := Lib.hid hrw5
    have HOw5 := Lib.hid how5
    have HHw5 := Lib.hid (HTW2.out.head.only how5 (by have := HGG.out; simp; omega))
    have HKw5 := Lib.hid (HFO.out _ _ HKW2.out (how5.mono (by simp)))
    clear hcon hrw5 how5
    go_wp2_with fail
    refine MixPost.normal HKw5.out ?_
    have HR5 := HRw5
    have HH5 := HHw5
    have HK5 := HKw5
    have HN5 : Hid (w5.cell? ⟨B4, 0, none⟩ = some (.string key) ∧ w5.cell? ⟨B4, 1, none⟩ = some (.int .i64 ((u + 1 : Nat) : Int))) := ⟨(HOw5.out.cell (p := ⟨B4, 0, none⟩) HBW2.out.2.2 (by have := HBW2.out; simp; omega)).trans HNW2.out.1, (HOw5.out.cell (p := ⟨B4, 1, none⟩) HBW2.out.2.2 (by have := HBW2.out; simp; omega)).trans HNW2.out.2⟩
    have HO5 : Hid (Only [g, gr] w w5) := ((HO1.out.mono (by simp)).trans (HOW2.out.mono (by simp))).trans (HOw5.out.mono (by simp))
    refine mix_run 11 (by kernel_rfl) ?_
    simp only [segOf, pickOps, pickOp]
    refine wpList_append_host rfl (.tmp 28) (.tmp 30) 91 106 rfl Try.underlying91 infoU (g + 1) _ (l.eraseIdx k) (by simp only [Act.eval]; rw [← HLE.out]; rfl) HR5.out B4 key (u + 1) rfl HN5.out.1 HN5.out.2 (by have := HL.out; rw [HLE.out]; omega) (by have := HH5.out.lt; omega) ?_
    intro g2 cap2 w6 hr6 ho6 hg6
    have HH6 := Lib.hid (HH5.out.only ho6.out (by rw [ownL, Value.ownBlock]; have := HGG.out; simp; omega))
    have HK6 := Lib.hid (HFO.out _ _ HK5.out (ho6.out.mono (by rw [ownL, Value.ownBlock]; simp)))
    have hd1 := HH6.out.c1
    have hdz := HH6.out.z1
    obtain ⟨W7, hW7⟩ : ∃ W7, W7 = w6.setCell ⟨g, 1, none⟩ (.slice (some ⟨g2, 0, none⟩) ((l.eraseIdx k).length + 1) cap2) := ⟨_, rfl⟩
    have HH7 : Hid (TbHead W7 g M (.slice (some ⟨g2, 0, none⟩) ((l.eraseIdx k).length + 1) cap2)) := by show TbHead _ _ _ _; rw [hW7]; exact HH6.out.set1 _
    have HR7 : Hid (URow 106 W7 (g + 1) (.slice (some ⟨g2, 0, none⟩) ((l.eraseIdx k).length + 1) cap2) (l.eraseIdx k ++ [(key, u + 1)])) := by show URow _ _ _ _ _; rw [hW7]; exact hr6.out.setBelow _ _
    have HO7 : Hid (Only [g, gr] w W7) := by
      show Only _ _ _
      rw [hW7]
      exact (HO5.out.trans (ho6.out.mono (by rw [ownL, Value.ownBlock]; simp))).setCell (p := ⟨g, 1, none⟩) (by simp) _
    have HK7 : Hid (F W7) := by show F _; rw [hW7]; exact HFO.out _ _ HK6.out ((Only.refl _ _).setCell (p := ⟨g, 1, none⟩) (by simp) _)
    have HG7 : Hid (g2 = gr ∨ w.heap.size ≤ g2) := by
      show _ ∨ _
      rcases hg6.out with h1 | h1
      · rw [ownL, Value.ownBlock] at h1; simp at h1; exact .inl h1
      · have h2 := HO5.out.size; exact .inr (by omega)
    go_wp2_with fail
    refine MixPost.normal HK6.out ?_
    refine mix_seg [12, 13] (by kernel_rfl) HK6.out ?_
    simp only [segOf, pickOps, pickOp]
    repeat (go_big_quiet_step (fail))
    refine wpQuiet_nil ?_
    refine mix_run 14 (by kernel_rfl) ?_
    simp only [segOf, pickOps, pickOp]
    go_wp2_with fail
    rw [← hW7]
    clear hW7 hd1 hdz
    refine MixPost.normal HK7.out ?_
    refine mix_done (by kernel_rfl) ?_
    go_wp2
    go_ret
    refine ⟨rfl, _, HH7.out, HR7.out, HO7.out.mono (by rw [ownL, Value.ownBlock]; simp), ?_⟩
    intro y hy
    rw [ownL, Value.ownBlock] at hy
    simp at hy
    subst hy
    rcases HG7.out with h1 | h1
    · left; rw [ownL, Value.ownBlock]; simp [h1]
    · exact .inr h1
  --END
end Go.Proofs.Ytbnmldfiheffoaa
