/-
  The contracts of pool.New and Pool.Give over this seat's program. Conditions: those of each statement.
-/
import Derived.Test.YtbnmldfiheffoaaQAgain
import Derived.Test.YtbnmldfiheffoaaTTick
namespace Go.Proofs.Ytbnmldfiheffoaa
open Go.RowKit

set_option maxHeartbeats 1600000 in
theorem pNew_any (n : Int) (kp : Nat) (w : World) :
    Calls Try.prog 10 #[.int .i64 n, .int .u64 (kp : Int)] w fun e w' => ∃ g gt, e = .returned (.pointer (some ⟨g, 0, none⟩)) ∧ PoAt w' g gt (.slice none 0 0) (.slice none 0 0) (.slice none 0 0) ⟨clampT n, kp, 0, [], [], []⟩ ∧ Only [] w w' ∧ w.heap.size ≤ g ∧ w.heap.size ≤ gt := by
  obtain ⟨m, hm⟩ : ∃ m, m = clampT n := ⟨_, rfl⟩
  obtain ⟨z, hz⟩ : ∃ z : Int, z = min (max n 1) 32 := ⟨_, rfl⟩
  have HZ : Hid (z = (m : Int)) := by show _ = _; rw [hz, hm]; unfold clampT; split <;> (try split) <;> omega
  rw [← hm]
  have HZZ := Lib.hid hz
  clear hm hz
  go_enter Try.func10, Try.ntmps10
  go_wp2_with fail
  refine (hNew_any 32 w).mono ?_
  rintro e w1 ⟨rfl, ht, ho, hs⟩
  rw [show clampT 32 = 32 by rfl] at ht
  have HT := Lib.hid ht
  have HO := Lib.hid ho
  have HS := Lib.hid hs
  obtain ⟨gt, hgt⟩ : ∃ gt, gt = w.heap.size := ⟨_, rfl⟩
  obtain ⟨g, hg⟩ : ∃ g, g = w1.heap.size := ⟨_, rfl⟩
  rw [← hgt] at HT HS ⊢
  have HGT := Lib.hid hgt
  have HG := Lib.hid hg
  obtain ⟨W2, hW2⟩ : ∃ W2, W2 = w1.alloc (.cells #[.int .i64 z, .int .u64 (kp : Int), .int .i64 0, .pointer (some ⟨gt, 0, none⟩), .slice none 0 0, .slice none 0 0] 67) := ⟨_, rfl⟩
  have HO2 : Hid (Only [] w1 W2) := by show Only _ _ _; rw [hW2]; exact (Only.refl _ _).alloc _
  have HC2 : Hid (W2.cell? ⟨g, 0, none⟩ = some (.int .i64 z) ∧ W2.cell? ⟨g, 1, none⟩ = some (.int .u64 (kp : Int)) ∧ W2.cell? ⟨g, 2, none⟩ = some (.int .i64 0) ∧ W2.cell? ⟨g, 3, none⟩ = some (.pointer (some ⟨gt, 0, none⟩)) ∧ W2.cell? ⟨g, 4, none⟩ = some (.slice none 0 0) ∧ W2.cell? ⟨g, 5, none⟩ = some (.slice none 0 0) ∧ W2.frozen? ⟨g, 2, none⟩ = false ∧ W2.frozen? ⟨g, 4, none⟩ = false ∧ W2.frozen? ⟨g, 5, none⟩ = false) := by
    show _ ∧ _ ∧ _ ∧ _ ∧ _ ∧ _ ∧ _ ∧ _ ∧ _
    rw [hW2, hg]
    exact ⟨by simp, by simp, by simp, by simp, by simp, by simp, by simp, by simp, by simp⟩
  clear ht ho hs hgt
  go_wp2_with fail
  rw [← HZZ.out, ← hW2, ← hg]
  clear hW2 hg
  refine (atStore_any g 2 0 1 W2 HC2.out.2.2.1 HC2.out.2.2.2.2.2.2.1).mono ?_
  rintro e w3 ⟨rfl, hw3⟩
  have HO3 : Hid (Only [g] W2 w3) := by show Only _ _ _; rw [hw3]; exact (Only.refl _ _).setCell (p := ⟨g, 2, none⟩) (by simp) _
  have HH3 : Hid (PoHead w3 g m kp 0 gt (.slice none 0 0) (.slice none 0 0)) := by
    show PoHead _ _ _ _ _ _ _ _
    obtain ⟨a0, a1, a2, a3, a4, a5, z2, z4, z5⟩ := HC2.out
    rw [hw3]
    refine ⟨?_, ?_, World.cell?_setCell_same _ _ _ a2, ?_, ?_, ?_, ?_, ?_, ?_⟩
    · rw [World.cell?_setCell_other _ _ _ _ (by simp), a0, HZ.out]
    all_goals first | (rw [World.cell?_setCell_other _ _ _ _ (by simp)]; first | exact a1 | exact a3 | exact a4 | exact a5) | (rw [World.frozen?_setCell]; first | exact z2 | exact z4 | exact z5)
  have HGN : Hid (gt < g) := by show _ < _; rw [HG.out]; have := HS.out; omega
  clear hw3
  go_wp2
  go_ret
  refine ⟨g, gt, rfl, ⟨HH3.out, (HT.out.old HO2.out).only HO3.out (by have := HGN.out; simp; omega) (by intro x hx; simp [ownL, Value.ownBlock] at hx), CRow.nil, CRow.nil, ?_⟩, (HO.out.trans HO2.out).next HO3.out (by intro x hx; right; simp at hx; rw [hx, HG.out]; exact HO.out.size), by rw [HG.out]; exact HO.out.size, by rw [HGT.out]; exact Nat.le_refl _⟩
  have hne : g ≠ gt := by have := HGN.out; omega
  constructor <;> simp [ownL, Value.ownBlock, hne]
set_option maxRecDepth 8000 in
set_option maxHeartbeats 4000000 in
theorem pGive_any (g gt : Nat) (vt vb vi : Value) (s : Pv) (i : Int) (now : Nat) (kb : Bool) (w : World) (h : PoAt w g gt vt vb vi s) (hil : s.i.length ≤ 100) (hn1 : (now : Int) ≤ 18446744073709551615) (hn2 : (s.keep : Int) ≤ 18446744073709551615) :
    Calls Try.prog 17 #[.pointer (some ⟨g, 0, none⟩), .int .i64 i, .int .u64 (now : Int), .bool kb] w fun e w' => e = .returned (.int .i64 (giveC i s : Int)) ∧ PoStep w w' g gt vt vb vi (giveS i now kb s) := by
  obtain ⟨Ab, capb, rfl, hb1, hb2⟩ := h.rb.slice
  obtain ⟨Ai, capi, rfl, hi1, hi2⟩ := h.ri.slice
  unfold maxLen at hb2 hi2
  have HP := Lib.hid h
  have HIL := Lib.hid hil
  have hc4 := h.hd.c4
  have hgl := h.hd.lt
  clear h hil
  obtain ⟨p, hp⟩ : ∃ p, p = s.b.findIdx (connB i) := ⟨_, rfl⟩
  by_cases h1 : p < s.b.length
  · by_cases hkb : kb = true
    · subst hkb
      by_cases hk0 : s.keep ≠ 0
      · have hk1 : ¬ (s.keep : Int) = 0 := by omega
        have HI : Hid (firstI (connB i) s.b = (p : Int)) := by show _ = _; rw [firstI_yes (by rw [← hp]; exact h1), ← hp]
        have HE0 : Hid (giveC i s = 0) := by show _ = _; unfold giveC; rw [← hp, if_pos h1]
        have hp0 : (0 : Int) ≤ (p : Int) := by omega
        obtain ⟨y, hy⟩ : ∃ y, y = nthC s.b p := ⟨_, rfl⟩
        have HGS : Hid (giveS i now true s = { s with b := s.b.eraseIdx p, h := freeS s.h y.k, i := if true = true ∧ s.keep ≠ 0 then s.i ++ [{ y with u := sumT now s.keep }] else s.i }) := by show _ = _; unfold giveS; rw [← hp, if_pos h1, ← hy]
        have HY := Lib.hid hy
        clear hp hy
        have hpl : p < s.b.length := h1
        obtain ⟨y1, y2, y3⟩ := y
        simp only at HGS
        rw [HE0.out]
        go_enter Try.func17, Try.ntmps17
        go_wp2_with fail
        refine (pfind_any 83 _ s.b i w HP.out.rb).mono ?_
        rintro e w1 ⟨rfl, ho⟩
        rw [HI.out]
        have HO1 := Lib.hid ho
        have HP1 := Lib.hid (HP.out.old ho)
        have hd4 := HP1.out.hd.c4
        have hgl1 := HP1.out.hd.lt
        clear ho hc4
        obtain ⟨gb, cap2, e2, hgb, _, _⟩ := HP1.out.rb.some_ (by omega)
        obtain ⟨rfl, rfl⟩ : Ab = some ⟨gb, 0, none⟩ ∧ capb = cap2 := by
          injection e2 with e1 e2 e3
          exact ⟨e1, e3⟩
        clear e2
        obtain ⟨f0, f1, f2⟩ := HP1.out.rb.el rfl hpl
        rw [← HY.out] at f0 f1 f2
        simp only at f0 f1 f2
        obtain ⟨W2, hW2⟩ : ∃ W2, W2 = w1.alloc (.cells #[.int .i64 (y1 : Int), .string y2, .int .u64 (y3 : Int)] 83) := ⟨_, rfl⟩
        obtain ⟨Bl, hBl⟩ : ∃ Bl, Bl = w1.heap.size := ⟨_, rfl⟩
        have HO2 : Hid (Only [] w W2) := by show Only _ _ _; rw [hW2]; exact HO1.out.alloc _
        have HL2 : Hid (LBox W2 Bl ⟨y1, y2, y3⟩ ∧ W2.frozen? ⟨Bl, 2, none⟩ = false) := by show _ ∧ _; rw [hW2, hBl]; exact ⟨⟨by simp, by simp, by simp⟩, by simp⟩
        have HBL : Hid (w.heap.size ≤ Bl) := by show _ ≤ _; rw [hBl]; exact HO1.out.size
        have HP2 := Lib.hid (HP.out.old HO2.out)
        have he4 := HP2.out.hd.c4
        have hgl2 := HP2.out.hd.lt
        have hcon : Calls Try.prog 39 #[.slice (some ⟨gb, 0, none⟩) s.b.length capb, .int .i64 (p : Int), .int .i64 ((p : Int) + 1)] W2 _ := delC_any gb capb p (p + 1) s.b.length s.b W2 rfl rfl HP2.out.rb hpl hb1 hb2
        go_wp2_with fail
        rw [← hW2, ← hBl]
        clear hW2 hBl f0 f1 f2 hd4
        go_wp2_with fail
        refine hcon.mono ?_
        rintro e w3 ⟨rfl, hr3, ho3⟩
        have HNG : Hid (g ≠ gb) := by show _ ≠ _; have h1 := HP2.out.ap.a3; intro e; apply h1; rw [e]; simp [ownL, Value.ownBlock]
        have HR3 := Lib.hid hr3
        have HO3 := Lib.hid ho3
        have HGB : Hid (gb < w.heap.size) := HP.out.ob gb (by simp [ownL, Value.ownBlock])
        have HH3 := Lib.hid (HP2.out.hd.only ho3 (by have := HNG.out; simpa using this))
        have hd4 := HH3.out.c4
        have hz4 := HH3.out.z4
        have hgl3 := HH3.out.lt
        clear hcon hr3 ho3 he4
        obtain ⟨W4, hW4⟩ : ∃ W4, W4 = w3.setCell ⟨g, 4, none⟩ (.slice (some ⟨gb, 0, none⟩) (s.b.length - 1) capb) := ⟨_, rfl⟩
        have HO4 : Hid (Only [g, gb] W2 W4) := by show Only _ _ _; rw [hW4]; exact (HO3.out.mono (by simp)).setCell (p := ⟨g, 4, none⟩) (by simp) _
        have HP4 : Hid (PoAt W4 g gt vt (.slice (some ⟨gb, 0, none⟩) (s.b.length - 1) capb) (.slice Ai s.i.length capi) { s with b := s.b.eraseIdx p }) := by
          show PoAt _ _ _ _ _ _ _
          refine HP2.out.turnB HO4.out ?_ ?_ (fun x hx => .inl hx)
          · rw [hW4]; exact HH3.out.set4 _
          · rw [hW4]
            refine HR3.out.only (s := [g]) ((Only.refl _ _).setCell (p := ⟨g, 4, none⟩) (by simp) _) ?_
            intro z hz hm
            simp [ownL, Value.ownBlock] at hz hm
            exact HNG.out (hm.symm.trans hz)
        have HL4 : Hid (LBox W4 Bl ⟨y1, y2, y3⟩ ∧ W4.frozen? ⟨Bl, 2, none⟩ = false) := by
          show _ ∧ _
          have hn : Bl ∉ [g, gb] := by have h1 := HBL.out; have h2 := HGB.out; have h3 := HP.out.hd.lt; simp; omega
          exact ⟨HL2.out.1.only HO4.out hn, (HO4.out.frozen (p := ⟨Bl, 2, none⟩) (block_of_cell (a := ⟨Bl, 0, none⟩) HL2.out.1.c0) hn).trans HL2.out.2⟩
        go_wp2_with fail
        rw [← hW4]
        clear hW4 hd4 hz4
        obtain ⟨F, hF⟩ : ∃ F : World → Prop, ∀ W, F W ↔ (W.cell? ⟨g, 3, none⟩ = some (.pointer (some ⟨gt, 0, none⟩)) ∧ W.cell? ⟨Bl, 1, none⟩ = some (.string y2)) := ⟨_, fun _ => Iff.rfl⟩
        have hx3 : ∀ p : Held F, p.w.cell? ⟨g, 3, none⟩ = some (.pointer (some ⟨gt, 0, none⟩)) := fun p => ((hF _).1 p.h).1
        have hxB : ∀ p : Held F, p.w.cell? ⟨Bl, 1, none⟩ = some (.string y2) := fun p => ((hF _).1 p.h).2
        have HBT : Hid (Bl ∉ ownL vt) := by show _ ∉ _; intro hm; have h1 := HP.out.ot _ hm; have h2 := HBL.out; omega
        have HFO : Hid (∀ W, Only (ownL vt) W4 W → F W) := by
          show ∀ W, _
          intro W ho
          exact (hF _).2 ⟨(ho.cell (p := ⟨g, 3, none⟩) HP4.out.hd.lt HP4.out.ap.a2).trans HP4.out.hd.c3, (HL4.out.1.only ho HBT.out).c1⟩
        have HTD := Lib.hid (HP4.out.old ((Only.refl _ W4).drew)).tb
        clear hF
        refine mix_start F (by kernel_rfl) ?_
        refine mix_seg [0, 1, 2, 3, 4, 5] (by kernel_rfl) (HFO.out _ ((Only.refl _ W4).drew)) ?_
        simp only [segOf, pickOps, pickOp]
        repeat (go_big_quiet_step (rfl))
        refine wpQuiet_nil ?_
        refine mix_run 6 (by kernel_rfl) ?_
        simp only [segOf, pickOps, pickOp]
        go_wp2_with fail
        refine (hFree_any gt 32 vt s.h y2 _ HTD.out).mono ?_
        rintro e w5 ⟨rfl, ht5, ho5⟩
        have HO5 := Lib.hid ho5.of_drew
        have HP5 := Lib.hid (HP4.out.turnT (HO5.out.mono (fun x hx => List.mem_cons_of_mem _ hx)) ht5 (Grow.refl _ _))
        have HL5 : Hid (LBox w5 Bl ⟨y1, y2, y3⟩ ∧ w5.frozen? ⟨Bl, 2, none⟩ = false) := by
          show _ ∧ _
          exact ⟨HL4.out.1.only HO5.out HBT.out, (HO5.out.frozen (p := ⟨Bl, 2, none⟩) (block_of_cell (a := ⟨Bl, 0, none⟩) HL4.out.1.c0) HBT.out).trans HL4.out.2⟩
        have HOA : Hid (Only (footP g gt vt (.slice (some ⟨gb, 0, none⟩) s.b.length capb) (.slice Ai s.i.length capi)) w w5) := by
          show Only _ _ _
          refine ((HO2.out.mono (by simp)).trans (HO4.out.mono ?_)).trans (HO5.out.mono ?_)
          · intro x hx
            simp at hx
            rcases hx with h1 | h1
            · exact mem_footP.2 (by simp [h1])
            · exact mem_footP.2 (by simp [h1, ownL, Value.ownBlock])
          · intro x hx; exact mem_footP.2 (by simp [hx])
        clear ht5 ho5
        go_wp2_with fail
        refine MixPost.normal (HFO.out _ HO5.out) ?_
        refine mix_done (by kernel_rfl) ?_
        have hc1 := HP5.out.hd.c1
        have hgl5 := HP5.out.hd.lt
        go_wp2_with fail
        refine (tickAdd_any (now : Int) (s.keep : Int) w5 (by omega) hn1 (by omega) hn2).mono ?_
        rintro e w6 ⟨rfl, hw6⟩
        rw [← hw6]
        clear hw6 hc1
        obtain ⟨u, hu⟩ : ∃ u, u = sumT now s.keep := ⟨_, rfl⟩
        have HU : Hid (Lk.addT (now : Int) (s.keep : Int) = (u : Int)) := by show _ = _; rw [hu]; unfold Lk.addT sumT; split <;> split <;> omega
        rw [HU.out]
        rw [← hu] at HGS
        clear hu
        obtain ⟨W7, hW7⟩ : ∃ W7, W7 = w5.setCell ⟨Bl, 2, none⟩ (.int .u64 (u : Int)) := ⟨_, rfl⟩
        have HO7 : Hid (Only [Bl] w5 W7) := by show Only _ _ _; rw [hW7]; exact (Only.refl _ _).setCell (p := ⟨Bl, 2, none⟩) (by simp) _
        have HL7 : Hid (LBox W7 Bl ⟨y1, y2, u⟩) := by
          show LBox _ _ _
          rw [hW7]
          exact ⟨by rw [World.cell?_setCell_other _ _ _ _ (by simp)]; exact HL5.out.1.c0, by rw [World.cell?_setCell_other _ _ _ _ (by simp)]; exact HL5.out.1.c1, World.cell?_setCell_same _ _ _ HL5.out.1.c2⟩
        have HBF : Hid (∀ x ∈ footP g gt vt (.slice (some ⟨gb, 0, none⟩) (s.b.length - 1) capb) (.slice Ai s.i.length capi), x < w.heap.size) := by
          show ∀ x ∈ _, _
          intro x hx
          refine HP.out.lt (x := x) ?_
          rcases mem_footP.1 hx with h1 | h1 | h1 | h1 | h1
          · exact mem_footP.2 (by simp [h1])
          · exact mem_footP.2 (by simp [h1])
          · exact mem_footP.2 (by simp [h1])
          · exact mem_footP.2 (.inr (.inr (.inr (.inl h1))))
          · exact mem_footP.2 (by simp [h1])
        have HP7 := Lib.hid (HP5.out.only HO7.out (by intro x hx hm; simp at hm; subst hm; have h1 := HBF.out _ hx; have h2 := HBL.out; omega))
        have l2 := HL5.out.1.c2
        have lz := HL5.out.2
        have hbl5 : Bl < w5.heap.size := block_of_cell (a := ⟨Bl, 0, none⟩) HL5.out.1.c0
        go_wp2_with fail
        rw [← hW7]
        clear hW7 l2 lz
        obtain ⟨F2, hF2⟩ : ∃ F2 : World → Prop, ∀ X, F2 X ↔ LBox X Bl ⟨y1, y2, u⟩ := ⟨_, fun _ => Iff.rfl⟩
        have hxl0 : ∀ p : Held F2, p.w.cell? ⟨Bl, 0, none⟩ = some (.int .i64 (y1 : Int)) := fun p => ((hF2 _).1 p.h).c0
        have hxl1 : ∀ p : Held F2, p.w.cell? ⟨Bl, 1, none⟩ = some (.string y2) := fun p => ((hF2 _).1 p.h).c1
        have hxl2 : ∀ p : Held F2, p.w.cell? ⟨Bl, 2, none⟩ = some (.int .u64 (u : Int)) := fun p => ((hF2 _).1 p.h).c2
        have HFF2 : Hid (∀ X, Only (g :: ownL (.slice Ai s.i.length capi)) W7 X → F2 X) := by
          show ∀ X, _
          intro X ho
          refine (hF2 _).2 (HL7.out.only ho ?_)
          intro hm
          have h2 := HBL.out
          rcases List.mem_cons.1 hm with h1 | h1
          · have := HP.out.hd.lt; omega
          · have := HP.out.oi _ h1; omega
        clear hF2 hx3 hxB HFO
        obtain ⟨W8, hW8⟩ : ∃ W8, W8 = W7.drew := ⟨_, rfl⟩
        have HO8 : Hid (Only [] W7 W8) := by show Only _ _ _; rw [hW8]; exact (Only.refl _ _).drew
        have HP8 := Lib.hid (HP7.out.old HO8.out)
        obtain ⟨W9, hW9⟩ : ∃ W9, W9 = W8.alloc (.cells #[.int .i64 (y1 : Int), .string y2, .int .u64 (u : Int)] 83) := ⟨_, rfl⟩
        obtain ⟨B9, hB9⟩ : ∃ B9, B9 = W8.heap.size := ⟨_, rfl⟩
        have HO9 : Hid (Only [] W7 W9) := by show Only _ _ _; rw [hW9]; exact HO8.out.alloc _
        have HN9 : Hid (W9.cell? ⟨B9, 0, none⟩ = some (.int .i64 (y1 : Int)) ∧ W9.cell? ⟨B9, 1, none⟩ = some (.string y2) ∧ W9.cell? ⟨B9, 2, none⟩ = some (.int .u64 (u : Int))) := by show _ ∧ _ ∧ _; rw [hW9, hB9]; exact ⟨by simp, by simp, by simp⟩
        have HS9 : Hid (W7.heap.size ≤ W9.heap.size) := HO9.out.size
        have HP9 := Lib.hid (HP7.out.old HO9.out)
        have hgl8 := HP8.out.hd.lt
        have hgl9 := HP9.out.hd.lt
        refine mix_start F2 (by kernel_rfl) ?_
        rw [← hW8]
        clear hW8
        refine mix_seg [0, 1, 2, 3, 5] (by kernel_rfl) (HFF2.out _ (HO8.out.mono (by simp))) ?_
        simp only [segOf, pickOps, pickOp]
        repeat (go_big_quiet_step (rfl))
        refine wpQuiet_nil ?_
        refine mix_several [4, 6] (by kernel_rfl) ?_
        intro i9 hi9
        simp only [List.mem_cons, List.not_mem_nil, or_false] at hi9
        rcases hi9 with rfl | rfl
        · simp only [segOf, pickOps, pickOp]
          have hd5 := HP8.out.hd.c5
          go_wp2_with fail
          refine MixPost.normal (HFF2.out _ (HO8.out.mono (by simp))) ?_
          clear hd5
          refine mix_run 6 (by kernel_rfl) ?_
          simp only [segOf, pickOps, pickOp]
          go_wp2_with fail
          rw [← hW9, ← hB9]
          clear hW9 hB9
          refine MixPost.normal (HFF2.out _ (HO9.out.mono (by simp))) ?_
          refine mix_run 7 (by kernel_rfl) ?_
          simp only [segOf, pickOps, pickOp]
          refine wpList_append_conn rfl (.tmp 65) (.tmp 67) 65 83 rfl Try.underlying65 infoC _ s.i rfl HP9.out.ri B9 ⟨y1, y2, u⟩ rfl HN9.out.1 HN9.out.2.1 HN9.out.2.2 (by have := HIL.out; omega) ?_
          intro g2 cap2 w10 hr10 ho10 hg10
          obtain ⟨v10, hv10⟩ : ∃ v10, v10 = Value.slice (some ⟨g2, 0, none⟩) (s.i.length + 1) cap2 := ⟨_, rfl⟩
          have HG10 : Hid (Grow W7.heap.size (.slice Ai s.i.length capi) v10) := by
            show Grow _ _ _
            intro z hz
            rw [hv10, ownL, Value.ownBlock] at hz
            simp at hz
            subst hz
            rcases hg10.out with h1 | h1
            · exact .inl h1
            · right; have := HS9.out; omega
          have HH10 := Lib.hid (HP9.out.hd.only ho10.out HP9.out.ap.a4)
          have HO10 : Hid (Only (ownL (.slice Ai s.i.length capi)) W7 w10) := (HO9.out.mono (by simp)).trans ho10.out
          have hd5' := HH10.out.c5
          have hz5 := HH10.out.z5
          have hgl10 := HH10.out.lt
          obtain ⟨W11, hW11⟩ : ∃ W11, W11 = w10.setCell ⟨g, 5, none⟩ v10 := ⟨_, rfl⟩
          have HO11 : Hid (Only (g :: ownL (.slice Ai s.i.length capi)) W7 W11) := by
            show Only _ _ _
            rw [hW11]; exact (HO10.out.mono (by intro z hz; exact List.mem_cons_of_mem _ hz)).setCell (p := ⟨g, 5, none⟩) (by simp) _
          have HP11 : Hid (PoAt W11 g gt vt (.slice (some ⟨gb, 0, none⟩) (s.b.length - 1) capb) v10 { s with b := s.b.eraseIdx p, h := freeS s.h y2, i := s.i ++ [⟨y1, y2, u⟩] }) := by
            show PoAt _ _ _ _ _ _ _
            refine HP7.out.turnI HO11.out ?_ ?_ HG10.out
            · rw [hW11]; exact HH10.out.set5 _
            · rw [hW11, hv10]
              refine hr10.out.only (s := [g]) ((Only.refl _ _).setCell (p := ⟨g, 5, none⟩) (by simp) _) ?_
              intro z hz hm
              rw [← hv10] at hz
              simp at hm
              subst hm
              rcases HG10.out z hz with h1 | h1
              · exact HP9.out.ap.a4 h1
              · have := HP7.out.hd.lt; omega
          have HF10 : Hid (F2 w10) := HFF2.out _ (HO10.out.mono (by intro z hz; exact List.mem_cons_of_mem _ hz))
          have HF11 : Hid (F2 W11) := HFF2.out _ HO11.out
          rw [hv10] at hW11
          go_wp2_with fail
          refine MixPost.normal HF10.out ?_
          refine mix_seg [8, 9] (by kernel_rfl) HF10.out ?_
          simp only [segOf, pickOps, pickOp]
          repeat (go_big_quiet_step (rfl))
          refine wpQuiet_nil ?_
          refine mix_run 10 (by kernel_rfl) ?_
          simp only [segOf, pickOps, pickOp]
          go_wp2_with fail
          rw [← hW11]
          clear hW11 hd5' hz5
          refine MixPost.normal HF11.out ?_
          refine mix_done (by kernel_rfl) ?_
          go_wp2
          go_ret
          refine ⟨rfl, vt, .slice (some ⟨gb, 0, none⟩) (s.b.length - 1) capb, v10, ?_, ?_, Grow.refl _ _, fun x hx => .inl hx, ?_⟩
          · rw [HGS.out, if_pos ⟨trivial, hk0⟩]
            exact HP11.out
          · have h1 : Only (footP g gt vt (.slice (some ⟨gb, 0, none⟩) s.b.length capb) (.slice Ai s.i.length capi)) w W7 := HOA.out.next HO7.out (by intro x hx; right; simp at hx; subst hx; exact HBL.out)
            refine h1.trans (HO11.out.mono ?_)
            intro x hx
            rcases List.mem_cons.1 hx with h2 | h2
            · exact mem_footP.2 (by simp [h2])
            · exact mem_footP.2 (by simp [h2])
          · exact (Grow.refl _ _).trans HG10.out (Nat.le_trans HOA.out.size HO7.out.size)
        · simp only [segOf, pickOps, pickOp]
          go_wp2_with fail
          rw [← hW9, ← hB9]
          clear hW9 hB9
          refine MixPost.normal (HFF2.out _ (HO9.out.mono (by simp))) ?_
          refine mix_run 4 (by kernel_rfl) ?_
          simp only [segOf, pickOps, pickOp]
          have hd5 := HP9.out.hd.c5
          go_wp2_with fail
          refine MixPost.normal (HFF2.out _ (HO9.out.mono (by simp))) ?_
          clear hd5
          refine mix_run 7 (by kernel_rfl) ?_
          simp only [segOf, pickOps, pickOp]
          refine wpList_append_conn rfl (.tmp 65) (.tmp 67) 65 83 rfl Try.underlying65 infoC _ s.i rfl HP9.out.ri B9 ⟨y1, y2, u⟩ rfl HN9.out.1 HN9.out.2.1 HN9.out.2.2 (by have := HIL.out; omega) ?_
          intro g2 cap2 w10 hr10 ho10 hg10
          obtain ⟨v10, hv10⟩ : ∃ v10, v10 = Value.slice (some ⟨g2, 0, none⟩) (s.i.length + 1) cap2 := ⟨_, rfl⟩
          have HG10 : Hid (Grow W7.heap.size (.slice Ai s.i.length capi) v10) := by
            show Grow _ _ _
            intro z hz
            rw [hv10, ownL, Value.ownBlock] at hz
            simp at hz
            subst hz
            rcases hg10.out with h1 | h1
            · exact .inl h1
            · right; have := HS9.out; omega
          have HH10 := Lib.hid (HP9.out.hd.only ho10.out HP9.out.ap.a4)
          have HO10 : Hid (Only (ownL (.slice Ai s.i.length capi)) W7 w10) := (HO9.out.mono (by simp)).trans ho10.out
          have hd5' := HH10.out.c5
          have hz5 := HH10.out.z5
          have hgl10 := HH10.out.lt
          obtain ⟨W11, hW11⟩ : ∃ W11, W11 = w10.setCell ⟨g, 5, none⟩ v10 := ⟨_, rfl⟩
          have HO11 : Hid (Only (g :: ownL (.slice Ai s.i.length capi)) W7 W11) := by
            show Only _ _ _
            rw [hW11]; exact (HO10.out.mono (by intro z hz; exact List.mem_cons_of_mem _ hz)).setCell (p := ⟨g, 5, none⟩) (by simp) _
          have HP11 : Hid (PoAt W11 g gt vt (.slice (some ⟨gb, 0, none⟩) (s.b.length - 1) capb) v10 { s with b := s.b.eraseIdx p, h := freeS s.h y2, i := s.i ++ [⟨y1, y2, u⟩] }) := by
            show PoAt _ _ _ _ _ _ _
            refine HP7.out.turnI HO11.out ?_ ?_ HG10.out
            · rw [hW11]; exact HH10.out.set5 _
            · rw [hW11, hv10]
              refine hr10.out.only (s := [g]) ((Only.refl _ _).setCell (p := ⟨g, 5, none⟩) (by simp) _) ?_
              intro z hz hm
              rw [← hv10] at hz
              simp at hm
              subst hm
              rcases HG10.out z hz with h1 | h1
              · exact HP9.out.ap.a4 h1
              · have := HP7.out.hd.lt; omega
          have HF10 : Hid (F2 w10) := HFF2.out _ (HO10.out.mono (by intro z hz; exact List.mem_cons_of_mem _ hz))
          have HF11 : Hid (F2 W11) := HFF2.out _ HO11.out
          rw [hv10] at hW11
          go_wp2_with fail
          refine MixPost.normal HF10.out ?_
          refine mix_seg [8, 9] (by kernel_rfl) HF10.out ?_
          simp only [segOf, pickOps, pickOp]
          repeat (go_big_quiet_step (rfl))
          refine wpQuiet_nil ?_
          refine mix_run 10 (by kernel_rfl) ?_
          simp only [segOf, pickOps, pickOp]
          go_wp2_with fail
          rw [← hW11]
          clear hW11 hd5' hz5
          refine MixPost.normal HF11.out ?_
          refine mix_done (by kernel_rfl) ?_
          go_wp2
          go_ret
          refine ⟨rfl, vt, .slice (some ⟨gb, 0, none⟩) (s.b.length - 1) capb, v10, ?_, ?_, Grow.refl _ _, fun x hx => .inl hx, ?_⟩
          · rw [HGS.out, if_pos ⟨trivial, hk0⟩]
            exact HP11.out
          · have h1 : Only (footP g gt vt (.slice (some ⟨gb, 0, none⟩) s.b.length capb) (.slice Ai s.i.length capi)) w W7 := HOA.out.next HO7.out (by intro x hx; right; simp at hx; subst hx; exact HBL.out)
            refine h1.trans (HO11.out.mono ?_)
            intro x hx
            rcases List.mem_cons.1 hx with h2 | h2
            · exact mem_footP.2 (by simp [h2])
            · exact mem_footP.2 (by simp [h2])
          · exact (Grow.refl _ _).trans HG10.out (Nat.le_trans HOA.out.size HO7.out.size)
      · have hk1 : (s.keep : Int) = 0 := by omega
        have HK1 := Lib.hid hk1
        have HI : Hid (firstI (connB i) s.b = (p : Int)) := by show _ = _; rw [firstI_yes (by rw [← hp]; exact h1), ← hp]
        have HE0 : Hid (giveC i s = 0) := by show _ = _; unfold giveC; rw [← hp, if_pos h1]
        have hp0 : (0 : Int) ≤ (p : Int) := by omega
        obtain ⟨y, hy⟩ : ∃ y, y = nthC s.b p := ⟨_, rfl⟩
        have HGS : Hid (giveS i now true s = { s with b := s.b.eraseIdx p, h := freeS s.h y.k, i := if true = true ∧ s.keep ≠ 0 then s.i ++ [{ y with u := sumT now s.keep }] else s.i }) := by show _ = _; unfold giveS; rw [← hp, if_pos h1, ← hy]
        have HY := Lib.hid hy
        clear hp hy
        have hpl : p < s.b.length := h1
        obtain ⟨y1, y2, y3⟩ := y
        simp only at HGS
        rw [HE0.out]
        go_enter Try.func17, Try.ntmps17
        go_wp2_with fail
        refine (pfind_any 83 _ s.b i w HP.out.rb).mono ?_
        rintro e w1 ⟨rfl, ho⟩
        rw [HI.out]
        have HO1 := Lib.hid ho
        have HP1 := Lib.hid (HP.out.old ho)
        have hd4 := HP1.out.hd.c4
        have hgl1 := HP1.out.hd.lt
        clear ho hc4
        obtain ⟨gb, cap2, e2, hgb, _, _⟩ := HP1.out.rb.some_ (by omega)
        obtain ⟨rfl, rfl⟩ : Ab = some ⟨gb, 0, none⟩ ∧ capb = cap2 := by
          injection e2 with e1 e2 e3
          exact ⟨e1, e3⟩
        clear e2
        obtain ⟨f0, f1, f2⟩ := HP1.out.rb.el rfl hpl
        rw [← HY.out] at f0 f1 f2
        simp only at f0 f1 f2
        obtain ⟨W2, hW2⟩ : ∃ W2, W2 = w1.alloc (.cells #[.int .i64 (y1 : Int), .string y2, .int .u64 (y3 : Int)] 83) := ⟨_, rfl⟩
        obtain ⟨Bl, hBl⟩ : ∃ Bl, Bl = w1.heap.size := ⟨_, rfl⟩
        have HO2 : Hid (Only [] w W2) := by show Only _ _ _; rw [hW2]; exact HO1.out.alloc _
        have HL2 : Hid (LBox W2 Bl ⟨y1, y2, y3⟩ ∧ W2.frozen? ⟨Bl, 2, none⟩ = false) := by show _ ∧ _; rw [hW2, hBl]; exact ⟨⟨by simp, by simp, by simp⟩, by simp⟩
        have HBL : Hid (w.heap.size ≤ Bl) := by show _ ≤ _; rw [hBl]; exact HO1.out.size
        have HP2 := Lib.hid (HP.out.old HO2.out)
        have he4 := HP2.out.hd.c4
        have hgl2 := HP2.out.hd.lt
        have hcon : Calls Try.prog 39 #[.slice (some ⟨gb, 0, none⟩) s.b.length capb, .int .i64 (p : Int), .int .i64 ((p : Int) + 1)] W2 _ := delC_any gb capb p (p + 1) s.b.length s.b W2 rfl rfl HP2.out.rb hpl hb1 hb2
        go_wp2_with fail
        rw [← hW2, ← hBl]
        clear hW2 hBl f0 f1 f2 hd4
        go_wp2_with fail
        refine hcon.mono ?_
        rintro e w3 ⟨rfl, hr3, ho3⟩
        have HNG : Hid (g ≠ gb) := by show _ ≠ _; have h1 := HP2.out.ap.a3; intro e; apply h1; rw [e]; simp [ownL, Value.ownBlock]
        have HR3 := Lib.hid hr3
        have HO3 := Lib.hid ho3
        have HGB : Hid (gb < w.heap.size) := HP.out.ob gb (by simp [ownL, Value.ownBlock])
        have HH3 := Lib.hid (HP2.out.hd.only ho3 (by have := HNG.out; simpa using this))
        have hd4 := HH3.out.c4
        have hz4 := HH3.out.z4
        have hgl3 := HH3.out.lt
        clear hcon hr3 ho3 he4
        obtain ⟨W4, hW4⟩ : ∃ W4, W4 = w3.setCell ⟨g, 4, none⟩ (.slice (some ⟨gb, 0, none⟩) (s.b.length - 1) capb) := ⟨_, rfl⟩
        have HO4 : Hid (Only [g, gb] W2 W4) := by show Only _ _ _; rw [hW4]; exact (HO3.out.mono (by simp)).setCell (p := ⟨g, 4, none⟩) (by simp) _
        have HP4 : Hid (PoAt W4 g gt vt (.slice (some ⟨gb, 0, none⟩) (s.b.length - 1) capb) (.slice Ai s.i.length capi) { s with b := s.b.eraseIdx p }) := by
          show PoAt _ _ _ _ _ _ _
          refine HP2.out.turnB HO4.out ?_ ?_ (fun x hx => .inl hx)
          · rw [hW4]; exact HH3.out.set4 _
          · rw [hW4]
            refine HR3.out.only (s := [g]) ((Only.refl _ _).setCell (p := ⟨g, 4, none⟩) (by simp) _) ?_
            intro z hz hm
            simp [ownL, Value.ownBlock] at hz hm
            exact HNG.out (hm.symm.trans hz)
        have HL4 : Hid (LBox W4 Bl ⟨y1, y2, y3⟩ ∧ W4.frozen? ⟨Bl, 2, none⟩ = false) := by
          show _ ∧ _
          have hn : Bl ∉ [g, gb] := by have h1 := HBL.out; have h2 := HGB.out; have h3 := HP.out.hd.lt; simp; omega
          exact ⟨HL2.out.1.only HO4.out hn, (HO4.out.frozen (p := ⟨Bl, 2, none⟩) (block_of_cell (a := ⟨Bl, 0, none⟩) HL2.out.1.c0) hn).trans HL2.out.2⟩
        go_wp2_with fail
        rw [← hW4]
        clear hW4 hd4 hz4
        obtain ⟨F, hF⟩ : ∃ F : World → Prop, ∀ W, F W ↔ (W.cell? ⟨g, 3, none⟩ = some (.pointer (some ⟨gt, 0, none⟩)) ∧ W.cell? ⟨Bl, 1, none⟩ = some (.string y2)) := ⟨_, fun _ => Iff.rfl⟩
        have hx3 : ∀ p : Held F, p.w.cell? ⟨g, 3, none⟩ = some (.pointer (some ⟨gt, 0, none⟩)) := fun p => ((hF _).1 p.h).1
        have hxB : ∀ p : Held F, p.w.cell? ⟨Bl, 1, none⟩ = some (.string y2) := fun p => ((hF _).1 p.h).2
        have HBT : Hid (Bl ∉ ownL vt) := by show _ ∉ _; intro hm; have h1 := HP.out.ot _ hm; have h2 := HBL.out; omega
        have HFO : Hid (∀ W, Only (ownL vt) W4 W → F W) := by
          show ∀ W, _
          intro W ho
          exact (hF _).2 ⟨(ho.cell (p := ⟨g, 3, none⟩) HP4.out.hd.lt HP4.out.ap.a2).trans HP4.out.hd.c3, (HL4.out.1.only ho HBT.out).c1⟩
        have HTD := Lib.hid (HP4.out.old ((Only.refl _ W4).drew)).tb
        clear hF
        refine mix_start F (by kernel_rfl) ?_
        refine mix_seg [0, 1, 2, 3, 4, 5] (by kernel_rfl) (HFO.out _ ((Only.refl _ W4).drew)) ?_
        simp only [segOf, pickOps, pickOp]
        repeat (go_big_quiet_step (rfl))
        refine wpQuiet_nil ?_
        refine mix_run 6 (by kernel_rfl) ?_
        simp only [segOf, pickOps, pickOp]
        go_wp2_with fail
        refine (hFree_any gt 32 vt s.h y2 _ HTD.out).mono ?_
        rintro e w5 ⟨rfl, ht5, ho5⟩
        have HO5 := Lib.hid ho5.of_drew
        have HP5 := Lib.hid (HP4.out.turnT (HO5.out.mono (fun x hx => List.mem_cons_of_mem _ hx)) ht5 (Grow.refl _ _))
        have HL5 : Hid (LBox w5 Bl ⟨y1, y2, y3⟩ ∧ w5.frozen? ⟨Bl, 2, none⟩ = false) := by
          show _ ∧ _
          exact ⟨HL4.out.1.only HO5.out HBT.out, (HO5.out.frozen (p := ⟨Bl, 2, none⟩) (block_of_cell (a := ⟨Bl, 0, none⟩) HL4.out.1.c0) HBT.out).trans HL4.out.2⟩
        have HOA : Hid (Only (footP g gt vt (.slice (some ⟨gb, 0, none⟩) s.b.length capb) (.slice Ai s.i.length capi)) w w5) := by
          show Only _ _ _
          refine ((HO2.out.mono (by simp)).trans (HO4.out.mono ?_)).trans (HO5.out.mono ?_)
          · intro x hx
            simp at hx
            rcases hx with h1 | h1
            · exact mem_footP.2 (by simp [h1])
            · exact mem_footP.2 (by simp [h1, ownL, Value.ownBlock])
          · intro x hx; exact mem_footP.2 (by simp [hx])
        clear ht5 ho5
        go_wp2_with fail
        refine MixPost.normal (HFO.out _ HO5.out) ?_
        refine mix_done (by kernel_rfl) ?_
        have hc1 := HP5.out.hd.c1
        have hgl5 := HP5.out.hd.lt
        rw [HK1.out] at hc1
        go_wp2
        go_ret
        refine ⟨rfl, vt, .slice (some ⟨gb, 0, none⟩) (s.b.length - 1) capb, _, ?_, HOA.out, Grow.refl _ _, fun x hx => .inl hx, Grow.refl _ _⟩
        rw [HGS.out, if_neg (fun h => hk0 h.2)]
        exact HP5.out
    · obtain rfl : kb = false := by simpa using hkb
      have HI : Hid (firstI (connB i) s.b = (p : Int)) := by show _ = _; rw [firstI_yes (by rw [← hp]; exact h1), ← hp]
      have HE0 : Hid (giveC i s = 0) := by show _ = _; unfold giveC; rw [← hp, if_pos h1]
      have hp0 : (0 : Int) ≤ (p : Int) := by omega
      obtain ⟨y, hy⟩ : ∃ y, y = nthC s.b p := ⟨_, rfl⟩
      have HGS : Hid (giveS i now false s = { s with b := s.b.eraseIdx p, h := freeS s.h y.k, i := if false = true ∧ s.keep ≠ 0 then s.i ++ [{ y with u := sumT now s.keep }] else s.i }) := by show _ = _; unfold giveS; rw [← hp, if_pos h1, ← hy]
      have HY := Lib.hid hy
      clear hp hy
      have hpl : p < s.b.length := h1
      obtain ⟨y1, y2, y3⟩ := y
      simp only at HGS
      rw [HE0.out]
      go_enter Try.func17, Try.ntmps17
      go_wp2_with fail
      refine (pfind_any 83 _ s.b i w HP.out.rb).mono ?_
      rintro e w1 ⟨rfl, ho⟩
      rw [HI.out]
      have HO1 := Lib.hid ho
      have HP1 := Lib.hid (HP.out.old ho)
      have hd4 := HP1.out.hd.c4
      have hgl1 := HP1.out.hd.lt
      clear ho hc4
      obtain ⟨gb, cap2, e2, hgb, _, _⟩ := HP1.out.rb.some_ (by omega)
      obtain ⟨rfl, rfl⟩ : Ab = some ⟨gb, 0, none⟩ ∧ capb = cap2 := by
        injection e2 with e1 e2 e3
        exact ⟨e1, e3⟩
      clear e2
      obtain ⟨f0, f1, f2⟩ := HP1.out.rb.el rfl hpl
      rw [← HY.out] at f0 f1 f2
      simp only at f0 f1 f2
      obtain ⟨W2, hW2⟩ : ∃ W2, W2 = w1.alloc (.cells #[.int .i64 (y1 : Int), .string y2, .int .u64 (y3 : Int)] 83) := ⟨_, rfl⟩
      obtain ⟨Bl, hBl⟩ : ∃ Bl, Bl = w1.heap.size := ⟨_, rfl⟩
      have HO2 : Hid (Only [] w W2) := by show Only _ _ _; rw [hW2]; exact HO1.out.alloc _
      have HL2 : Hid (LBox W2 Bl ⟨y1, y2, y3⟩ ∧ W2.frozen? ⟨Bl, 2, none⟩ = false) := by show _ ∧ _; rw [hW2, hBl]; exact ⟨⟨by simp, by simp, by simp⟩, by simp⟩
      have HBL : Hid (w.heap.size ≤ Bl) := by show _ ≤ _; rw [hBl]; exact HO1.out.size
      have HP2 := Lib.hid (HP.out.old HO2.out)
      have he4 := HP2.out.hd.c4
      have hgl2 := HP2.out.hd.lt
      have hcon : Calls Try.prog 39 #[.slice (some ⟨gb, 0, none⟩) s.b.length capb, .int .i64 (p : Int), .int .i64 ((p : Int) + 1)] W2 _ := delC_any gb capb p (p + 1) s.b.length s.b W2 rfl rfl HP2.out.rb hpl hb1 hb2
      go_wp2_with fail
      rw [← hW2, ← hBl]
      clear hW2 hBl f0 f1 f2 hd4
      go_wp2_with fail
      refine hcon.mono ?_
      rintro e w3 ⟨rfl, hr3, ho3⟩
      have HNG : Hid (g ≠ gb) := by show _ ≠ _; have h1 := HP2.out.ap.a3; intro e; apply h1; rw [e]; simp [ownL, Value.ownBlock]
      have HR3 := Lib.hid hr3
      have HO3 := Lib.hid ho3
      have HGB : Hid (gb < w.heap.size) := HP.out.ob gb (by simp [ownL, Value.ownBlock])
      have HH3 := Lib.hid (HP2.out.hd.only ho3 (by have := HNG.out; simpa using this))
      have hd4 := HH3.out.c4
      have hz4 := HH3.out.z4
      have hgl3 := HH3.out.lt
      clear hcon hr3 ho3 he4
      obtain ⟨W4, hW4⟩ : ∃ W4, W4 = w3.setCell ⟨g, 4, none⟩ (.slice (some ⟨gb, 0, none⟩) (s.b.length - 1) capb) := ⟨_, rfl⟩
      have HO4 : Hid (Only [g, gb] W2 W4) := by show Only _ _ _; rw [hW4]; exact (HO3.out.mono (by simp)).setCell (p := ⟨g, 4, none⟩) (by simp) _
      have HP4 : Hid (PoAt W4 g gt vt (.slice (some ⟨gb, 0, none⟩) (s.b.length - 1) capb) (.slice Ai s.i.length capi) { s with b := s.b.eraseIdx p }) := by
        show PoAt _ _ _ _ _ _ _
        refine HP2.out.turnB HO4.out ?_ ?_ (fun x hx => .inl hx)
        · rw [hW4]; exact HH3.out.set4 _
        · rw [hW4]
          refine HR3.out.only (s := [g]) ((Only.refl _ _).setCell (p := ⟨g, 4, none⟩) (by simp) _) ?_
          intro z hz hm
          simp [ownL, Value.ownBlock] at hz hm
          exact HNG.out (hm.symm.trans hz)
      have HL4 : Hid (LBox W4 Bl ⟨y1, y2, y3⟩ ∧ W4.frozen? ⟨Bl, 2, none⟩ = false) := by
        show _ ∧ _
        have hn : Bl ∉ [g, gb] := by have h1 := HBL.out; have h2 := HGB.out; have h3 := HP.out.hd.lt; simp; omega
        exact ⟨HL2.out.1.only HO4.out hn, (HO4.out.frozen (p := ⟨Bl, 2, none⟩) (block_of_cell (a := ⟨Bl, 0, none⟩) HL2.out.1.c0) hn).trans HL2.out.2⟩
      go_wp2_with fail
      rw [← hW4]
      clear hW4 hd4 hz4
      obtain ⟨F, hF⟩ : ∃ F : World → Prop, ∀ W, F W ↔ (W.cell? ⟨g, 3, none⟩ = some (.pointer (some ⟨gt, 0, none⟩)) ∧ W.cell? ⟨Bl, 1, none⟩ = some (.string y2)) := ⟨_, fun _ => Iff.rfl⟩
      have hx3 : ∀ p : Held F, p.w.cell? ⟨g, 3, none⟩ = some (.pointer (some ⟨gt, 0, none⟩)) := fun p => ((hF _).1 p.h).1
      have hxB : ∀ p : Held F, p.w.cell? ⟨Bl, 1, none⟩ = some (.string y2) := fun p => ((hF _).1 p.h).2
      have HBT : Hid (Bl ∉ ownL vt) := by show _ ∉ _; intro hm; have h1 := HP.out.ot _ hm; have h2 := HBL.out; omega
      have HFO : Hid (∀ W, Only (ownL vt) W4 W → F W) := by
        show ∀ W, _
        intro W ho
        exact (hF _).2 ⟨(ho.cell (p := ⟨g, 3, none⟩) HP4.out.hd.lt HP4.out.ap.a2).trans HP4.out.hd.c3, (HL4.out.1.only ho HBT.out).c1⟩
      have HTD := Lib.hid (HP4.out.old ((Only.refl _ W4).drew)).tb
      clear hF
      refine mix_start F (by kernel_rfl) ?_
      refine mix_seg [0, 1, 2, 3, 4, 5] (by kernel_rfl) (HFO.out _ ((Only.refl _ W4).drew)) ?_
      simp only [segOf, pickOps, pickOp]
      repeat (go_big_quiet_step (rfl))
      refine wpQuiet_nil ?_
      refine mix_run 6 (by kernel_rfl) ?_
      simp only [segOf, pickOps, pickOp]
      go_wp2_with fail
      refine (hFree_any gt 32 vt s.h y2 _ HTD.out).mono ?_
      rintro e w5 ⟨rfl, ht5, ho5⟩
      have HO5 := Lib.hid ho5.of_drew
      have HP5 := Lib.hid (HP4.out.turnT (HO5.out.mono (fun x hx => List.mem_cons_of_mem _ hx)) ht5 (Grow.refl _ _))
      have HL5 : Hid (LBox w5 Bl ⟨y1, y2, y3⟩ ∧ w5.frozen? ⟨Bl, 2, none⟩ = false) := by
        show _ ∧ _
        exact ⟨HL4.out.1.only HO5.out HBT.out, (HO5.out.frozen (p := ⟨Bl, 2, none⟩) (block_of_cell (a := ⟨Bl, 0, none⟩) HL4.out.1.c0) HBT.out).trans HL4.out.2⟩
      have HOA : Hid (Only (footP g gt vt (.slice (some ⟨gb, 0, none⟩) s.b.length capb) (.slice Ai s.i.length capi)) w w5) := by
        show Only _ _ _
        refine ((HO2.out.mono (by simp)).trans (HO4.out.mono ?_)).trans (HO5.out.mono ?_)
        · intro x hx
          simp at hx
          rcases hx with h1 | h1
          · exact mem_footP.2 (by simp [h1])
          · exact mem_footP.2 (by simp [h1, ownL, Value.ownBlock])
        · intro x hx; exact mem_footP.2 (by simp [hx])
      clear ht5 ho5
      go_wp2_with fail
      refine MixPost.normal (HFO.out _ HO5.out) ?_
      refine mix_done (by kernel_rfl) ?_
      have hc1 := HP5.out.hd.c1
      have hgl5 := HP5.out.hd.lt
      go_wp2
      go_ret
      refine ⟨rfl, vt, .slice (some ⟨gb, 0, none⟩) (s.b.length - 1) capb, _, ?_, HOA.out, Grow.refl _ _, fun x hx => .inl hx, Grow.refl _ _⟩
      rw [HGS.out, if_neg (fun h => by cases h.1)]
      exact HP5.out
  · have HI : Hid (firstI (connB i) s.b = -1) := firstI_no (by rw [← hp]; exact h1)
    have HE : Hid (giveC i s = 11 ∧ giveS i now kb s = s) := by show _ ∧ _; unfold giveC giveS; rw [← hp, if_neg h1, if_neg h1]; exact ⟨rfl, rfl⟩
    rw [HE.out.1]
    clear hp
    go_enter Try.func17, Try.ntmps17
    go_wp2_with fail
    refine (pfind_any 83 _ s.b i w HP.out.rb).mono ?_
    rintro e w1 ⟨rfl, ho⟩
    rw [HI.out]
    have HO := Lib.hid ho
    have HP1 := Lib.hid (HP.out.old ho)
    clear ho hc4
    go_wp2
    go_ret
    refine ⟨rfl, vt, _, _, ?_, HO.out.mono (by simp), Grow.refl _ _, Grow.refl _ _, Grow.refl _ _⟩
    rw [HE.out.2]
    exact HP1.out
end Go.Proofs.Ytbnmldfiheffoaa
