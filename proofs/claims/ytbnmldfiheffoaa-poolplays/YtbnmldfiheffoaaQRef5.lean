/-
  The contract of the document's own Give of connections over this seat's program. Conditions: the pool lies there; not more than a hundred of each kind.
-/
import Derived.Test.YtbnmldfiheffoaaQRef3
import Derived.Test.YtbnmldfiheffoaaQAgain
import Derived.Test.YtbnmldfiheffoaaTTick
import Derived.Deep.CutRange
namespace Go.Proofs.Ytbnmldfiheffoaa
open Go.RowKit

theorem give_hit {s : Pv} {i : Int} {now k : Nat} {kb : Bool} (hk : k < s.b.length) (h1 : connB i (nthC s.b k) = true) (h2 : ∀ j, j < k → connB i (nthC s.b j) = false) :
    giveC i s = 0 ∧ giveS i now kb s = { s with b := s.b.eraseIdx k, h := freeS s.h (nthC s.b k).k, i := if kb = true ∧ s.keep ≠ 0 then s.i ++ [{ nthC s.b k with u := sumT now s.keep }] else s.i } := by
  have h3 := first_first hk h1 h2
  unfold giveC giveS
  rw [h3, if_pos hk, if_pos hk]
  exact ⟨rfl, rfl⟩
theorem give_miss {s : Pv} {i : Int} {now : Nat} {kb : Bool} (h : ∀ j, j < s.b.length → connB i (nthC s.b j) = false) : giveC i s = 11 ∧ giveS i now kb s = s := by
  have h3 : ¬ s.b.findIdx (connB i) < s.b.length := by
    intro h1
    have h2 := first_hit h1
    rw [h _ h1] at h2
    cases h2
  unfold giveC giveS
  rw [if_neg h3, if_neg h3]
  exact ⟨rfl, rfl⟩

set_option maxRecDepth 20000 in
set_option maxHeartbeats 8000000 in
theorem rGive_any (g gt : Nat) (vt vb vi : Value) (s : Pv) (i : Int) (now : Nat) (kb : Bool) (w : World) (h : RpAt w g gt vt vb vi s) (hbl : s.b.length ≤ 100) (hil : s.i.length ≤ 100) (hn1 : (now : Int) ≤ 18446744073709551615) (hn2 : (s.keep : Int) ≤ 18446744073709551615) :
    Calls Try.prog 18 #[.pointer (some ⟨g, 0, none⟩), .int .i64 i, .int .u64 (now : Int), .bool kb] w fun e w' => e = .returned (.int .i64 (giveC i s : Int)) ∧ RpStep w w' g gt vt vb vi (giveS i now kb s) := by
  obtain ⟨Ab, cap, hvb, hb1, hb2⟩ := h.rb.slice
  unfold maxLen at hb2
  subst hvb
  have HP := Lib.hid h
  have HLN := Lib.hid hbl
  have HIL := Lib.hid hil
  have hc3 := h.hd.c3
  have hgl := h.hd.lt
  clear h hbl hil
  obtain ⟨gc, hgc⟩ : ∃ gc, gc = giveC i s := ⟨_, rfl⟩
  obtain ⟨gs, hgs⟩ : ∃ gs, gs = giveS i now kb s := ⟨_, rfl⟩
  have HHIT : Hid (∀ k, k < s.b.length → connB i (nthC s.b k) = true → (∀ j, j < k → connB i (nthC s.b j) = false) → gc = 0 ∧ gs = { s with b := s.b.eraseIdx k, h := freeS s.h (nthC s.b k).k, i := if kb = true ∧ s.keep ≠ 0 then s.i ++ [{ nthC s.b k with u := sumT now s.keep }] else s.i }) := by
    show ∀ k, _
    rw [hgc, hgs]
    intro k h1 h2 h3
    exact give_hit h1 h2 h3
  have HMISS : Hid ((∀ j, j < s.b.length → connB i (nthC s.b j) = false) → gc = 11 ∧ gs = s) := by
    show _ → _
    rw [hgc, hgs]
    exact give_miss
  rw [← hgc, ← hgs]
  clear hgc hgs
  go_enter Try.func18, Try.ntmps18
  go_wp2_with fail
  go_loop [9] (fun i_ => ∃ (k : Nat), k ≤ s.b.length ∧ i_ = .int .i64 (k : Int) ∧ ∀ j, j < k → connB i (nthC s.b j) = false) (fun i_ => s.b.length - (intOf i_).toNat)
  case atStart => exact ⟨0, by omega, rfl, fun j hj => absurd hj (Nat.not_lt_zero _)⟩
  case round =>
    obtain ⟨k, hk, rfl, hno⟩ := hrel
    have HNO := Lib.hid hno
    clear hno
    by_cases hlt : k < s.b.length
    · obtain ⟨gr, cap2, e2, _, _, _⟩ := HP.out.rb.some_ (by omega)
      obtain ⟨rfl, rfl⟩ : Ab = some ⟨gr, 0, none⟩ ∧ cap = cap2 := by
        injection e2 with e1 e2 e3
        exact ⟨e1, e3⟩
      clear e2
      obtain ⟨f0, f1, f2⟩ := HP.out.rb.el rfl hlt
      have HH := Lib.hid (HHIT.out k hlt)
      obtain ⟨y, hy⟩ : ∃ y, y = nthC s.b k := ⟨_, rfl⟩
      rw [← hy] at f0 f1 f2 HH
      have HY := Lib.hid hy
      clear hy
      obtain ⟨y1, y2, y3⟩ := y
      simp only at f0 f1 f2
      by_cases he : (y1 : Int) = i
      · have HE := Lib.hid (HH.out (decide_eq_true he) HNO.out)
        have HGS : Hid (gs = { s with b := s.b.eraseIdx k, h := freeS s.h y2, i := if kb = true ∧ s.keep ≠ 0 then s.i ++ [⟨y1, y2, sumT now s.keep⟩] else s.i }) := HE.out.2
        clear HH
        subst he
        obtain ⟨W4, hW4⟩ : ∃ W4, W4 = w.alloc (.cells #[.int .i64 (y1 : Int), .string y2, .int .u64 (y3 : Int)] 80) := ⟨_, rfl⟩
        obtain ⟨Bl, hBl⟩ : ∃ Bl, Bl = w.heap.size := ⟨_, rfl⟩
        have HO4 : Hid (Only [] w W4) := by show Only _ _ _; rw [hW4]; exact (Only.refl _ _).alloc _
        have HL4 : Hid (LBox W4 Bl ⟨y1, y2, y3⟩ ∧ W4.frozen? ⟨Bl, 2, none⟩ = false) := by show _ ∧ _; rw [hW4, hBl]; exact ⟨⟨by simp, by simp, by simp⟩, by simp⟩
        have HBL : Hid (w.heap.size ≤ Bl) := by show _ ≤ _; rw [hBl]; exact Nat.le_refl _
        have HBB : Hid (Bl < W4.heap.size) := block_of_cell (a := ⟨Bl, 0, none⟩) HL4.out.1.c0
        have HP4 := Lib.hid (HP.out.old HO4.out)
        have hgl4 := HP4.out.hd.lt
        go_upto_region 6 with fail
        rw [← hW4, ← hBl]
        clear hW4 hBl f0 f1 f2 hc3 hgl
        obtain ⟨W0, hW0⟩ : ∃ W0, W0 = W4.drew := ⟨_, rfl⟩
        have HO0 : Hid (Only [] W4 W0) := by show Only _ _ _; rw [hW0]; exact (Only.refl _ _).drew
        have HQ0 := Lib.hid (HP4.out.old HO0.out)
        obtain ⟨A2, hA, HPD⟩ : ∃ A2 : Addr, (if cap = k + 1 then (some (⟨gr, 0, none⟩ : Addr)) else some ⟨gr, (k + 1) * 3, none⟩) = some A2 ∧ Hid (∀ W', CRow 80 W' (.slice (some ⟨gr, 0, none⟩) s.b.length cap) s.b → PartAt cE W' (.slice (some A2) (s.b.length - (k + 1)) (cap - (k + 1))) (s.b.drop (k + 1))) := by
          have hkk : k + 1 ≤ s.b.length := by omega
          by_cases hc : cap = k + 1
          · exact ⟨⟨gr, 0, none⟩, by rw [if_pos hc], fun W' hW' => ERow.partDrop hW' hkk (by rw [if_pos hc])⟩
          · exact ⟨⟨gr, (k + 1) * 3, none⟩, by rw [if_neg hc], fun W' hW' => ERow.partDrop hW' hkk (by rw [if_neg hc]; rfl)⟩
        have hic : k ≤ cap := by omega
        have hkl : k ≤ s.b.length := by omega
        have hkl1 : k + 1 ≤ s.b.length := by omega
        have hjc : k + 1 ≤ cap := by omega
        have hgl0 := HQ0.out.hd.lt
        have hk0 := HQ0.out.hd.c3
        go_cut [] from 37 to 54 (fun W' => ∃ v2, RpAt W' g gt vt v2 vi { s with b := s.b.eraseIdx k } ∧ Only (g :: ownL (.slice (some ⟨gr, 0, none⟩) s.b.length cap)) W4 W' ∧ Grow W4.heap.size (.slice (some ⟨gr, 0, none⟩) s.b.length cap) v2)
        case first =>
          go_wp2_with fail
          refine mix_start (fun _ => True) (by kernel_rfl) ?_
          rw [← hW0]
          clear hW0
          have hne : Nonempty (Held (fun _ => True)) := ⟨⟨W0, trivial⟩⟩
          refine mix_seg [0, 1, 2, 3, 5, 8, 9, 10, 12, 13] (by kernel_rfl) trivial ?_
          simp only [segOf, pickOps, pickOp]
          repeat (go_big_quiet_step (fail))
          refine wpQuiet_nil ?_
          refine mix_several [4, 11] (by kernel_rfl) ?_
          intro i1 hi1
          simp only [List.mem_cons, List.not_mem_nil, or_false] at hi1
          rcases hi1 with rfl | rfl
          · simp only [segOf, pickOps, pickOp]
            go_wp2_with fail
            refine MixPost.normal trivial ?_
            refine mix_seg [6] (by kernel_rfl) trivial ?_
            simp only [segOf, pickOps, pickOp]
            repeat (go_big_quiet_step (fail))
            refine wpQuiet_nil ?_
            refine mix_several [7, 11] (by kernel_rfl) ?_
            intro i1 hi1
            simp only [List.mem_cons, List.not_mem_nil, or_false] at hi1
            rcases hi1 with rfl | rfl
            · simp only [segOf, pickOps, pickOp]
              refine wpList_append_part cE rfl (.const (.slice none 0 0)) (.tmp 43) 44 80 rfl Try.underlying44 (.agg #[.int .i64 0, .string ⟨#[]⟩, .int .u64 0]) 32 infoCR rfl 0 (.slice none 0 0) [] rfl ERow.nil _ (s.b.take k) rfl (ERow.partTake HQ0.out.rb hkl) (by have := HLN.out; simp; omega) (by omega) (Nat.zero_le _) ?_
              intro v1 w1 hr1 ho1 hg1
              have HR1 : Hid (CRow 80 w1 v1 (s.b.take k)) := hr1.out
              have HO1 : Hid (Only [] W0 w1) := ho1.out.mono (by intro z hz; simp [ownL, Value.ownBlock] at hz)
              have HN1 : Hid (NewL W4.heap.size v1) := by show NewL _ _; intro z hz; have := HO0.out.size; rcases hg1.out z hz with h3 | h3; simp [ownL, Value.ownBlock] at h3; omega
              have HQ1 := Lib.hid (HQ0.out.old HO1.out)
              clear hr1 ho1 hg1
              go_wp2_with fail
              refine MixPost.normal trivial ?_
              have hk1 := HQ1.out.hd.c3
              clear hk0
              refine mix_run 11 (by kernel_rfl) ?_
              simp only [segOf, pickOps, pickOp]
              go_wp2_with fail
              refine MixPost.normal trivial ?_
              clear hk1
              refine mix_seg [14] (by kernel_rfl) trivial ?_
              simp only [segOf, pickOps, pickOp]
              repeat (go_big_quiet_step (fail))
              refine wpQuiet_nil ?_
              refine mix_run 15 (by kernel_rfl) ?_
              simp only [segOf, pickOps, pickOp]
              refine wpList_append_part cE rfl (.tmp 44) (.tmp 51) 44 80 rfl Try.underlying44 (.agg #[.int .i64 0, .string ⟨#[]⟩, .int .u64 0]) 32 infoCR rfl 0 v1 (s.b.take k) rfl HR1.out (.slice (some A2) (s.b.length - (k + 1)) (cap - (k + 1))) (s.b.drop (k + 1)) (by simp [Act.eval]) (HPD.out w1 HQ1.out.rb) (by have := HLN.out; rw [List.length_take, List.length_drop]; omega) (by omega) (Nat.zero_le _) ?_
              intro v2 w2 hr2 ho2 hg2
              have HR2 : Hid (CRow 80 w2 v2 (s.b.eraseIdx k)) := by show CRow _ _ _ _; rw [List.eraseIdx_eq_take_drop_succ]; exact hr2.out
              have HO2 : Hid (Only [] W4 w2) := (HO0.out.trans HO1.out).next ho2.out (fun z hz => .inr (HN1.out z hz))
              have HN2 : Hid (NewL W4.heap.size v2) := by show NewL _ _; intro z hz; have := HO0.out.size; have := HO1.out.size; rcases hg2.out z hz with h3 | h3; exact HN1.out z h3; omega
              have HH2 := Lib.hid (HP4.out.old HO2.out).hd
              clear hr2 ho2 hg2
              obtain ⟨Av, capv, ev, _⟩ := HR2.out.slice
              obtain ⟨nv, hnv⟩ : ∃ nv, nv = (s.b.eraseIdx k).length := ⟨_, rfl⟩
              rw [← hnv] at ev
              clear hnv
              subst ev
              obtain ⟨W3, hW3⟩ : ∃ W3, W3 = w2.setCell ⟨g, 3, none⟩ (.slice Av nv capv) := ⟨_, rfl⟩
              have HO3 : Hid (Only (g :: ownL (.slice (some ⟨gr, 0, none⟩) s.b.length cap)) W4 W3) := by show Only _ _ _; rw [hW3]; exact (HO2.out.mono (by simp)).setCell (p := ⟨g, 3, none⟩) (by simp) _
              have HG3 : Hid (Grow W4.heap.size (.slice (some ⟨gr, 0, none⟩) s.b.length cap) (.slice Av nv capv)) := fun x hx => .inr (HN2.out x hx)
              have HQ3 : Hid (RpAt W3 g gt vt (.slice Av nv capv) vi { s with b := s.b.eraseIdx k }) := by
                show RpAt _ _ _ _ _ _ _
                refine HP4.out.turnB HO3.out ?_ ?_ HG3.out
                · rw [hW3]; exact HH2.out.setB _
                · rw [hW3]
                  refine HR2.out.only (s := [g]) ((Only.refl _ _).setCell (p := ⟨g, 3, none⟩) (by simp) _) ?_
                  intro z hz hm
                  simp at hm
                  have h1 := HN2.out z hz
                  have h2 := HP4.out.hd.lt
                  omega
              have hk2 := HH2.out.c3
              have hk3 := HH2.out.z3
              have hk4 := HH2.out.lt
              go_wp2_with fail
              refine MixPost.normal trivial ?_
              refine mix_seg [16, 17] (by kernel_rfl) trivial ?_
              simp only [segOf, pickOps, pickOp]
              repeat (go_big_quiet_step (rfl))
              refine wpQuiet_nil ?_
              refine mix_run 18 (by kernel_rfl) ?_
              simp only [segOf, pickOps, pickOp]
              go_wp2_with fail
              rw [← hW3]
              clear hW3 hk2 hk3 hk4
              refine MixPost.normal trivial ?_
              refine mix_done (by kernel_rfl) ?_
              go_wp2_with fail
              go_meet
              case rel => exact ⟨_, HQ3.out, HO3.out, HG3.out⟩
            · simp only [segOf, pickOps, pickOp]
              go_wp2_with fail
              refine MixPost.normal trivial ?_
              clear hk0
              refine mix_seg [14] (by kernel_rfl) trivial ?_
              simp only [segOf, pickOps, pickOp]
              repeat (go_big_quiet_step (fail))
              refine wpQuiet_nil ?_
              refine mix_run 7 (by kernel_rfl) ?_
              simp only [segOf, pickOps, pickOp]
              refine wpList_append_part cE rfl (.const (.slice none 0 0)) (.tmp 43) 44 80 rfl Try.underlying44 (.agg #[.int .i64 0, .string ⟨#[]⟩, .int .u64 0]) 32 infoCR rfl 0 (.slice none 0 0) [] rfl ERow.nil _ (s.b.take k) rfl (ERow.partTake HQ0.out.rb hkl) (by have := HLN.out; simp; omega) (by omega) (Nat.zero_le _) ?_
              intro v1 w1 hr1 ho1 hg1
              have HR1 : Hid (CRow 80 w1 v1 (s.b.take k)) := hr1.out
              have HO1 : Hid (Only [] W0 w1) := ho1.out.mono (by intro z hz; simp [ownL, Value.ownBlock] at hz)
              have HN1 : Hid (NewL W4.heap.size v1) := by show NewL _ _; intro z hz; have := HO0.out.size; rcases hg1.out z hz with h3 | h3; simp [ownL, Value.ownBlock] at h3; omega
              have HQ1 := Lib.hid (HQ0.out.old HO1.out)
              clear hr1 ho1 hg1
              go_wp2_with fail
              refine MixPost.normal trivial ?_
              refine mix_run 15 (by kernel_rfl) ?_
              simp only [segOf, pickOps, pickOp]
              refine wpList_append_part cE rfl (.tmp 44) (.tmp 51) 44 80 rfl Try.underlying44 (.agg #[.int .i64 0, .string ⟨#[]⟩, .int .u64 0]) 32 infoCR rfl 0 v1 (s.b.take k) rfl HR1.out (.slice (some A2) (s.b.length - (k + 1)) (cap - (k + 1))) (s.b.drop (k + 1)) (by simp [Act.eval]) (HPD.out w1 HQ1.out.rb) (by have := HLN.out; rw [List.length_take, List.length_drop]; omega) (by omega) (Nat.zero_le _) ?_
              intro v2 w2 hr2 ho2 hg2
              have HR2 : Hid (CRow 80 w2 v2 (s.b.eraseIdx k)) := by show CRow _ _ _ _; rw [List.eraseIdx_eq_take_drop_succ]; exact hr2.out
              have HO2 : Hid (Only [] W4 w2) := (HO0.out.trans HO1.out).next ho2.out (fun z hz => .inr (HN1.out z hz))
              have HN2 : Hid (NewL W4.heap.size v2) := by show NewL _ _; intro z hz; have := HO0.out.size; have := HO1.out.size; rcases hg2.out z hz with h3 | h3; exact HN1.out z h3; omega
              have HH2 := Lib.hid (HP4.out.old HO2.out).hd
              clear hr2 ho2 hg2
              obtain ⟨Av, capv, ev, _⟩ := HR2.out.slice
              obtain ⟨nv, hnv⟩ : ∃ nv, nv = (s.b.eraseIdx k).length := ⟨_, rfl⟩
              rw [← hnv] at ev
              clear hnv
              subst ev
              obtain ⟨W3, hW3⟩ : ∃ W3, W3 = w2.setCell ⟨g, 3, none⟩ (.slice Av nv capv) := ⟨_, rfl⟩
              have HO3 : Hid (Only (g :: ownL (.slice (some ⟨gr, 0, none⟩) s.b.length cap)) W4 W3) := by show Only _ _ _; rw [hW3]; exact (HO2.out.mono (by simp)).setCell (p := ⟨g, 3, none⟩) (by simp) _
              have HG3 : Hid (Grow W4.heap.size (.slice (some ⟨gr, 0, none⟩) s.b.length cap) (.slice Av nv capv)) := fun x hx => .inr (HN2.out x hx)
              have HQ3 : Hid (RpAt W3 g gt vt (.slice Av nv capv) vi { s with b := s.b.eraseIdx k }) := by
                show RpAt _ _ _ _ _ _ _
                refine HP4.out.turnB HO3.out ?_ ?_ HG3.out
                · rw [hW3]; exact HH2.out.setB _
                · rw [hW3]
                  refine HR2.out.only (s := [g]) ((Only.refl _ _).setCell (p := ⟨g, 3, none⟩) (by simp) _) ?_
                  intro z hz hm
                  simp at hm
                  have h1 := HN2.out z hz
                  have h2 := HP4.out.hd.lt
                  omega
              have hk2 := HH2.out.c3
              have hk3 := HH2.out.z3
              have hk4 := HH2.out.lt
              go_wp2_with fail
              refine MixPost.normal trivial ?_
              refine mix_seg [16, 17] (by kernel_rfl) trivial ?_
              simp only [segOf, pickOps, pickOp]
              repeat (go_big_quiet_step (rfl))
              refine wpQuiet_nil ?_
              refine mix_run 18 (by kernel_rfl) ?_
              simp only [segOf, pickOps, pickOp]
              go_wp2_with fail
              rw [← hW3]
              clear hW3 hk2 hk3 hk4
              refine MixPost.normal trivial ?_
              refine mix_done (by kernel_rfl) ?_
              go_wp2_with fail
              go_meet
              case rel => exact ⟨_, HQ3.out, HO3.out, HG3.out⟩
          · simp only [segOf, pickOps, pickOp]
            go_wp2_with fail
            refine MixPost.normal trivial ?_
            refine mix_seg [14] (by kernel_rfl) trivial ?_
            simp only [segOf, pickOps, pickOp]
            repeat (go_big_quiet_step (fail))
            refine wpQuiet_nil ?_
            refine mix_run 4 (by kernel_rfl) ?_
            simp only [segOf, pickOps, pickOp]
            go_wp2_with fail
            refine MixPost.normal trivial ?_
            clear hk0
            refine mix_seg [6] (by kernel_rfl) trivial ?_
            simp only [segOf, pickOps, pickOp]
            repeat (go_big_quiet_step (fail))
            refine wpQuiet_nil ?_
            refine mix_run 7 (by kernel_rfl) ?_
            simp only [segOf, pickOps, pickOp]
            refine wpList_append_part cE rfl (.const (.slice none 0 0)) (.tmp 43) 44 80 rfl Try.underlying44 (.agg #[.int .i64 0, .string ⟨#[]⟩, .int .u64 0]) 32 infoCR rfl 0 (.slice none 0 0) [] rfl ERow.nil _ (s.b.take k) rfl (ERow.partTake HQ0.out.rb hkl) (by have := HLN.out; simp; omega) (by omega) (Nat.zero_le _) ?_
            intro v1 w1 hr1 ho1 hg1
            have HR1 : Hid (CRow 80 w1 v1 (s.b.take k)) := hr1.out
            have HO1 : Hid (Only [] W0 w1) := ho1.out.mono (by intro z hz; simp [ownL, Value.ownBlock] at hz)
            have HN1 : Hid (NewL W4.heap.size v1) := by show NewL _ _; intro z hz; have := HO0.out.size; rcases hg1.out z hz with h3 | h3; simp [ownL, Value.ownBlock] at h3; omega
            have HQ1 := Lib.hid (HQ0.out.old HO1.out)
            clear hr1 ho1 hg1
            go_wp2_with fail
            refine MixPost.normal trivial ?_
            refine mix_run 15 (by kernel_rfl) ?_
            simp only [segOf, pickOps, pickOp]
            refine wpList_append_part cE rfl (.tmp 44) (.tmp 51) 44 80 rfl Try.underlying44 (.agg #[.int .i64 0, .string ⟨#[]⟩, .int .u64 0]) 32 infoCR rfl 0 v1 (s.b.take k) rfl HR1.out (.slice (some A2) (s.b.length - (k + 1)) (cap - (k + 1))) (s.b.drop (k + 1)) (by simp [Act.eval]) (HPD.out w1 HQ1.out.rb) (by have := HLN.out; rw [List.length_take, List.length_drop]; omega) (by omega) (Nat.zero_le _) ?_
            intro v2 w2 hr2 ho2 hg2
            have HR2 : Hid (CRow 80 w2 v2 (s.b.eraseIdx k)) := by show CRow _ _ _ _; rw [List.eraseIdx_eq_take_drop_succ]; exact hr2.out
            have HO2 : Hid (Only [] W4 w2) := (HO0.out.trans HO1.out).next ho2.out (fun z hz => .inr (HN1.out z hz))
            have HN2 : Hid (NewL W4.heap.size v2) := by show NewL _ _; intro z hz; have := HO0.out.size; have := HO1.out.size; rcases hg2.out z hz with h3 | h3; exact HN1.out z h3; omega
            have HH2 := Lib.hid (HP4.out.old HO2.out).hd
            clear hr2 ho2 hg2
            obtain ⟨Av, capv, ev, _⟩ := HR2.out.slice
            obtain ⟨nv, hnv⟩ : ∃ nv, nv = (s.b.eraseIdx k).length := ⟨_, rfl⟩
            rw [← hnv] at ev
            clear hnv
            subst ev
            obtain ⟨W3, hW3⟩ : ∃ W3, W3 = w2.setCell ⟨g, 3, none⟩ (.slice Av nv capv) := ⟨_, rfl⟩
            have HO3 : Hid (Only (g :: ownL (.slice (some ⟨gr, 0, none⟩) s.b.length cap)) W4 W3) := by show Only _ _ _; rw [hW3]; exact (HO2.out.mono (by simp)).setCell (p := ⟨g, 3, none⟩) (by simp) _
            have HG3 : Hid (Grow W4.heap.size (.slice (some ⟨gr, 0, none⟩) s.b.length cap) (.slice Av nv capv)) := fun x hx => .inr (HN2.out x hx)
            have HQ3 : Hid (RpAt W3 g gt vt (.slice Av nv capv) vi { s with b := s.b.eraseIdx k }) := by
              show RpAt _ _ _ _ _ _ _
              refine HP4.out.turnB HO3.out ?_ ?_ HG3.out
              · rw [hW3]; exact HH2.out.setB _
              · rw [hW3]
                refine HR2.out.only (s := [g]) ((Only.refl _ _).setCell (p := ⟨g, 3, none⟩) (by simp) _) ?_
                intro z hz hm
                simp at hm
                have h1 := HN2.out z hz
                have h2 := HP4.out.hd.lt
                omega
            have hk2 := HH2.out.c3
            have hk3 := HH2.out.z3
            have hk4 := HH2.out.lt
            go_wp2_with fail
            refine MixPost.normal trivial ?_
            refine mix_seg [16, 17] (by kernel_rfl) trivial ?_
            simp only [segOf, pickOps, pickOp]
            repeat (go_big_quiet_step (rfl))
            refine wpQuiet_nil ?_
            refine mix_run 18 (by kernel_rfl) ?_
            simp only [segOf, pickOps, pickOp]
            go_wp2_with fail
            rw [← hW3]
            clear hW3 hk2 hk3 hk4
            refine MixPost.normal trivial ?_
            refine mix_done (by kernel_rfl) ?_
            go_wp2_with fail
            go_meet
            case rel => exact ⟨_, HQ3.out, HO3.out, HG3.out⟩
        case rest =>
          obtain ⟨v2, hq, ho, hg⟩ := hcut
          have HQE := Lib.hid hq
          have HOE := Lib.hid ho
          have HGE := Lib.hid hg
          clear hq ho hg hic hkl hkl1 hjc hgl0 hk0
          have HLE : Hid (LBox wc Bl ⟨y1, y2, y3⟩ ∧ wc.frozen? ⟨Bl, 2, none⟩ = false) := by
            show _ ∧ _
            have hn : Bl ∉ g :: ownL (.slice (some ⟨gr, 0, none⟩) s.b.length cap) := by
              intro hm
              have h1 := HBL.out
              rcases List.mem_cons.1 hm with h2 | h2
              · have := HP.out.hd.lt; omega
              · have := HP.out.ob _ h2; omega
            exact ⟨HL4.out.1.only HOE.out hn, (HOE.out.frozen (p := ⟨Bl, 2, none⟩) (block_of_cell (a := ⟨Bl, 0, none⟩) HL4.out.1.c0) hn).trans HL4.out.2⟩
          have HGW : Hid (Grow w.heap.size (.slice (some ⟨gr, 0, none⟩) s.b.length cap) v2) := by show Grow _ _ _; exact (Grow.refl _ _).trans HGE.out HO4.out.size
          have HBT : Hid (Bl ∉ ownL vt) := by show _ ∉ _; intro hm; have h1 := HP.out.ot _ hm; have h2 := HBL.out; omega
          obtain ⟨F, hF⟩ : ∃ F : World → Prop, ∀ X, F X ↔ (X.cell? ⟨g, 5, none⟩ = some (.pointer (some ⟨gt, 0, none⟩)) ∧ X.cell? ⟨Bl, 1, none⟩ = some (.string y2)) := ⟨_, fun _ => Iff.rfl⟩
          have hx3 : ∀ p : Held F, p.w.cell? ⟨g, 5, none⟩ = some (.pointer (some ⟨gt, 0, none⟩)) := fun p => ((hF _).1 p.h).1
          have hxB : ∀ p : Held F, p.w.cell? ⟨Bl, 1, none⟩ = some (.string y2) := fun p => ((hF _).1 p.h).2
          have HFO : Hid (∀ X, Only (ownL vt) wc X → F X) := by
            show ∀ X, _
            intro X ho
            exact (hF _).2 ⟨(ho.cell (p := ⟨g, 5, none⟩) HQE.out.hd.lt HQE.out.ap.a2).trans HQE.out.hd.c5, (HLE.out.1.only ho HBT.out).c1⟩
          have HTD := Lib.hid (HQE.out.old ((Only.refl _ wc).drew)).tb
          have hglc := HQE.out.hd.lt
          clear hF
          go_wp2_with fail
          refine mix_start F (by kernel_rfl) ?_
          refine mix_seg [0, 1, 2, 3, 4, 5] (by kernel_rfl) (HFO.out _ ((Only.refl _ wc).drew)) ?_
          simp only [segOf, pickOps, pickOp]
          repeat (go_big_quiet_step (rfl))
          refine wpQuiet_nil ?_
          refine mix_run 6 (by kernel_rfl) ?_
          simp only [segOf, pickOps, pickOp]
          go_wp2_with fail
          refine (tFree_any gt 32 vt s.h y2 _ HTD.out).mono ?_
          rintro e w6 ⟨rfl, ht5, ho5⟩
          have HO5 := Lib.hid ho5.of_drew
          have HP6 := Lib.hid (HQE.out.turnT (HO5.out.mono (fun x hx => List.mem_cons_of_mem _ hx)) ht5 (Grow.refl _ _))
          have HL6 : Hid (LBox w6 Bl ⟨y1, y2, y3⟩ ∧ w6.frozen? ⟨Bl, 2, none⟩ = false) := by
            show _ ∧ _
            exact ⟨HLE.out.1.only HO5.out HBT.out, (HO5.out.frozen (p := ⟨Bl, 2, none⟩) (block_of_cell (a := ⟨Bl, 0, none⟩) HLE.out.1.c0) HBT.out).trans HLE.out.2⟩
          have HOA : Hid (Only (footP g gt vt (.slice (some ⟨gr, 0, none⟩) s.b.length cap) vi) w w6) := by
            show Only _ _ _
            refine ((HO4.out.mono (by simp)).trans (HOE.out.mono ?_)).trans (HO5.out.mono ?_)
            · intro x hx
              rcases List.mem_cons.1 hx with h1 | h1
              · exact mem_footP.2 (by simp [h1])
              · exact mem_footP.2 (.inr (.inr (.inr (.inl h1))))
            · intro x hx; exact mem_footP.2 (by simp [hx])
          clear ht5 ho5
          go_wp2_with fail
          refine MixPost.normal (HFO.out _ HO5.out) ?_
          refine mix_done (by kernel_rfl) ?_
          clear hx3 hxB HFO HTD hglc
          have hd2 := HP6.out.hd.c2
          have hgl6 := HP6.out.hd.lt
          cases kb with
          | false =>
            go_wp2_with fail
            go_wp2
            go_ret
            refine ⟨by rw [HE.out.1]; rfl, vt, v2, vi, ?_, HOA.out, Grow.refl _ _, HGW.out, Grow.refl _ _⟩
            rw [HGS.out, if_neg (fun h => by simp at h)]
            exact HP6.out
          | true =>
            by_cases hkk : s.keep ≠ 0
            · have hkp : (0 : Int) < (s.keep : Int) := by omega
              go_wp2_with fail
              refine (rtickAdd_any (now : Int) (s.keep : Int) w6 (by omega) hn1 (by omega) hn2).mono ?_
              rintro e w8 ⟨rfl, hw8⟩
              rw [← hw8]
              clear hw8 hd2 hkp
              obtain ⟨u, hu⟩ : ∃ u, u = sumT now s.keep := ⟨_, rfl⟩
              have HU : Hid (Lk.addT (now : Int) (s.keep : Int) = (u : Int)) := by show _ = _; rw [hu]; unfold Lk.addT sumT; split <;> split <;> omega
              rw [HU.out]
              rw [← hu] at HGS
              clear hu
              obtain ⟨W7, hW7⟩ : ∃ W7, W7 = w6.setCell ⟨Bl, 2, none⟩ (.int .u64 (u : Int)) := ⟨_, rfl⟩
              have HO7 : Hid (Only [Bl] w6 W7) := by show Only _ _ _; rw [hW7]; exact (Only.refl _ _).setCell (p := ⟨Bl, 2, none⟩) (by simp) _
              have HL7 : Hid (LBox W7 Bl ⟨y1, y2, u⟩) := by
                show LBox _ _ _
                rw [hW7]
                exact ⟨by rw [World.cell?_setCell_other _ _ _ _ (by simp)]; exact HL6.out.1.c0, by rw [World.cell?_setCell_other _ _ _ _ (by simp)]; exact HL6.out.1.c1, World.cell?_setCell_same _ _ _ HL6.out.1.c2⟩
              have HP7 : Hid (RpAt W7 g gt vt v2 vi { s with b := s.b.eraseIdx k, h := freeS s.h y2 }) := by
                show RpAt _ _ _ _ _ _ _
                refine HP6.out.only HO7.out ?_
                intro x hx hm
                simp at hm
                subst hm
                have h2 := HBL.out
                rcases mem_footP.1 hx with h1 | h1 | h1 | h1 | h1
                · have := HP.out.hd.lt; omega
                · have := HP.out.tb.head.lt; omega
                · exact HBT.out h1
                · rcases HGE.out _ h1 with h3 | h3
                  · have := HP.out.ob _ h3; omega
                  · have := HBB.out; omega
                · have := HP.out.oi _ h1; omega
              have l2 := HL6.out.1.c2
              have lz := HL6.out.2
              have hbl6 : Bl < w6.heap.size := block_of_cell (a := ⟨Bl, 0, none⟩) HL6.out.1.c0
              go_upto_region 10 with fail
              rw [← hW7]
              clear hW7 l2 lz hbl6
              obtain ⟨F, hF⟩ : ∃ F : World → Prop, ∀ X, F X ↔ LBox X Bl ⟨y1, y2, u⟩ := ⟨_, fun _ => Iff.rfl⟩
              have hxl0 : ∀ p : Held F, p.w.cell? ⟨Bl, 0, none⟩ = some (.int .i64 (y1 : Int)) := fun p => ((hF _).1 p.h).c0
              have hxl1 : ∀ p : Held F, p.w.cell? ⟨Bl, 1, none⟩ = some (.string y2) := fun p => ((hF _).1 p.h).c1
              have hxl2 : ∀ p : Held F, p.w.cell? ⟨Bl, 2, none⟩ = some (.int .u64 (u : Int)) := fun p => ((hF _).1 p.h).c2
              have HFF : Hid (∀ X, Only (g :: ownL vi) W7 X → F X) := by
                show ∀ X, _
                intro X ho
                refine (hF _).2 (HL7.out.only ho ?_)
                intro hm
                have h2 := HBL.out
                rcases List.mem_cons.1 hm with h1 | h1
                · have := HP.out.hd.lt; omega
                · have := HP.out.oi _ h1; omega
              clear hF
              obtain ⟨W0, hW0⟩ : ∃ W0, W0 = W7.drew := ⟨_, rfl⟩
              have HO0 : Hid (Only [] W7 W0) := by show Only _ _ _; rw [hW0]; exact (Only.refl _ _).drew
              have HQ0 := Lib.hid (HP7.out.old HO0.out)
              obtain ⟨W1, hW1⟩ : ∃ W1, W1 = W0.alloc (.cells #[.int .i64 (y1 : Int), .string y2, .int .u64 (u : Int)] 80) := ⟨_, rfl⟩
              obtain ⟨B1, hB1⟩ : ∃ B1, B1 = W0.heap.size := ⟨_, rfl⟩
              have HO1 : Hid (Only [] W7 W1) := by show Only _ _ _; rw [hW1]; exact HO0.out.alloc _
              have HN1 : Hid (W1.cell? ⟨B1, 0, none⟩ = some (.int .i64 (y1 : Int)) ∧ W1.cell? ⟨B1, 1, none⟩ = some (.string y2) ∧ W1.cell? ⟨B1, 2, none⟩ = some (.int .u64 (u : Int))) := by show _ ∧ _ ∧ _; rw [hW1, hB1]; exact ⟨by simp, by simp, by simp⟩
              have HS1 : Hid (W7.heap.size ≤ W1.heap.size) := HO1.out.size
              have HQ1 := Lib.hid (HP7.out.old HO1.out)
              have hgl0 := HQ0.out.hd.lt
              have hgl1 := HQ1.out.hd.lt
              go_wp2_with fail
              refine mix_start F (by kernel_rfl) ?_
              rw [← hW0]
              clear hW0
              refine mix_seg [0, 1, 2, 3, 5] (by kernel_rfl) (HFF.out _ (HO0.out.mono (by simp))) ?_
              simp only [segOf, pickOps, pickOp]
              repeat (go_big_quiet_step (rfl))
              refine wpQuiet_nil ?_
              refine mix_several [4, 6] (by kernel_rfl) ?_
              intro i1 hi1
              simp only [List.mem_cons, List.not_mem_nil, or_false] at hi1
              rcases hi1 with rfl | rfl
              · simp only [segOf, pickOps, pickOp]
                have hk0 := HQ0.out.hd.c4
                go_wp2_with fail
                refine MixPost.normal (HFF.out _ (HO0.out.mono (by simp))) ?_
                clear hk0
                refine mix_run 6 (by kernel_rfl) ?_
                simp only [segOf, pickOps, pickOp]
                go_wp2_with fail
                rw [← hW1, ← hB1]
                clear hW1 hB1
                refine MixPost.normal (HFF.out _ (HO1.out.mono (by simp))) ?_
                refine mix_run 7 (by kernel_rfl) ?_
                simp only [segOf, pickOps, pickOp]
                refine wpList_append_conn rfl (.tmp 81) (.tmp 83) 44 80 rfl Try.underlying44 infoCR _ s.i rfl HQ1.out.ri B1 ⟨y1, y2, u⟩ rfl HN1.out.1 HN1.out.2.1 HN1.out.2.2 (by have := HIL.out; omega) ?_
                intro g2 cap2 w2 hr2 ho2 hg2
                obtain ⟨v8, hv8⟩ : ∃ v8, v8 = Value.slice (some ⟨g2, 0, none⟩) (s.i.length + 1) cap2 := ⟨_, rfl⟩
                have HG8 : Hid (Grow W7.heap.size vi v8) := by
                  show Grow _ _ _
                  intro z hz
                  rw [hv8, ownL, Value.ownBlock] at hz
                  simp at hz
                  subst hz
                  rcases hg2.out with h1 | h1
                  · exact .inl h1
                  · right; have := HS1.out; omega
                have HH2 := Lib.hid (HQ1.out.hd.only ho2.out HQ1.out.ap.a4)
                have HO2 : Hid (Only (ownL vi) W7 w2) := (HO1.out.mono (by simp)).trans ho2.out
                have hk2 := HH2.out.c4
                have hk3 := HH2.out.z4
                have hk4 := HH2.out.lt
                obtain ⟨W3, hW3⟩ : ∃ W3, W3 = w2.setCell ⟨g, 4, none⟩ v8 := ⟨_, rfl⟩
                have HO3 : Hid (Only (g :: ownL vi) W7 W3) := by
                  show Only _ _ _
                  rw [hW3]; exact (HO2.out.mono (by intro z hz; exact List.mem_cons_of_mem _ hz)).setCell (p := ⟨g, 4, none⟩) (by simp) _
                have HQ3 : Hid (RpAt W3 g gt vt v2 v8 { s with b := s.b.eraseIdx k, h := freeS s.h y2, i := s.i ++ [⟨y1, y2, u⟩] }) := by
                  show RpAt _ _ _ _ _ _ _
                  refine HP7.out.turnI HO3.out ?_ ?_ HG8.out
                  · rw [hW3]; exact HH2.out.setI _
                  · rw [hW3, hv8]
                    refine hr2.out.only (s := [g]) ((Only.refl _ _).setCell (p := ⟨g, 4, none⟩) (by simp) _) ?_
                    intro z hz hm
                    rw [← hv8] at hz
                    simp at hm
                    subst hm
                    rcases HG8.out z hz with h1 | h1
                    · exact HQ1.out.ap.a4 h1
                    · have := HP7.out.hd.lt; omega
                have HF2 : Hid (F w2) := HFF.out _ (HO2.out.mono (by intro z hz; exact List.mem_cons_of_mem _ hz))
                have HF3 : Hid (F W3) := HFF.out _ HO3.out
                rw [hv8] at hW3
                go_wp2_with fail
                refine MixPost.normal HF2.out ?_
                refine mix_seg [8, 9] (by kernel_rfl) HF2.out ?_
                simp only [segOf, pickOps, pickOp]
                repeat (go_big_quiet_step (rfl))
                refine wpQuiet_nil ?_
                refine mix_run 10 (by kernel_rfl) ?_
                simp only [segOf, pickOps, pickOp]
                go_wp2_with fail
                rw [← hW3]
                clear hW3 hk2 hk3 hk4
                refine MixPost.normal HF3.out ?_
                refine mix_done (by kernel_rfl) ?_
                go_wp2
                go_ret
                refine ⟨by rw [HE.out.1]; rfl, vt, v2, v8, ?_, ?_, Grow.refl _ _, HGW.out, ?_⟩
                · rw [HGS.out, if_pos ⟨trivial, hkk⟩]
                  exact HQ3.out
                · have h1 : Only (footP g gt vt (.slice (some ⟨gr, 0, none⟩) s.b.length cap) vi) w W7 := HOA.out.next HO7.out (by intro x hx; right; simp at hx; subst hx; exact HBL.out)
                  exact h1.trans (HO3.out.mono (by intro x hx; rcases List.mem_cons.1 hx with h2 | h2; exact mem_footP.2 (by simp [h2]); exact mem_footP.2 (by simp [h2])))
                · exact (Grow.refl _ _).trans HG8.out (Nat.le_trans HOA.out.size HO7.out.size)
              · simp only [segOf, pickOps, pickOp]
                go_wp2_with fail
                rw [← hW1, ← hB1]
                clear hW1 hB1
                refine MixPost.normal (HFF.out _ (HO1.out.mono (by simp))) ?_
                refine mix_run 4 (by kernel_rfl) ?_
                simp only [segOf, pickOps, pickOp]
                have hk0 := HQ1.out.hd.c4
                go_wp2_with fail
                refine MixPost.normal (HFF.out _ (HO1.out.mono (by simp))) ?_
                clear hk0
                refine mix_run 7 (by kernel_rfl) ?_
                simp only [segOf, pickOps, pickOp]
                refine wpList_append_conn rfl (.tmp 81) (.tmp 83) 44 80 rfl Try.underlying44 infoCR _ s.i rfl HQ1.out.ri B1 ⟨y1, y2, u⟩ rfl HN1.out.1 HN1.out.2.1 HN1.out.2.2 (by have := HIL.out; omega) ?_
                intro g2 cap2 w2 hr2 ho2 hg2
                obtain ⟨v8, hv8⟩ : ∃ v8, v8 = Value.slice (some ⟨g2, 0, none⟩) (s.i.length + 1) cap2 := ⟨_, rfl⟩
                have HG8 : Hid (Grow W7.heap.size vi v8) := by
                  show Grow _ _ _
                  intro z hz
                  rw [hv8, ownL, Value.ownBlock] at hz
                  simp at hz
                  subst hz
                  rcases hg2.out with h1 | h1
                  · exact .inl h1
                  · right; have := HS1.out; omega
                have HH2 := Lib.hid (HQ1.out.hd.only ho2.out HQ1.out.ap.a4)
                have HO2 : Hid (Only (ownL vi) W7 w2) := (HO1.out.mono (by simp)).trans ho2.out
                have hk2 := HH2.out.c4
                have hk3 := HH2.out.z4
                have hk4 := HH2.out.lt
                obtain ⟨W3, hW3⟩ : ∃ W3, W3 = w2.setCell ⟨g, 4, none⟩ v8 := ⟨_, rfl⟩
                have HO3 : Hid (Only (g :: ownL vi) W7 W3) := by
                  show Only _ _ _
                  rw [hW3]; exact (HO2.out.mono (by intro z hz; exact List.mem_cons_of_mem _ hz)).setCell (p := ⟨g, 4, none⟩) (by simp) _
                have HQ3 : Hid (RpAt W3 g gt vt v2 v8 { s with b := s.b.eraseIdx k, h := freeS s.h y2, i := s.i ++ [⟨y1, y2, u⟩] }) := by
                  show RpAt _ _ _ _ _ _ _
                  refine HP7.out.turnI HO3.out ?_ ?_ HG8.out
                  · rw [hW3]; exact HH2.out.setI _
                  · rw [hW3, hv8]
                    refine hr2.out.only (s := [g]) ((Only.refl _ _).setCell (p := ⟨g, 4, none⟩) (by simp) _) ?_
                    intro z hz hm
                    rw [← hv8] at hz
                    simp at hm
                    subst hm
                    rcases HG8.out z hz with h1 | h1
                    · exact HQ1.out.ap.a4 h1
                    · have := HP7.out.hd.lt; omega
                have HF2 : Hid (F w2) := HFF.out _ (HO2.out.mono (by intro z hz; exact List.mem_cons_of_mem _ hz))
                have HF3 : Hid (F W3) := HFF.out _ HO3.out
                rw [hv8] at hW3
                go_wp2_with fail
                refine MixPost.normal HF2.out ?_
                refine mix_seg [8, 9] (by kernel_rfl) HF2.out ?_
                simp only [segOf, pickOps, pickOp]
                repeat (go_big_quiet_step (rfl))
                refine wpQuiet_nil ?_
                refine mix_run 10 (by kernel_rfl) ?_
                simp only [segOf, pickOps, pickOp]
                go_wp2_with fail
                rw [← hW3]
                clear hW3 hk2 hk3 hk4
                refine MixPost.normal HF3.out ?_
                refine mix_done (by kernel_rfl) ?_
                go_wp2
                go_ret
                refine ⟨by rw [HE.out.1]; rfl, vt, v2, v8, ?_, ?_, Grow.refl _ _, HGW.out, ?_⟩
                · rw [HGS.out, if_pos ⟨trivial, hkk⟩]
                  exact HQ3.out
                · have h1 : Only (footP g gt vt (.slice (some ⟨gr, 0, none⟩) s.b.length cap) vi) w W7 := HOA.out.next HO7.out (by intro x hx; right; simp at hx; subst hx; exact HBL.out)
                  exact h1.trans (HO3.out.mono (by intro x hx; rcases List.mem_cons.1 hx with h2 | h2; exact mem_footP.2 (by simp [h2]); exact mem_footP.2 (by simp [h2])))
                · exact (Grow.refl _ _).trans HG8.out (Nat.le_trans HOA.out.size HO7.out.size)
            · have hkp : ¬ (0 : Int) < (s.keep : Int) := by omega
              go_wp2_with fail
              go_wp2
              go_ret
              refine ⟨by rw [HE.out.1]; rfl, vt, v2, vi, ?_, HOA.out, Grow.refl _ _, HGW.out, Grow.refl _ _⟩
              rw [HGS.out, if_neg (fun h => hkk h.2)]
              exact HP6.out
      · have HE : Hid (∀ j, j < k + 1 → connB i (nthC s.b j) = false) := by
          show ∀ j, _
          intro j h1
          by_cases e : j = k
          · rw [e, ← HY.out]; exact decide_eq_false he
          · exact HNO.out j (by omega)
        clear HH
        go_wp2
        go_round
        case rel => exact ⟨k + 1, by omega, by go_num, HE.out⟩
        case measure => simp [intOf]; omega
    · obtain rfl : k = s.b.length := by omega
      have HE := Lib.hid (HMISS.out HNO.out)
      go_wp2
      go_ret
      exact ⟨by rw [HE.out.1]; rfl, vt, _, vi, by rw [HE.out.2]; exact HP.out, Only.refl _ _, Grow.refl _ _, Grow.refl _ _, Grow.refl _ _⟩
end Go.Proofs.Ytbnmldfiheffoaa
