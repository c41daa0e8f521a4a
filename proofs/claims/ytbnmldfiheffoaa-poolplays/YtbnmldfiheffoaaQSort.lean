/-
  The contract of the document's own Sorted: numbers by insertion, over this seat's program. Conditions: not more than a thousand.
-/
import Derived.Test.YtbnmldfiheffoaaKPart
import Derived.Test.YtbnmldfiheffoaaQShut
namespace Go.Proofs.Ytbnmldfiheffoaa
open Go.RowKit

theorem sort_unique : ∀ {l m : List Int}, l.Perm m → l.Pairwise (fun a b => a ≤ b) → m.Pairwise (fun a b => a ≤ b) → l = m
  | [], m, p, _, _ => by have := p.length_eq; cases m with | nil => rfl | cons y r => simp at this
  | x :: l, [], p, _, _ => by have := p.length_eq; simp at this
  | x :: l, y :: m, p, hl, hm => by
    obtain ⟨h1, h2⟩ := List.pairwise_cons.1 hl
    obtain ⟨h3, h4⟩ := List.pairwise_cons.1 hm
    have e : x = y := by
      have a1 : x ∈ y :: m := p.subset (by simp)
      have a2 : y ∈ x :: l := p.symm.subset (by simp)
      rcases List.mem_cons.1 a1 with h | h
      · exact h
      · rcases List.mem_cons.1 a2 with h' | h'
        · exact h'.symm
        · have := h1 y h'; have := h3 x h; omega
    subst e
    rw [sort_unique (List.Perm.cons_inv p) h2 h4]
theorem sortI_is {l m : List Int} (p : m.Perm l) (h : m.Pairwise (fun a b => a ≤ b)) : m = sortI l := by
  refine sort_unique (p.trans (List.mergeSort_perm l _).symm) h ?_
  have h1 := List.pairwise_mergeSort (le := fun x y : Int => decide (x ≤ y)) (fun a b c h1 h2 => by simp at h1 h2 ⊢; omega) (fun a b => by simp; omega) l
  exact h1.imp (fun h => by simpa using h)
/-- while one number is taken to its place: k, among the first i and itself -/
structure InsAt (l : List Int) (i k : Nat) (L : List Int) : Prop where
  perm : L.Perm l
  cut : ∃ A x B C, L = A ++ x :: (B ++ C) ∧ A.length = k ∧ (A ++ B).length = i ∧ (A ++ B).Pairwise (fun a b => a ≤ b) ∧ ∀ y ∈ B, x ≤ y
theorem InsAt.start {l L : List Int} {i : Nat} (p : L.Perm l) (hs : (L.take i).Pairwise (fun a b => a ≤ b)) (hi : i < L.length) : InsAt l i i L := by
  refine ⟨p, L.take i, L[i], [], L.drop (i + 1), ?_, by simp; omega, by simp; omega, by simpa using hs, by simp⟩
  rw [List.nil_append, ← List.drop_eq_getElem_cons hi, List.take_append_drop]
theorem InsAt.done {l L : List Int} {i k : Nat} (h : InsAt l i k L) (hk : k = 0 ∨ ∃ (h1 : k < L.length) (h2 : k - 1 < L.length), ¬ L[k] < L[k - 1]) : (L.take (i + 1)).Pairwise (fun a b => a ≤ b) := by
  obtain ⟨A, x, B, C, rfl, e1, e2, e3, e4⟩ := h.cut
  have e5 : (A ++ x :: (B ++ C)).take (i + 1) = A ++ x :: B := by
    have : A ++ x :: (B ++ C) = (A ++ x :: B) ++ C := by simp
    rw [this, List.take_left' (by simp at e2 ⊢; omega)]
  rw [e5]
  rw [List.pairwise_append] at e3 ⊢
  obtain ⟨a1, a2, a3⟩ := e3
  have hA : ∀ a ∈ A, a ≤ x := by
    rcases hk with h0 | ⟨h1, h2, h3⟩
    · have : A = [] := List.length_eq_zero_iff.1 (e1.trans h0)
      subst this; simp
    · rcases List.eq_nil_or_concat A with h0 | ⟨A', y, h0⟩
      · subst h0; simp
      · simp only [List.concat_eq_append] at h0
        subst h0
        have hk2 : A'.length + 1 = k := by simpa using e1
        have g1 : (A' ++ [y] ++ x :: (B ++ C))[k]'h1 = x := by
          rw [List.getElem_append_right (by simp; omega)]; simp [← hk2]
        have g2 : (A' ++ [y] ++ x :: (B ++ C))[k - 1]'h2 = y := by
          rw [List.getElem_append_left (by simp; omega), List.getElem_append_right (by omega)]; simp [← hk2]
        rw [g1, g2] at h3
        intro a ha
        rcases List.mem_append.1 ha with h4 | h4
        · have := (List.pairwise_append.1 a1).2.2 a h4 y (by simp); omega
        · simp at h4; subst h4; omega
  refine ⟨a1, List.Pairwise.cons e4 a2, fun a ha b hb => ?_⟩
  rcases List.mem_cons.1 hb with h5 | h5
  · subst h5; exact hA a ha
  · exact a3 a ha b h5
theorem InsAt.swap {l L : List Int} {i p : Nat} (h : InsAt l i (p + 1) L) (h1 : p + 1 < L.length) (hlt : L[p + 1] < L[p]) : InsAt l i p ((L.set (p + 1) L[p]).set p L[p + 1]) := by
  obtain ⟨A, x, B, C, rfl, e1, e2, e3, e4⟩ := h.cut
  rcases List.eq_nil_or_concat A with h0 | ⟨A', y, h0⟩
  · subst h0; simp at e1
  · simp only [List.concat_eq_append] at h0
    subst h0
    have hk : A'.length = p := by simpa using e1
    subst hk
    have g1 : (A' ++ [y] ++ x :: (B ++ C))[A'.length + 1]'h1 = x := by
      rw [List.getElem_append_right (by simp)]; simp
    have g2 : (A' ++ [y] ++ x :: (B ++ C))[A'.length]'(by omega) = y := by
      rw [List.getElem_append_left (by simp), List.getElem_append_right (by omega)]; simp
    rw [g1, g2] at hlt
    rw [g1, g2]
    have e5 : ((A' ++ [y] ++ x :: (B ++ C)).set (A'.length + 1) y).set A'.length x = A' ++ x :: ((y :: B) ++ C) := by
      rw [List.append_assoc, List.set_append_right _ _ (by omega), List.set_append_right _ _ (by omega)]
      simp
    rw [e5]
    refine ⟨?_, A', x, y :: B, C, rfl, rfl, by simpa using e2, by simpa using e3, fun z hz => ?_⟩
    · refine List.Perm.trans ?_ h.perm
      rw [List.append_assoc]
      refine List.Perm.append_left _ ?_
      exact List.Perm.swap y x (B ++ C)
    · rcases List.mem_cons.1 hz with h2 | h2
      · subst h2; omega
      · exact e4 z h2
theorem IRow.set {w : World} {g n cap : Nat} {L : List Int} (h : IRow w (.slice (some ⟨g, 0, none⟩) n cap) L) (hn : n = L.length) (k : Nat) (y : Int) : IRow (w.setCell ⟨g, k, none⟩ (.int .i64 y)) (.slice (some ⟨g, 0, none⟩) n cap) (L.set k y) := by
  subst hn
  have h1 := (World.ownsRow.stored h k (.int .i64 y)).1
  unfold IRow ERow
  rw [List.length_set]
  rw [ics_eq] at h1 ⊢
  rw [List.map_set]
  exact h1

set_option maxRecDepth 8000 in
set_option maxHeartbeats 4000000 in
theorem Sorted_any (v : Value) (l : List Int) (w : World) (h : IRow w v l) (hl : l.length ≤ 1000) :
    Calls Try.prog 46 #[v] w fun e w' => ∃ r, e = .returned r ∧ IRow w' r (sortI l) ∧ NewL w.heap.size r ∧ Only [] w w' := by
  have HI := Lib.hid h
  have HL := Lib.hid hl
  clear h hl
  go_enter Try.func46, Try.ntmps46
  go_wp2_with (at_builtin; refine wpList_append_part nE rfl (.const (.slice none 0 0)) (.tmp 6) 39 3 rfl Try.underlying39 (.int .i64 0) 8 infoI rfl 0 (.slice none 0 0) [] rfl ERow.nil _ l rfl (ERow.part HI.out) (by have := HL.out; simp; omega) (by omega) (Nat.zero_le _) ?_)
  intro v1 w1 hr1 ho1 hg1
  have HR1 : Hid (IRow w1 v1 l) := hr1.out
  have HO1 : Hid (Only [] w w1) := ho1.out.mono (by intro z hz; simp [ownL, Value.ownBlock] at hz)
  have HN1 : Hid (NewL w.heap.size v1) := by show NewL _ _; intro z hz; rcases hg1.out z hz with h3 | h3; simp [ownL, Value.ownBlock] at h3; omega
  clear hr1 ho1 hg1
  obtain ⟨A1, c1, e1, hc1, hm1⟩ := HR1.out.slice
  unfold maxLen at hm1
  subst e1
  go_wp2_with fail
  go_loopw [4] (fun i wr => ∃ (k : Nat) (L : List Int), k ≤ l.length ∧ i = .int .i64 (k : Int) ∧ L.Perm l ∧ (L.take k).Pairwise (fun a b => a ≤ b) ∧ IRow wr (.slice A1 l.length c1) L ∧ Only [] w wr) (fun i _ => l.length - (intOf i).toNat)
  case atStart => exact ⟨0, l, by omega, rfl, List.Perm.refl _, by simp, HR1.out, HO1.out⟩
  case round =>
    obtain ⟨k, L, hk, rfl, hp, hs, hr, ho⟩ := hrel
    have HP := Lib.hid hp
    have HS := Lib.hid hs
    have HR := Lib.hid hr
    have HO := Lib.hid ho
    have HLN : Hid (l.length = L.length) := hp.length_eq.symm
    clear hp hs hr ho
    by_cases hlt : k < l.length
    · go_wp2_with fail
      go_loopw [5] (fun i wr => ∃ (p : Nat) (L : List Int), p ≤ k ∧ i = .int .i64 (p : Int) ∧ InsAt l k p L ∧ IRow wr (.slice A1 l.length c1) L ∧ Only [] w wr) (fun i _ => (intOf i).toNat)
      case atStart => exact ⟨k, L, by omega, rfl, InsAt.start HP.out HS.out (by have := HLN.out; omega), HR.out, HO.out⟩
      case round =>
        obtain ⟨p, L2, hp, rfl, hi, hr, ho⟩ := hrel
        have HIA := Lib.hid hi
        have HR2 := Lib.hid hr
        have HO2 := Lib.hid ho
        have HLN2 : Hid (l.length = L2.length) := hi.perm.length_eq.symm
        clear hi hr ho
        cases p with
        | zero =>
          have HD := Lib.hid (HIA.out.done (.inl rfl))
          go_wp2_with fail
          go_quiet (fail)
          go_wp2_with fail
          go_roundw
          case rel => exact ⟨k + 1, L2, by omega, by go_num, HIA.out.perm, HD.out, HR2.out.old ((Only.refl [] _).drewN _), HO2.out.drewN _⟩
          case measure => simp [intOf]; omega
        | succ p =>
          have hpl : p + 1 < L2.length := by have := HLN2.out; omega
          obtain ⟨g, eA, f1⟩ := HR2.out.at_ HLN2.out (k := p + 1) hpl
          obtain ⟨g2, eA2, f0⟩ := HR2.out.at_ HLN2.out (k := p) (by omega)
          rw [eA] at eA2
          injection eA2 with eA2
          injection eA2 with eA2 _ _
          subst eA2
          subst eA
          obtain ⟨x, hx⟩ : ∃ x, x = L2[p + 1] := ⟨_, rfl⟩
          obtain ⟨y, hy⟩ : ∃ y, y = L2[p] := ⟨_, rfl⟩
          rw [← hx] at f1
          rw [← hy] at f0
          have HX := Lib.hid hx
          have HY := Lib.hid hy
          clear hx hy
          have hp1 : p + 1 < l.length := by have := HLN2.out; omega
          have hp0 : p < l.length := by omega
          by_cases hxy : x < y
          · have HSW : Hid (InsAt l k p ((L2.set (p + 1) y).set p x)) := by show InsAt _ _ _ _; rw [HX.out, HY.out]; exact HIA.out.swap hpl (by rw [← HX.out, ← HY.out]; exact hxy)
            go_wp2_with fail
            go_quiet (fail)
            obtain ⟨W0, hW0⟩ : ∃ W0, W0 = (wr.drewN nq).drew := ⟨_, rfl⟩
            have HO0 : Hid (Only [] wr W0) := by show Only _ _ _; rw [hW0]; exact ((Only.refl _ _).drewN _).drew
            have HR0 := Lib.hid (HR2.out.old HO0.out)
            have HGB : Hid (w.heap.size ≤ g ∧ g < W0.heap.size) := ⟨HN1.out g (by simp [ownL, Value.ownBlock]), HR0.out.own (by simp [ownL, Value.ownBlock])⟩
            obtain ⟨W1, hW1⟩ : ∃ W1, W1 = W0.setCell ⟨g, p + 1, none⟩ (.int .i64 y) := ⟨_, rfl⟩
            obtain ⟨W2, hW2⟩ : ∃ W2, W2 = W1.setCell ⟨g, p, none⟩ (.int .i64 x) := ⟨_, rfl⟩
            have HR1' : Hid (IRow W1 (.slice (some ⟨g, 0, none⟩) l.length c1) (L2.set (p + 1) y)) := by show IRow _ _ _; rw [hW1]; exact HR0.out.set HLN2.out _ _
            have HR3 : Hid (IRow W2 (.slice (some ⟨g, 0, none⟩) l.length c1) ((L2.set (p + 1) y).set p x)) := by show IRow _ _ _; rw [hW2]; exact HR1'.out.set (by rw [List.length_set]; exact HLN2.out) _ _
            have HO3 : Hid (Only [] w W2) := by
              show Only _ _ _
              refine (HO2.out.trans HO0.out).next (s' := [g]) ?_ (by intro z hz; simp at hz; subst hz; exact .inr HGB.out.1)
              rw [hW2, hW1]
              exact ((Only.refl _ _).setCell (p := ⟨g, p + 1, none⟩) (by simp) _).setCell (p := ⟨g, p, none⟩) (by simp) _
            have HW1 : Hid ((W0.cell? ⟨g, p + 1, none⟩).isSome = true ∧ W0.frozen? ⟨g, p + 1, none⟩ = false) := ERow.isC HR0.out HLN2.out (p + 1) (by show _ < l.length * 1; omega)
            have HW2 : Hid ((W1.cell? ⟨g, p, none⟩).isSome = true ∧ W1.frozen? ⟨g, p, none⟩ = false) := ERow.isC HR1'.out (by rw [List.length_set]; exact HLN2.out) p (by show _ < l.length * 1; omega)
            have hglt := HGB.out.2
            obtain ⟨g3, eg3, k1⟩ := HR0.out.at_ HLN2.out (k := p + 1) hpl
            obtain ⟨g4, eg4, k0⟩ := HR0.out.at_ HLN2.out (k := p) (by omega)
            injection eg3 with eg3
            injection eg3 with eg3 _ _
            injection eg4 with eg4
            injection eg4 with eg4 _ _
            subst eg3
            subst eg4
            rw [← HX.out] at k1
            rw [← HY.out] at k0
            clear f0 f1
            have f0 := k0
            have f1 := k1
            clear k0 k1
            have hne : Nonempty (Held (fun _ => True)) := ⟨⟨W0, trivial⟩⟩
            go_wp2_with fail
            refine mix_start (fun _ => True) (by kernel_rfl) ?_
            rw [← hW0]
            clear hW0
            refine mix_seg [0, 1, 2, 3, 4, 5, 6, 7, 8, 10, 11, 12] (by kernel_rfl) trivial ?_
            simp only [segOf, pickOps, pickOp]
            repeat (go_big_quiet_step (rfl))
            refine wpQuiet_nil ?_
            refine mix_several [9, 13] (by kernel_rfl) ?_
            intro i hi'
            simp only [List.mem_cons, List.not_mem_nil, or_false] at hi'
            rcases hi' with rfl | rfl
            case' inl =>
              simp only [segOf, pickOps, pickOp]
              go_wp2_with fail
              refine MixPost.normal trivial ?_
              refine mix_run 13 (by kernel_rfl) ?_
              simp only [segOf, pickOps, pickOp]
              go_wp2_with fail
              refine MixPost.normal trivial ?_
            case' inr =>
              simp only [segOf, pickOps, pickOp]
              go_wp2_with fail
              refine MixPost.normal trivial ?_
              refine mix_run 9 (by kernel_rfl) ?_
              simp only [segOf, pickOps, pickOp]
              go_wp2_with fail
              refine MixPost.normal trivial ?_
            all_goals
              refine mix_seg [14] (by kernel_rfl) trivial ?_
              simp only [segOf, pickOps, pickOp]
              repeat (go_big_quiet_step (fail))
              refine wpQuiet_nil ?_
              have q2 := HW1.out.2
              refine mix_run 15 (by kernel_rfl) ?_
              simp only [segOf, pickOps, pickOp]
              clear f0
              go_wp2_with fail
              rw [← hW1]
              clear f1 q2 hW1
              refine MixPost.normal trivial ?_
              refine mix_seg [16] (by kernel_rfl) trivial ?_
              simp only [segOf, pickOps, pickOp]
              repeat (go_big_quiet_step (fail))
              refine wpQuiet_nil ?_
              obtain ⟨a1, q1⟩ := Option.isSome_iff_exists.1 HW2.out.1
              have q2 := HW2.out.2
              refine mix_run 17 (by kernel_rfl) ?_
              simp only [segOf, pickOps, pickOp]
              go_wp2_with fail
              rw [← hW2]
              clear q1 q2 hW2
              refine MixPost.normal trivial ?_
              refine mix_done (by kernel_rfl) ?_
              go_wp2_with fail
              go_roundw
              case rel => exact ⟨p, _, by omega, by go_num, HSW.out, HR3.out, HO3.out⟩
              case measure => simp [intOf]
          · have HD : Hid ((L2.take (k + 1)).Pairwise (fun a b => a ≤ b)) := HIA.out.done (.inr ⟨hpl, by omega, by have h5 := HX.out; have h6 := HY.out; show ¬ L2[p + 1] < L2[p]; omega⟩)
            go_wp2_with fail
            go_quiet (fail)
            go_wp2_with fail
            go_roundw
            case rel => exact ⟨k + 1, L2, by omega, by go_num, HIA.out.perm, HD.out, HR2.out.old ((Only.refl [] _).drewN _), HO2.out.drewN _⟩
            case measure => simp [intOf]; omega
    · obtain rfl : k = l.length := by omega
      have HSD : Hid (L = sortI l) := by show _ = _; refine sortI_is HP.out ?_; have h1 := HS.out; rw [List.take_of_length_le (by have := HLN.out; omega)] at h1; exact h1
      go_wp2
      go_ret
      exact ⟨_, rfl, by rw [← HSD.out]; exact HR.out, HN1.out, HO.out⟩
end Go.Proofs.Ytbnmldfiheffoaa
