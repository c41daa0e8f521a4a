/-
  The contract of the cache's Put over this seat's program. Conditions: the cache lies there.
-/
import Derived.Test.YtlkneapidmdpbaaGreatDoorBAsk
import Derived.Test.YtlkneapidmdpbaaGreatDoorBRoom
namespace Go.Proofs.YtlkneapidmdpbaaGreatDoor
open Go.RowKit

theorem ecs_stamp (t : Nat) : ∀ (l : List En) (p : Nat), p < l.length → (ecs eE l).set (p * 6 + 5) (.int .u64 (t : Int)) = ecs eE (l.set p (timed (nthE l p) t))
  | x :: r, 0, _ => by
    show (eCs x ++ ecs eE r).set 5 _ = eCs (timed x t) ++ ecs eE r
    rw [List.set_append_left _ _ (by simp [eCs])]
    rfl
  | x :: r, p + 1, h => by
    have h1 := ecs_stamp t r p (by simpa using h)
    show (eCs x ++ ecs eE r).set ((p + 1) * 6 + 5) _ = eCs x ++ ecs eE (r.set p (timed (nthE r p) t))
    rw [← h1, List.set_append_right _ _ (by simp [eCs]; omega)]
    congr 2
    simp [eCs]; omega
/-- an entry's time is laid anew -/
theorem EnRow.stamp {w : World} {gi n cap p : Nat} {l : List En} (h : EnRow w (.slice (some ⟨gi, 0, none⟩) n cap) l) (hn : n = l.length) (hp : p < l.length) (t : Nat) :
    EnRow (w.setCell ⟨gi, p * 6 + 5, none⟩ (.int .u64 (t : Int))) (.slice (some ⟨gi, 0, none⟩) n cap) (l.set p (timed (nthE l p) t)) := by
  subst hn
  unfold EnRow ERow at h ⊢
  have h1 := (h.stored (p * 6 + 5) (.int .u64 (t : Int))).1
  rw [ecs_stamp t l p hp] at h1
  rw [List.length_set]
  exact h1
theorem CaAt.rowTurn {w w' : World} {g n : Nat} {v : Value} {l l' : List En} (h : CaAt w g n v l) (o : Only (ownL v) w w') (hr : EnRow w' v l') (hl : l'.length ≤ n) : CaAt w' g n v l' :=
  ⟨(o.cell (p := ⟨g, 0, none⟩) h.lt h.ne).trans h.c0, (o.cell (p := ⟨g, 1, none⟩) h.lt h.ne).trans h.c1, (o.frozen (p := ⟨g, 1, none⟩) h.lt h.ne).trans h.z1, hr, h.ne, h.n1, h.n2, hl⟩

set_option maxRecDepth 20000 in
set_option maxHeartbeats 8000000 in
theorem cPut_any (g n : Nat) (v : Value) (l0 : List En) (e : En) (t : Nat) (w : World) (h : CaAt w g n v l0) :
    Calls Tryz.prog 33 #[.pointer (some ⟨g, 0, none⟩), entV e, .int .u64 (t : Int)] w fun r w' => r = .returned (.bool (putB e t)) ∧ CaStep w w' g n v (putL n e t l0) := by
  obtain ⟨w1, hw1⟩ : ∃ w1, w1 = w.alloc (.cells #[.string e.k.o, .string e.k.u, .bool e.k.c, .string e.m, .string e.h, .int .u64 (e.t : Int)] 64) := ⟨_, rfl⟩
  obtain ⟨B1, hB1⟩ : ∃ B1, B1 = w.heap.size := ⟨_, rfl⟩
  have HO1 : Hid (Only [] w w1) := by show Only _ _ _; rw [hw1]; exact (Only.refl _ _).alloc _
  have HX1 : Hid (EnBox w1 B1 e) := by show EnBox _ _ _; rw [hw1, hB1]; exact EnBox.new _ _ _
  have HBL : Hid (B1 = w.heap.size) := hB1
  have HBN : Hid (B1 ∉ g :: ownL v) := by show _ ∉ _; intro hm; have := h.own hm; omega
  have HH := Lib.hid h
  have hval := isValid_any e w1
  obtain ⟨q1, hq1⟩ : ∃ q1, q1 = okE e := ⟨_, rfl⟩
  obtain ⟨q2, hq2⟩ : ∃ q2, q2 = expB t e := ⟨_, rfl⟩
  have HPB : Hid (putB e t = (q1 && !q2)) := by show _ = _; rw [hq1, hq2]; rfl
  rw [← hq1] at hval
  have HQ2 := Lib.hid hq2
  obtain ⟨d0, d1, d2, d3, d4, d5⟩ := HX1.out
  simp only [entV] at hval ⊢
  clear h hq1 hq2
  go_enter Tryz.func33, Tryz.ntmps33
  go_wp2_with fail
  rw [← hw1, ← hB1]
  clear hw1 hB1
  refine hval.mono ?_
  rintro r w2 ⟨rfl, ho2⟩
  have HO2 := Lib.hid (HO1.out.trans ho2)
  have HX2 := Lib.hid (HX1.out.old ho2)
  clear hval ho2 d0 d1 d2 d3 d4 d5
  cases q1 with
  | false =>
    have HF := Lib.hid (putL_no (n := n) (l := l0) (show putB e t = false by rw [HPB.out]; rfl))
    go_wp2
    go_ret
    exact ⟨ret_bool (by rw [HPB.out]; rfl), by rw [HF.out]; exact CaStep.same HH.out HO2.out⟩
  | true =>
    have hexp := isExpired_any e t w2
    rw [← HQ2.out] at hexp
    obtain ⟨d0, d1, d2, d3, d4, d5⟩ := HX2.out
    simp only [entV] at hexp
    go_wp2_with fail
    refine hexp.mono ?_
    rintro r w3 ⟨rfl, ho3⟩
    have HO3 := Lib.hid (HO2.out.trans ho3)
    have HX3 := Lib.hid (HX2.out.old ho3)
    clear hexp ho3 d0 d1 d2 d3 d4 d5
    cases q2 with
    | true =>
      have HF := Lib.hid (putL_no (n := n) (l := l0) (show putB e t = false by rw [HPB.out]; rfl))
      go_wp2
      go_ret
      exact ⟨ret_bool (by rw [HPB.out]; rfl), by rw [HF.out]; exact CaStep.same HH.out HO3.out⟩
    | false =>
      have HPY := Lib.hid (putL_yes (n := n) (l := l0) (show putB e t = true by rw [HPB.out]; rfl))
      have hsw := cSweep_any g n v l0 t w3 (HH.out.old HO3.out)
      obtain ⟨l1, hl1⟩ : ∃ l1, l1 = sweepL t l0 := ⟨_, rfl⟩
      rw [← hl1] at hsw HPY
      go_wp2_with fail
      refine hsw.mono ?_
      rintro r w4 ⟨rfl, v1, hc4, ho4, hg4⟩
      have HC4 := Lib.hid hc4
      have HO4 : Hid (Only (g :: ownL v) w w4) := (HO3.out.mono (by simp)).trans ho4
      have HG4 : Hid (Grow w.heap.size v v1) := by show Grow _ _ _; intro x hx; rcases hg4 x hx with h1 | h1; exact .inl h1; right; have := HO3.out.size; omega
      have HX4 : Hid (EnBox w4 B1 e) := HX3.out.only ho4 HBN.out
      have HB4 : Hid (B1 ∉ g :: ownL v1) := by
        show _ ∉ _
        intro hm
        rcases List.mem_cons.1 hm with h1 | h1
        · exact HBN.out (by simp [h1])
        · rcases hg4 _ h1 with h2 | h2
          · exact HBN.out (by simp [h2])
          · have := HX3.out.lt; omega
      clear hsw hc4 ho4 hg4 hl1
      have hfd := cfind_any g n v1 l1 e w4 HC4.out
      obtain ⟨d0, d1, d2, d3, d4, d5⟩ := HX4.out
      simp only [entV] at hfd
      go_wp2_with fail
      refine hfd.mono ?_
      rintro r w5 ⟨rfl, ho5⟩
      have HC5 := Lib.hid (HC4.out.old ho5)
      have HO5 : Hid (Only (g :: ownL v) w w5) := HO4.out.trans (ho5.mono (by simp))
      have HX5 := Lib.hid (HX4.out.old ho5)
      clear hfd ho5 d0 d1 d2 d3 d4 d5
      by_cases hit : l1.findIdx (sameB e) < l1.length
      · have HAY := Lib.hid (addL_yes (n := n) hit)
        rw [spotI_yes hit]
        obtain ⟨p, hp⟩ : ∃ p, p = l1.findIdx (sameB e) := ⟨_, rfl⟩
        rw [← hp] at HAY hit ⊢
        clear hp
        obtain ⟨gi, cap, hv1, _, hlc, hcm⟩ := HC5.out.row.some_ (by omega)
        obtain ⟨N, hN⟩ : ∃ N, N = l1.length := ⟨_, rfl⟩
        have HN := Lib.hid hN
        rw [← hN] at hv1 hlc hit
        have HPN := Lib.hid hit
        unfold maxLen at hcm
        clear hN hit
        subst hv1
        obtain ⟨l, hl⟩ : ∃ l, l = l1 := ⟨_, rfl⟩
        subst hl
        obtain ⟨W0, hW0⟩ : ∃ W0, W0 = w5.drew := ⟨_, rfl⟩
        have HO0 : Hid (Only [] w5 W0) := by show Only _ _ _; rw [hW0]; exact (Only.refl _ _).drew
        have HQ0 := Lib.hid (HC5.out.old HO0.out)
        obtain ⟨F, hF⟩ : ∃ F : World → Prop, ∀ W, F W ↔ (W.cell? ⟨g, 1, none⟩ = some (.slice (some ⟨gi, 0, none⟩) N cap) ∧ W.cell? ⟨B1, 5, none⟩ = some (.int .u64 (e.t : Int))) := ⟨_, fun _ => Iff.rfl⟩
        have hx0 : ∀ p : Held F, p.w.cell? ⟨g, 1, none⟩ = some (.slice (some ⟨gi, 0, none⟩) N cap) := fun p => ((hF _).1 p.h).1
        have hx5 : ∀ p : Held F, p.w.cell? ⟨B1, 5, none⟩ = some (.int .u64 (e.t : Int)) := fun p => ((hF _).1 p.h).2
        have HFF : Hid (∀ W', Only [gi] w5 W' → F W') := by
          show ∀ W', _
          intro W' ho
          refine (hF _).2 ⟨(ho.cell (p := ⟨g, 1, none⟩) HC5.out.lt (by have := HC5.out.ne; simpa [ownL, Value.ownBlock] using this)).trans HC5.out.c1, (HX5.out.only ho ?_).c5⟩
          have := HB4.out
          simp [ownL, Value.ownBlock] at this
          simp; exact this.2
        clear hF
        obtain ⟨W3, hW3⟩ : ∃ W3, W3 = W0.setCell ⟨gi, p * 6 + 5, none⟩ (.int .u64 (e.t : Int)) := ⟨_, rfl⟩
        have HO3 : Hid (Only [gi] w5 W3) := by show Only _ _ _; rw [hW3]; exact (HO0.out.mono (by simp)).setCell (p := ⟨gi, p * 6 + 5, none⟩) (by simp) _
        have HQ3 : Hid (CaAt W3 g n (.slice (some ⟨gi, 0, none⟩) N cap) (l.set p (timed (nthE l p) e.t))) := by
          show CaAt _ _ _ _ _
          refine HC5.out.rowTurn (by simpa [ownL, Value.ownBlock] using HO3.out) ?_ (by rw [List.length_set]; exact HC5.out.len)
          rw [hW3]
          exact EnRow.stamp HQ0.out.row HN.out (by rw [← HN.out]; exact HPN.out) e.t
        have hk1 := ERow.isC HQ0.out.row HN.out (p * 6 + 5) (by show _ < N * 6; have := HPN.out; omega)
        obtain ⟨hk2, hk3⟩ := hk1
        obtain ⟨u, hk2⟩ := Option.isSome_iff_exists.1 hk2
        have hgl0 : gi < W0.heap.size := block_of_cell (a := ⟨gi, p * 6 + 5, none⟩) hk2
        have hpn := HPN.out
        go_wp2_with fail
        refine mix_start F (by kernel_rfl) ?_
        rw [← hW0]
        clear hW0
        refine mix_seg [0, 1, 2, 3, 4, 5, 6, 7, 8] (by kernel_rfl) (HFF.out _ (HO0.out.mono (by simp))) ?_
        simp only [segOf, pickOps, pickOp]
        repeat (go_big_quiet_step (rfl))
        refine wpQuiet_nil ?_
        clear hx0 hx5
        refine mix_run 9 (by kernel_rfl) ?_
        simp only [segOf, pickOps, pickOp]
        go_wp2_with fail
        rw [← hW3]
        clear hW3 hk2 hk3
        refine MixPost.normal (HFF.out _ HO3.out) ?_
        refine mix_done (by kernel_rfl) ?_
        go_wp2
        go_ret
        refine ⟨ret_bool (by rw [HPB.out]; rfl), ?_⟩
        rw [HPY.out, HAY.out]
        exact CaStep.next HO5.out HG4.out ⟨_, HQ3.out, HO3.out.mono (by simp [ownL, Value.ownBlock]), Grow.refl _ _⟩
      · have HAN := Lib.hid (addL_no (n := n) hit)
        rw [spotI_no hit]
        have hrm := cRoom_any g n v1 l1 w5 HC5.out
        have HLEN0 := Lib.hid (roomL_len (n := n) (l := l1) HC5.out.n1 HC5.out.len).1
        obtain ⟨l, hl⟩ : ∃ l, l = roomL n l1 := ⟨_, rfl⟩
        rw [← hl] at hrm HAN HLEN0
        have HLEN := HLEN0
        clear hl hit HLEN0
        go_wp2_with fail
        refine hrm.mono ?_
        rintro r w6 ⟨rfl, v6, hc6, ho6, hg6⟩
        have HC6 := Lib.hid hc6
        have HO6 : Hid (Only (g :: ownL v) w w6) := HO5.out.next ho6 (fun x hx => by
          rcases List.mem_cons.1 hx with h1 | h1
          · exact .inl (by simp [h1])
          · rcases HG4.out x h1 with h2 | h2
            · exact .inl (by simp [h2])
            · exact .inr h2)
        have HG6 : Hid (Grow w.heap.size v v6) := HG4.out.trans hg6 HO5.out.size
        have HX6 : Hid (EnBox w6 B1 e) := HX5.out.only ho6 HB4.out
        have HB6 : Hid (B1 ∉ g :: ownL v6) := by
          show _ ∉ _
          intro hm
          rcases List.mem_cons.1 hm with h1 | h1
          · exact HB4.out (by simp [h1])
          · rcases hg6 _ h1 with h2 | h2
            · exact HB4.out (by simp [h2])
            · have := HX5.out.lt; omega
        clear hrm hc6 ho6 hg6
        obtain ⟨A, cap, hv6, hlc, hcm⟩ := HC6.out.row.slice
        obtain ⟨N, hN⟩ : ∃ N, N = l.length := ⟨_, rfl⟩
        have HN := Lib.hid hN
        rw [← hN] at hv6 hlc
        unfold maxLen at hcm
        clear hN
        subst hv6
        obtain ⟨W0, hW0⟩ : ∃ W0, W0 = w6.drew := ⟨_, rfl⟩
        have HO0 : Hid (Only [] w6 W0) := by show Only _ _ _; rw [hW0]; exact (Only.refl _ _).drew
        have HQ0 := Lib.hid (HC6.out.old HO0.out)
        obtain ⟨W1, hW1⟩ : ∃ W1, W1 = W0.alloc (.cells #[.string e.k.o, .string e.k.u, .bool e.k.c, .string e.m, .string e.h, .int .u64 (e.t : Int)] 64) := ⟨_, rfl⟩
        obtain ⟨C1, hC1⟩ : ∃ C1, C1 = W0.heap.size := ⟨_, rfl⟩
        have HO1 : Hid (Only [] w6 W1) := by show Only _ _ _; rw [hW1]; exact HO0.out.alloc _
        have HN1 : Hid (EnBox W1 C1 e) := by show EnBox _ _ _; rw [hW1, hC1]; exact EnBox.new _ _ _
        have HS1 : Hid (w6.heap.size ≤ W1.heap.size) := HO1.out.size
        have HQ1 := Lib.hid (HC6.out.old HO1.out)
        have hgl0 := HQ0.out.lt
        have hgl1 := HQ1.out.lt
        obtain ⟨F, hF⟩ : ∃ F : World → Prop, ∀ W, F W ↔ EnBox W B1 e := ⟨_, fun _ => Iff.rfl⟩
        have hx0 : ∀ p : Held F, p.w.cell? ⟨B1, 0, none⟩ = some (.string e.k.o) := fun p => ((hF _).1 p.h).c0
        have hx1 : ∀ p : Held F, p.w.cell? ⟨B1, 1, none⟩ = some (.string e.k.u) := fun p => ((hF _).1 p.h).c1
        have hx2 : ∀ p : Held F, p.w.cell? ⟨B1, 2, none⟩ = some (.bool e.k.c) := fun p => ((hF _).1 p.h).c2
        have hx3 : ∀ p : Held F, p.w.cell? ⟨B1, 3, none⟩ = some (.string e.m) := fun p => ((hF _).1 p.h).c3
        have hx4 : ∀ p : Held F, p.w.cell? ⟨B1, 4, none⟩ = some (.string e.h) := fun p => ((hF _).1 p.h).c4
        have hx5 : ∀ p : Held F, p.w.cell? ⟨B1, 5, none⟩ = some (.int .u64 (e.t : Int)) := fun p => ((hF _).1 p.h).c5
        have HFF : Hid (∀ W', Only (g :: ownL (.slice A N cap)) w6 W' → F W') := by
          show ∀ W', _
          intro W' ho
          exact (hF _).2 (HX6.out.only ho HB6.out)
        clear hF
        go_wp2_with fail
        refine mix_start F (by kernel_rfl) ?_
        rw [← hW0]
        clear hW0
        refine mix_seg [0, 1, 2, 3, 5] (by kernel_rfl) (HFF.out _ (HO0.out.mono (by simp))) ?_
        simp only [segOf, pickOps, pickOp]
        repeat (go_big_quiet_step (rfl))
        refine wpQuiet_nil ?_
        clear hx0 hx1 hx2 hx3 hx4 hx5
        refine mix_several [4, 6] (by kernel_rfl) ?_
        intro i1 hi1
        simp only [List.mem_cons, List.not_mem_nil, or_false] at hi1
        rcases hi1 with rfl | rfl
        · simp only [segOf, pickOps, pickOp]
          have hk0 := HQ0.out.c1
          go_wp2_with fail
          refine MixPost.normal (HFF.out _ (HO0.out.mono (by simp))) ?_
          clear hk0
          refine mix_run 6 (by kernel_rfl) ?_
          simp only [segOf, pickOps, pickOp]
          go_wp2_with fail
          rw [← hW1, ← hC1]
          clear hW1 hC1
          refine MixPost.normal (HFF.out _ (HO1.out.mono (by simp))) ?_
          refine mix_run 7 (by kernel_rfl) ?_
          simp only [segOf, pickOps, pickOp]
          refine wpList_append_ent rfl (.tmp 43) (.tmp 45) rfl _ l rfl HQ1.out.row C1 e rfl HN1.out (by have := HC6.out.len; have := HC6.out.n2; omega) ?_
          intro g2 cap2 w2 hr2 ho2 hg2
          obtain ⟨v8, hv8⟩ : ∃ v8, v8 = Value.slice (some ⟨g2, 0, none⟩) (l.length + 1) cap2 := ⟨_, rfl⟩
          have HG8 : Hid (Grow w6.heap.size (.slice A N cap) v8) := by
            show Grow _ _ _
            intro z hz
            rw [hv8, ownL, Value.ownBlock] at hz
            simp at hz
            subst hz
            rcases hg2.out with h1 | h1
            · exact .inl h1
            · right; have := HS1.out; omega
          have HO2 : Hid (Only (ownL (.slice A N cap)) w6 w2) := (HO1.out.mono (by simp)).trans ho2.out
          have hk2 := (HO2.out.cell (p := ⟨g, 1, none⟩) HC6.out.lt HC6.out.ne).trans HC6.out.c1
          have hk3 := (HO2.out.frozen (p := ⟨g, 1, none⟩) HC6.out.lt HC6.out.ne).trans HC6.out.z1
          have hk4 : g < w2.heap.size := Nat.lt_of_lt_of_le HC6.out.lt HO2.out.size
          obtain ⟨W3, hW3⟩ : ∃ W3, W3 = w2.setCell ⟨g, 1, none⟩ v8 := ⟨_, rfl⟩
          have HO3 : Hid (Only (g :: ownL (.slice A N cap)) w6 W3) := by
            show Only _ _ _
            rw [hW3]; exact (HO2.out.mono (by intro z hz; exact List.mem_cons_of_mem _ hz)).setCell (p := ⟨g, 1, none⟩) (by simp) _
          have HQ3 : Hid (CaAt W3 g n v8 (l ++ [e])) := by
            show CaAt _ _ _ _ _
            rw [hW3]
            exact HC6.out.turn HO2.out (by rw [hv8]; exact hr2.out) HG8.out (by rw [List.length_append]; have := HLEN.out; simp; omega)
          have HF2 : Hid (F w2) := HFF.out _ (HO2.out.mono (by intro z hz; exact List.mem_cons_of_mem _ hz))
          have HF3 : Hid (F W3) := HFF.out _ HO3.out
          rw [hv8] at hW3
          go_wp2_with fail
          refine MixPost.normal HF2.out ?_
          refine mix_seg [8, 9] (by kernel_rfl) HF2.out ?_
          simp only [segOf, pickOps, pickOp]
          repeat (go_big_quiet_step (rfl))
          refine wpQuiet_nil ?_
          refine mix_run 10 (by kernel_rfl) ?_
          simp only [segOf, pickOps, pickOp]
          go_wp2_with fail
          rw [← hW3]
          clear hW3 hk2 hk3 hk4
          refine MixPost.normal HF3.out ?_
          refine mix_done (by kernel_rfl) ?_
          go_wp2
          go_ret
          refine ⟨ret_bool (by rw [HPB.out]; rfl), ?_⟩
          rw [HPY.out, HAN.out]
          exact CaStep.next HO6.out HG6.out ⟨v8, HQ3.out, HO3.out, HG8.out⟩
        · simp only [segOf, pickOps, pickOp]
          go_wp2_with fail
          rw [← hW1, ← hC1]
          clear hW1 hC1
          refine MixPost.normal (HFF.out _ (HO1.out.mono (by simp))) ?_
          refine mix_run 4 (by kernel_rfl) ?_
          simp only [segOf, pickOps, pickOp]
          have hk0 := HQ1.out.c1
          go_wp2_with fail
          refine MixPost.normal (HFF.out _ (HO1.out.mono (by simp))) ?_
          clear hk0
          refine mix_run 7 (by kernel_rfl) ?_
          simp only [segOf, pickOps, pickOp]
          refine wpList_append_ent rfl (.tmp 43) (.tmp 45) rfl _ l rfl HQ1.out.row C1 e rfl HN1.out (by have := HC6.out.len; have := HC6.out.n2; omega) ?_
          intro g2 cap2 w2 hr2 ho2 hg2
          obtain ⟨v8, hv8⟩ : ∃ v8, v8 = Value.slice (some ⟨g2, 0, none⟩) (l.length + 1) cap2 := ⟨_, rfl⟩
          have HG8 : Hid (Grow w6.heap.size (.slice A N cap) v8) := by
            show Grow _ _ _
            intro z hz
            rw [hv8, ownL, Value.ownBlock] at hz
            simp at hz
            subst hz
            rcases hg2.out with h1 | h1
            · exact .inl h1
            · right; have := HS1.out; omega
          have HO2 : Hid (Only (ownL (.slice A N cap)) w6 w2) := (HO1.out.mono (by simp)).trans ho2.out
          have hk2 := (HO2.out.cell (p := ⟨g, 1, none⟩) HC6.out.lt HC6.out.ne).trans HC6.out.c1
          have hk3 := (HO2.out.frozen (p := ⟨g, 1, none⟩) HC6.out.lt HC6.out.ne).trans HC6.out.z1
          have hk4 : g < w2.heap.size := Nat.lt_of_lt_of_le HC6.out.lt HO2.out.size
          obtain ⟨W3, hW3⟩ : ∃ W3, W3 = w2.setCell ⟨g, 1, none⟩ v8 := ⟨_, rfl⟩
          have HO3 : Hid (Only (g :: ownL (.slice A N cap)) w6 W3) := by
            show Only _ _ _
            rw [hW3]; exact (HO2.out.mono (by intro z hz; exact List.mem_cons_of_mem _ hz)).setCell (p := ⟨g, 1, none⟩) (by simp) _
          have HQ3 : Hid (CaAt W3 g n v8 (l ++ [e])) := by
            show CaAt _ _ _ _ _
            rw [hW3]
            exact HC6.out.turn HO2.out (by rw [hv8]; exact hr2.out) HG8.out (by rw [List.length_append]; have := HLEN.out; simp; omega)
          have HF2 : Hid (F w2) := HFF.out _ (HO2.out.mono (by intro z hz; exact List.mem_cons_of_mem _ hz))
          have HF3 : Hid (F W3) := HFF.out _ HO3.out
          rw [hv8] at hW3
          go_wp2_with fail
          refine MixPost.normal HF2.out ?_
          refine mix_seg [8, 9] (by kernel_rfl) HF2.out ?_
          simp only [segOf, pickOps, pickOp]
          repeat (go_big_quiet_step (rfl))
          refine wpQuiet_nil ?_
          refine mix_run 10 (by kernel_rfl) ?_
          simp only [segOf, pickOps, pickOp]
          go_wp2_with fail
          rw [← hW3]
          clear hW3 hk2 hk3 hk4
          refine MixPost.normal HF3.out ?_
          refine mix_done (by kernel_rfl) ?_
          go_wp2
          go_ret
          refine ⟨ret_bool (by rw [HPB.out]; rfl), ?_⟩
          rw [HPY.out, HAN.out]
          exact CaStep.next HO6.out HG6.out ⟨v8, HQ3.out, HO3.out, HG8.out⟩
end Go.Proofs.YtlkneapidmdpbaaGreatDoor
