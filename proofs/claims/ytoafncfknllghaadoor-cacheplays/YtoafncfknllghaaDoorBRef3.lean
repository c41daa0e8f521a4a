/-
  The contract of the document's own Put over this seat's program. Conditions: the cache lies there.
-/
import Derived.Test.YtoafncfknllghaaDoorBRef2
import Derived.Test.YtoafncfknllghaaDoorBPut
import Derived.Deep.CutRange
namespace Go.Proofs.YtoafncfknllghaaDoor
open Go.RowKit

theorem EnRow.partTake {w : World} {gi n cap k : Nat} {l : List En} (h : EnRow w (.slice (some ⟨gi, 0, none⟩) n cap) l) (hn : n = l.length) (hk : k ≤ n) : PartAt eE w (.slice (some ⟨gi, 0, none⟩) k cap) (l.take k) := by
  subst hn; exact ERow.partTake h hk
theorem EnRow.partDrop {w : World} {gi n cap k : Nat} {A : Addr} {l : List En} (h : EnRow w (.slice (some ⟨gi, 0, none⟩) n cap) l) (hn : n = l.length) (hk : k ≤ n) (hA : (if cap = k then (some (⟨gi, 0, none⟩ : Addr)) else some ⟨gi, k * 6, none⟩) = some A) : PartAt eE w (.slice (some A) (n - k) (cap - k)) (l.drop k) := by
  subst hn; exact ERow.partDrop h hk hA

set_option maxRecDepth 20000 in
set_option maxHeartbeats 16000000 in
theorem mPut_any (g n : Nat) (v : Value) (l0 : List En) (e : En) (t : Nat) (w : World) (h : CaAt w g n v l0) :
    Calls Tryd.prog 12 #[.pointer (some ⟨g, 0, none⟩), entV e, .int .u64 (t : Int)] w fun r w' => r = .returned (.bool (putB e t)) ∧ CaStep w w' g n v (putL n e t l0) := by
  obtain ⟨w1, hw1⟩ : ∃ w1, w1 = w.alloc (.cells #[.string e.k.o, .string e.k.u, .bool e.k.c, .string e.m, .string e.h, .int .u64 (e.t : Int)] 34) := ⟨_, rfl⟩
  obtain ⟨B1, hB1⟩ : ∃ B1, B1 = w.heap.size := ⟨_, rfl⟩
  have HO1 : Hid (Only [] w w1) := by show Only _ _ _; rw [hw1]; exact (Only.refl _ _).alloc _
  have HX1 : Hid (EnBox w1 B1 e) := by show EnBox _ _ _; rw [hw1, hB1]; exact EnBox.new _ _ _
  have HBL : Hid (B1 = w.heap.size) := hB1
  have HBN : Hid (B1 ∉ g :: ownL v) := by show _ ∉ _; intro hm; have := h.own hm; omega
  have HH := Lib.hid h
  obtain ⟨z1, hz1⟩ : ∃ z1, z1 = noB e.m := ⟨_, rfl⟩
  obtain ⟨z2, hz2⟩ : ∃ z2, z2 = noB e.h := ⟨_, rfl⟩
  obtain ⟨z3, hz3⟩ : ∃ z3, z3 = decide (e.t ≤ t) := ⟨_, rfl⟩
  have HPB : Hid (putB e t = ((z1 != z2) && !z3)) := by show _ = _; rw [hz1, hz2, hz3]; rfl
  have y1 := noB_lit e.m
  have y2 := noB_lit e.h
  rw [← hz1] at y1
  rw [← hz2] at y2
  have y3 : decide (e.t ≤ t) = z3 := hz3.symm
  simp only [entV]
  clear h hz1 hz2 hz3
  have hrun : z1 ≠ z2 → z3 = false → Calls Tryd.prog 12 #[.pointer (some ⟨g, 0, none⟩), .agg #[.string e.k.o, .string e.k.u, .bool e.k.c, .string e.m, .string e.h, .int .u64 (e.t : Int)], .int .u64 (t : Int)] w fun r w' => r = .returned (.bool (putB e t)) ∧ CaStep w w' g n v (putL n e t l0) := by
    intro hne hz
    have HPB2 : Hid (putB e t = true) := by show _ = _; rw [HPB.out, hz]; simpa using hne
    have HPY := Lib.hid (putL_yes (n := n) (l := l0) HPB2.out)
    have hsw := mSweep_any g n v l0 t w1 (HH.out.old HO1.out)
    obtain ⟨l1, hl1⟩ : ∃ l1, l1 = sweepL t l0 := ⟨_, rfl⟩
    rw [← hl1] at hsw HPY
    have hzz : (z1 == z2) = false := by simpa using hne
    subst hz
    clear hne
    go_enter Tryd.func12, Tryd.ntmps12
    go_wp2_with fail
    rw [← hw1, ← hB1]
    clear hw1 hB1
    refine hsw.mono ?_
    rintro r w4 ⟨rfl, v1, hc4, ho4, hg4⟩
    have HC4 := Lib.hid hc4
    have HO4 : Hid (Only (g :: ownL v) w w4) := (HO1.out.mono (by simp)).trans ho4
    have HG4 : Hid (Grow w.heap.size v v1) := by show Grow _ _ _; intro x hx; rcases hg4 x hx with h1 | h1; exact .inl h1; right; have := HO1.out.size; omega
    have HX4 : Hid (EnBox w4 B1 e) := HX1.out.only ho4 HBN.out
    have HB4 : Hid (B1 ∉ g :: ownL v1) := by
      show _ ∉ _
      intro hm
      rcases List.mem_cons.1 hm with h1 | h1
      · exact HBN.out (by simp [h1])
      · rcases hg4 _ h1 with h2 | h2
        · exact HBN.out (by simp [h2])
        · have := HX1.out.lt; omega
    clear hsw hc4 ho4 hg4 hl1 y1 y2 y3 hzz
    obtain ⟨l, hl⟩ : ∃ l, l = l1 := ⟨_, rfl⟩
    subst hl
    obtain ⟨A, cap, hv1, hlc, hcm⟩ := HC4.out.row.slice
    obtain ⟨N, hN⟩ : ∃ N, N = l.length := ⟨_, rfl⟩
    have HN := Lib.hid hN
    rw [← hN] at hv1 hlc
    unfold maxLen at hcm
    have HLL : Hid (N ≤ n ∧ n ≤ 64 ∧ 1 ≤ n ∧ N = l.length) := by show _ ∧ _; have h1 := HC4.out.len; have h2 := HC4.out.n2; have h3 := HC4.out.n1; exact ⟨by omega, h2, h3, hN⟩
    clear hN
    subst hv1
    go_wp2_with fail
    go_loopw [7] (fun i wr => ∃ k : Nat, k ≤ N ∧ i = .int .i64 k ∧ Only [] w4 wr ∧ ∀ j, j < k → sameB e (nthE l j) = false) (fun i _ => N - (intOf i).toNat)
    case atStart => exact ⟨0, Nat.zero_le _, rfl, Only.refl _ _, fun j hj => by omega⟩
    case round =>
      obtain ⟨k, hk, rfl, ho, hn⟩ := hrel
      have HO := Lib.hid ho
      have HM := Lib.hid hn
      clear ho hn
      have HA := Lib.hid (HC4.out.old HO.out)
      have hc1 := HA.out.c1
      have hg1 := HA.out.lt
      by_cases hlt : k < N
      · obtain ⟨gi, cap2, hv2, hgi, _, _⟩ := HA.out.row.some_ (by have := HN.out; omega)
        rw [← HN.out] at hv2
        obtain ⟨rfl, rfl⟩ : A = some ⟨gi, 0, none⟩ ∧ cap = cap2 := by
          injection hv2 with e1 e2 e3
          exact ⟨e1, e3⟩
        obtain ⟨f0, f1, f2, f3, f4, f5⟩ := HA.out.row.el (l := l) HN.out (k := k) (by rw [← HN.out]; exact hlt)
        obtain ⟨x, hx⟩ : ∃ x, x = nthE l k := ⟨_, rfl⟩
        rw [← hx] at f0 f1 f2 f3 f4 f5
        have HXX := Lib.hid hx
        clear hv2 hx
        have HXB := Lib.hid (HX4.out.old HO.out)
        obtain ⟨d0, d1, d2, d3, d4, d5⟩ := HXB.out
        obtain ⟨q1, hq1⟩ : ∃ q1, q1 = cellB x.k e.k := ⟨_, rfl⟩
        obtain ⟨q2, hq2⟩ : ∃ q2, q2 = tB x.m e.m := ⟨_, rfl⟩
        obtain ⟨q3, hq3⟩ : ∃ q3, q3 = tB x.h e.h := ⟨_, rfl⟩
        have HE : Hid (sameB e x = (q1 && q2 && q3)) := by show _ = _; rw [hq1, hq2, hq3]; rfl
        have hcmp : ∀ W, (binOp .eql 24 (.agg #[.string x.k.o, .string x.k.u, .bool x.k.c]) (.agg #[.string e.k.o, .string e.k.u, .bool e.k.c])).run Tryd.prog W = .ok (.bool q1) W := fun W => by rw [eqlE_cell, hq1]
        have h2 : (x.m.toList == e.m.toList) = q2 := hq2.symm
        have h3 : (x.h.toList == e.h.toList) = q3 := hq3.symm
        clear hq1 hq2 hq3
        cases q1 with
        | false =>
          have HS : Hid (sameB e x = false) := by show _ = _; rw [HE.out]; rfl
          clear HE
          go_wp2_with fail
          go_quiet (rfl)
          clear f0 f1 f2 f3 f4 f5 d0 d1 d2 d3 d4 d5 hcmp h2 h3 hc1
          go_wp2
          go_roundw
          case rel =>
            refine ⟨k + 1, by omega, by go_num, HO.out.drewN _, fun j hj => ?_⟩
            by_cases hjk : j = k
            · subst hjk; rw [← HXX.out]; exact HS.out
            · exact HM.out j (by omega)
          case measure => simp [intOf]; omega
        | true =>
          cases q2 with
          | false =>
            have HS : Hid (sameB e x = false) := by show _ = _; rw [HE.out]; rfl
            clear HE
            go_wp2_with fail
            go_quiet (rfl)
            clear f0 f1 f2 f3 f4 f5 d0 d1 d2 d3 d4 d5 hcmp h2 h3 hc1
            go_wp2
            go_roundw
            case rel =>
              refine ⟨k + 1, by omega, by go_num, HO.out.drewN _, fun j hj => ?_⟩
              by_cases hjk : j = k
              · subst hjk; rw [← HXX.out]; exact HS.out
              · exact HM.out j (by omega)
            case measure => simp [intOf]; omega
          | true =>
            cases q3 with
            | false =>
              have HS : Hid (sameB e x = false) := by show _ = _; rw [HE.out]; rfl
              clear HE
              go_wp2_with fail
              go_quiet (rfl)
              clear f0 f1 f2 f3 f4 f5 d0 d1 d2 d3 d4 d5 hcmp h2 h3 hc1
              go_wp2
              go_roundw
              case rel =>
                refine ⟨k + 1, by omega, by go_num, HO.out.drewN _, fun j hj => ?_⟩
                by_cases hjk : j = k
                · subst hjk; rw [← HXX.out]; exact HS.out
                · exact HM.out j (by omega)
              case measure => simp [intOf]; omega
            | true =>
              have HPN : Hid (k < N) := hlt
              have HFI : Hid (l.findIdx (sameB e) = k) := by
                refine spot_first (by rw [← HN.out]; exact hlt) ?_ HM.out
                rw [← HXX.out, HE.out]; rfl
              go_wp2_with fail
              go_quiet (rfl)
              obtain ⟨W9, hW9⟩ : ∃ W9, W9 = wr.drewN nq := ⟨_, rfl⟩
              have HO9 : Hid (Only [] w4 W9) := by show Only _ _ _; rw [hW9]; exact HO.out.drewN _
              rw [← hW9]
              clear hW9 f0 f1 f2 f3 f4 f5 d0 d1 d2 d3 d4 d5 hcmp h2 h3 hc1 hg1
              have HP9 := Lib.hid (HC4.out.old HO9.out)
              have HX9 := Lib.hid (HX4.out.old HO9.out)
              obtain ⟨p, hp⟩ : ∃ p, p = k := ⟨_, rfl⟩
              subst hp
              have HAY := Lib.hid (addL_yes (n := n) (l := l) (e := e) (by rw [HFI.out, ← HN.out]; exact hlt))
              rw [HFI.out] at HAY
              obtain ⟨W0, hW0⟩ : ∃ W0, W0 = W9.drew := ⟨_, rfl⟩
              have HO0 : Hid (Only [] W9 W0) := by show Only _ _ _; rw [hW0]; exact (Only.refl _ _).drew
              have HQ0 := Lib.hid (HP9.out.old HO0.out)
              obtain ⟨F, hF⟩ : ∃ F : World → Prop, ∀ W, F W ↔ (W.cell? ⟨g, 1, none⟩ = some (.slice (some ⟨gi, 0, none⟩) N cap) ∧ W.cell? ⟨B1, 5, none⟩ = some (.int .u64 (e.t : Int))) := ⟨_, fun _ => Iff.rfl⟩
              have hx0 : ∀ p : Held F, p.w.cell? ⟨g, 1, none⟩ = some (.slice (some ⟨gi, 0, none⟩) N cap) := fun p => ((hF _).1 p.h).1
              have hx5 : ∀ p : Held F, p.w.cell? ⟨B1, 5, none⟩ = some (.int .u64 (e.t : Int)) := fun p => ((hF _).1 p.h).2
              have HFF : Hid (∀ W', Only [gi] W9 W' → F W') := by
                show ∀ W', _
                intro W' ho
                refine (hF _).2 ⟨(ho.cell (p := ⟨g, 1, none⟩) HP9.out.lt (by have := HP9.out.ne; simpa [ownL, Value.ownBlock] using this)).trans HP9.out.c1, (HX9.out.only ho ?_).c5⟩
                have := HB4.out
                simp [ownL, Value.ownBlock] at this
                simp; exact this.2
              clear hF
              obtain ⟨W3, hW3⟩ : ∃ W3, W3 = W0.setCell ⟨gi, p * 6 + 5, none⟩ (.int .u64 (e.t : Int)) := ⟨_, rfl⟩
              have HO3 : Hid (Only [gi] W9 W3) := by show Only _ _ _; rw [hW3]; exact (HO0.out.mono (by simp)).setCell (p := ⟨gi, p * 6 + 5, none⟩) (by simp) _
              have HQ3 : Hid (CaAt W3 g n (.slice (some ⟨gi, 0, none⟩) N cap) (l.set p (timed (nthE l p) e.t))) := by
                show CaAt _ _ _ _ _
                refine HP9.out.rowTurn (by simpa [ownL, Value.ownBlock] using HO3.out) ?_ (by rw [List.length_set]; exact HP9.out.len)
                rw [hW3]
                exact EnRow.stamp HQ0.out.row HN.out (by rw [← HN.out]; exact HPN.out) e.t
              have hk1 := ERow.isC HQ0.out.row HN.out (p * 6 + 5) (by show _ < N * 6; have := HPN.out; omega)
              obtain ⟨hk2, hk3⟩ := hk1
              obtain ⟨u, hk2⟩ := Option.isSome_iff_exists.1 hk2
              have hgl0 : gi < W0.heap.size := block_of_cell (a := ⟨gi, p * 6 + 5, none⟩) hk2
              have hpn := HPN.out
              go_wp2_with fail
              refine mix_start F (by kernel_rfl) ?_
              rw [← hW0]
              clear hW0
              refine mix_seg [0, 1, 2, 3, 4, 5, 6, 7, 8] (by kernel_rfl) (HFF.out _ (HO0.out.mono (by simp))) ?_
              simp only [segOf, pickOps, pickOp]
              repeat (go_big_quiet_step (rfl))
              refine wpQuiet_nil ?_
              clear hx0 hx5
              refine mix_run 9 (by kernel_rfl) ?_
              simp only [segOf, pickOps, pickOp]
              go_wp2_with fail
              rw [← hW3]
              clear hW3 hk2 hk3
              refine MixPost.normal (HFF.out _ HO3.out) ?_
              refine mix_done (by kernel_rfl) ?_
              go_wp2
              go_ret
              refine ⟨ret_bool (by rw [HPB2.out]), ?_⟩
              rw [HPY.out, HAY.out]
              exact CaStep.next (HO4.out.trans (HO9.out.mono (by simp))) HG4.out ⟨_, HQ3.out, HO3.out.mono (by simp [ownL, Value.ownBlock]), fun x hx => .inl hx⟩
      · obtain rfl : k = N := by omega
        have HAN : Hid (addL n e l = roomL n l ++ [e]) := by
          refine addL_no ?_
          intro hh
          have h1 := spot_hit hh
          rw [HM.out _ (by rw [HN.out]; exact hh)] at h1
          cases h1
        obtain ⟨b, hb⟩ : ∃ b, b = decide (n ≤ k) := ⟨_, rfl⟩
        have hd : decide (n ≤ k) = b := hb.symm
        have HBB := Lib.hid hb
        have hc0 := HA.out.c0
        clear hb
        go_wp2_with fail
        go_quiet (rfl)
        obtain ⟨W9, hW9⟩ : ∃ W9, W9 = wr.drewN nq := ⟨_, rfl⟩
        have HO9 : Hid (Only [] w4 W9) := by show Only _ _ _; rw [hW9]; exact HO.out.drewN _
        rw [← hW9]
        clear hW9 hd hc0 hc1 hg1
        have HP9 := Lib.hid (HC4.out.old HO9.out)
        have HX9 := Lib.hid (HX4.out.old HO9.out)
        go_upto_if 90 with fail
        go_cut [8, 9] from 91 to 135 (fun _ _ W' => ∃ v6, CaAt W' g n v6 (roomL n l) ∧ Only (g :: ownL (.slice A k cap)) W9 W' ∧ Grow W9.heap.size (.slice A k cap) v6)
        case first =>
          cases b with
          | false =>
            have HRM := Lib.hid (roomL_no (n := n) (l := l) (by rw [← HN.out]; have h1 := HBB.out; simpa using h1.symm))
            go_wp2_with fail
            go_meet
            case rel => exact ⟨_, by rw [HRM.out]; exact HP9.out, Only.refl _ _, Grow.refl _ _⟩
          | true =>
            have hfull : n ≤ k := by have h1 := HBB.out; simpa using h1.symm
            have HRM := Lib.hid (roomL_yes (n := n) (l := l) (by rw [← HN.out]; exact hfull))
            have hk1 : 1 ≤ k := by have := HLL.out; omega
            obtain ⟨gi, cap2, hv2, hgi, _, _⟩ := HP9.out.row.some_ (by have := HN.out; omega)
            rw [← HN.out] at hv2
            obtain ⟨rfl, rfl⟩ : A = some ⟨gi, 0, none⟩ ∧ cap = cap2 := by
              injection hv2 with e1 e2 e3
              exact ⟨e1, e3⟩
            clear hv2 hfull
            go_wp2_with fail
            go_loopw [8, 9] (fun pl i wr => ∃ j : Nat, 1 ≤ j ∧ j ≤ k ∧ i = .int .i64 j ∧ pl = .int .i64 ((leastI l j : Nat) : Int) ∧ Only [] W9 wr) (fun _ i _ => k - (intOf i).toNat)
            case atStart => exact ⟨1, by omega, hk1, rfl, by rw [leastI_one]; rfl, Only.refl _ _⟩
            case round =>
              obtain ⟨j, hj1, hjk, rfl, rfl, ho⟩ := hrel
              rename World => W8
              have HO8 := Lib.hid ho
              clear ho
              have HA8 := Lib.hid (HP9.out.old HO8.out)
              have hc1 := HA8.out.c1
              have hg1 := HA8.out.lt
              by_cases hlt : j < k
              · have hx5 := (HA8.out.row.el (l := l) HN.out (k := j) (by rw [← HN.out]; exact hlt)).c5
                have HPL : Hid (leastI l j < k) := by show _ < _; have := leastI_lt l (k := j) (by omega); omega
                have HLS : Hid (leastI l (j + 1) = if (nthE l j).t < (nthE l (leastI l j)).t then j else leastI l j) := rfl
                have hy5 := (HA8.out.row.el (l := l) HN.out (k := leastI l j) (by rw [← HN.out]; exact HPL.out)).c5
                obtain ⟨p, hp⟩ : ∃ p, p = leastI l j := ⟨_, rfl⟩
                rw [← hp] at HPL HLS hy5 ⊢
                clear hp
                have hpl := HPL.out
                generalize (nthE l j).t = xt at *
                generalize (nthE l p).t = yt at *
                by_cases hcmp : xt < yt
                · have hd : decide (xt < yt) = true := decide_eq_true hcmp
                  have HE : Hid (leastI l (j + 1) = j) := by show _ = _; rw [HLS.out, if_pos hcmp]
                  clear HLS hcmp
                  go_wp2_with fail
                  go_quiet (fail)
                  clear hx5 hy5 hc1 hd
                  go_wp2
                  go_roundw
                  case rel => exact ⟨j + 1, by omega, by omega, by go_num, by rw [HE.out], HO8.out.drewN _⟩
                  case measure => simp [intOf]; omega
                · have hd : decide (xt < yt) = false := decide_eq_false hcmp
                  have HE : Hid (leastI l (j + 1) = p) := by show _ = _; rw [HLS.out, if_neg hcmp]
                  clear HLS hcmp
                  go_wp2_with fail
                  go_quiet (fail)
                  clear hx5 hy5 hc1 hd
                  go_wp2
                  go_roundw
                  case rel => exact ⟨j + 1, by omega, by omega, by go_num, by rw [HE.out], HO8.out.drewN _⟩
                  case measure => simp [intOf]; omega
              · obtain rfl : j = k := by omega
                have HPL : Hid (leastI l j < j) := leastI_lt l (by omega)
                have HRM2 := HRM.out
                rw [← HN.out] at HRM2
                obtain ⟨p, hp⟩ : ∃ p, p = leastI l j := ⟨_, rfl⟩
                rw [← hp] at HPL HRM2 ⊢
                clear hp
                have HRM3 := Lib.hid HRM2
                have HPN := HPL
                have hpn := HPL.out
                clear HRM2
                obtain ⟨N, hNN⟩ : ∃ N, N = j := ⟨_, rfl⟩
                subst hNN
                go_upto_region 17 with fail
                clear hc1
                obtain ⟨W0, hW0⟩ : ∃ W0, W0 = W8.drew := ⟨_, rfl⟩
                have HO0 : Hid (Only [] W8 W0) := by show Only _ _ _; rw [hW0]; exact (Only.refl _ _).drew
                have HQ0 := Lib.hid (HA8.out.old HO0.out)
                have hkl1 : p + 1 ≤ N := HPN.out
                obtain ⟨A2, hA, HPD⟩ : ∃ A2 : Addr, (if cap = p + 1 then (some (⟨gi, 0, none⟩ : Addr)) else some ⟨gi, (p + 1) * 6, none⟩) = some A2 ∧ Hid (∀ W', EnRow W' (.slice (some ⟨gi, 0, none⟩) N cap) l → PartAt eE W' (.slice (some A2) (N - (p + 1)) (cap - (p + 1))) (l.drop (p + 1))) := by
                  by_cases hc : cap = p + 1
                  · exact ⟨⟨gi, 0, none⟩, by rw [if_pos hc], fun W' hW' => EnRow.partDrop hW' HN.out hkl1 (by rw [if_pos hc])⟩
                  · exact ⟨⟨gi, (p + 1) * 6, none⟩, by rw [if_neg hc], fun W' hW' => EnRow.partDrop hW' HN.out hkl1 (by rw [if_neg hc])⟩
                have hic : p ≤ cap := by omega
                have hkl : p ≤ N := by omega
                have hjc : p + 1 ≤ cap := by omega
                have hgl0 := HQ0.out.lt
                have hk0 := HQ0.out.c1
                go_wp2_with fail
                refine mix_start (fun _ => True) (by kernel_rfl) ?_
                rw [← hW0]
                clear hW0
                have hne : Nonempty (Held (fun _ => True)) := ⟨⟨W0, trivial⟩⟩
                refine mix_seg [0, 1, 2, 3, 5, 8, 9, 10, 12, 13] (by kernel_rfl) trivial ?_
                simp only [segOf, pickOps, pickOp]
                repeat (go_big_quiet_step (fail))
                refine wpQuiet_nil ?_
                refine mix_several [4, 11] (by kernel_rfl) ?_
                intro i1 hi1
                simp only [List.mem_cons, List.not_mem_nil, or_false] at hi1
                rcases hi1 with rfl | rfl
                · simp only [segOf, pickOps, pickOp]
                  go_wp2_with fail
                  refine MixPost.normal trivial ?_
                  refine mix_seg [6] (by kernel_rfl) trivial ?_
                  simp only [segOf, pickOps, pickOp]
                  repeat (go_big_quiet_step (fail))
                  refine wpQuiet_nil ?_
                  refine mix_several [7, 11] (by kernel_rfl) ?_
                  intro i1 hi1
                  simp only [List.mem_cons, List.not_mem_nil, or_false] at hi1
                  rcases hi1 with rfl | rfl
                  · simp only [segOf, pickOps, pickOp]
                    refine wpList_append_ents rfl (.const (.slice none 0 0)) (.tmp 124) rfl (.slice none 0 0) [] rfl EnRow.nil _ (l.take p) rfl (EnRow.partTake HQ0.out.row HN.out hkl) (by have := HLL.out; simp; omega) ?_
                    intro v1 w1 hr1 ho1 hg1
                    have HR1 : Hid (EnRow w1 v1 (l.take p)) := hr1.out
                    have HO1 : Hid (Only [] W0 w1) := ho1.out.mono (by intro z hz; simp [ownL, Value.ownBlock] at hz)
                    have HN1 : Hid (NewL W8.heap.size v1) := by show NewL _ _; intro z hz; have := HO0.out.size; rcases hg1.out z hz with h3 | h3; simp [ownL, Value.ownBlock] at h3; omega
                    have HQ1 := Lib.hid (HQ0.out.old HO1.out)
                    clear hr1 ho1 hg1
                    go_wp2_with fail
                    refine MixPost.normal trivial ?_
                    have hk1 := HQ1.out.c1
                    have hgl1 := HQ1.out.lt
                    clear hk0
                    refine mix_run 11 (by kernel_rfl) ?_
                    simp only [segOf, pickOps, pickOp]
                    go_wp2_with fail
                    refine MixPost.normal trivial ?_
                    clear hk1
                    refine mix_seg [14] (by kernel_rfl) trivial ?_
                    simp only [segOf, pickOps, pickOp]
                    repeat (go_big_quiet_step (fail))
                    refine wpQuiet_nil ?_
                    refine mix_run 15 (by kernel_rfl) ?_
                    simp only [segOf, pickOps, pickOp]
                    refine wpList_append_ents rfl (.tmp 125) (.tmp 132) rfl v1 (l.take p) rfl HR1.out (.slice (some A2) (N - (p + 1)) (cap - (p + 1))) (l.drop (p + 1)) (by simp [Act.eval]) (HPD.out w1 HQ1.out.row) (by have := HLL.out; rw [List.length_take, List.length_drop]; omega) ?_
                    intro v2 w2 hr2 ho2 hg2
                    have HR2 : Hid (EnRow w2 v2 (l.eraseIdx p)) := by show EnRow _ _ _; rw [List.eraseIdx_eq_take_drop_succ]; exact hr2.out
                    have HO2 : Hid (Only [] W8 w2) := (HO0.out.trans HO1.out).next ho2.out (fun z hz => .inr (HN1.out z hz))
                    have HN2 : Hid (NewL W8.heap.size v2) := by show NewL _ _; intro z hz; have := HO0.out.size; have := HO1.out.size; rcases hg2.out z hz with h3 | h3; exact HN1.out z h3; omega
                    clear hr2 ho2 hg2
                    obtain ⟨Av, capv, ev, _⟩ := HR2.out.slice
                    obtain ⟨nv, hnv⟩ : ∃ nv, nv = (l.eraseIdx p).length := ⟨_, rfl⟩
                    have HNV : Hid (nv ≤ n) := by show _ ≤ _; rw [hnv]; have := List.length_eraseIdx_le l p; have := HA8.out.len; omega
                    rw [← hnv] at ev
                    have HNE := Lib.hid hnv
                    clear hnv
                    subst ev
                    obtain ⟨W3, hW3⟩ : ∃ W3, W3 = w2.setCell ⟨g, 1, none⟩ (.slice Av nv capv) := ⟨_, rfl⟩
                    have HO3 : Hid (Only (g :: ownL (.slice (some ⟨gi, 0, none⟩) N cap)) W8 W3) := by show Only _ _ _; rw [hW3]; exact (HO2.out.mono (by simp)).setCell (p := ⟨g, 1, none⟩) (by simp) _
                    have HG3 : Hid (Grow W8.heap.size (.slice (some ⟨gi, 0, none⟩) N cap) (.slice Av nv capv)) := fun x hx => .inr (HN2.out x hx)
                    have HQ3 : Hid (CaAt W3 g n (.slice Av nv capv) (l.eraseIdx p)) := by
                      show CaAt _ _ _ _ _
                      rw [hW3]
                      exact HA8.out.turn (HO2.out.mono (by simp)) HR2.out HG3.out (by rw [← HNE.out]; exact HNV.out)
                    have HC2 := Lib.hid (HA8.out.old HO2.out)
                    have hk2 := HC2.out.c1
                    have hk3 := HC2.out.z1
                    have hk4 := HC2.out.lt
                    go_wp2_with fail
                    refine MixPost.normal trivial ?_
                    refine mix_seg [16, 17] (by kernel_rfl) trivial ?_
                    simp only [segOf, pickOps, pickOp]
                    repeat (go_big_quiet_step (rfl))
                    refine wpQuiet_nil ?_
                    refine mix_run 18 (by kernel_rfl) ?_
                    simp only [segOf, pickOps, pickOp]
                    go_wp2_with fail
                    rw [← hW3]
                    clear hW3 hk2 hk3 hk4
                    refine MixPost.normal trivial ?_
                    refine mix_done (by kernel_rfl) ?_
                    go_wp2_with fail
                    go_meet
                    case rel => exact ⟨_, by rw [HRM3.out]; exact HQ3.out, (HO8.out.mono (by simp)).trans HO3.out, fun x hx => by rcases HG3.out x hx with h1 | h1; exact .inl h1; right; have := HO8.out.size; omega⟩
                  · simp only [segOf, pickOps, pickOp]
                    go_wp2_with fail
                    refine MixPost.normal trivial ?_
                    clear hk0
                    refine mix_seg [14] (by kernel_rfl) trivial ?_
                    simp only [segOf, pickOps, pickOp]
                    repeat (go_big_quiet_step (fail))
                    refine wpQuiet_nil ?_
                    refine mix_run 7 (by kernel_rfl) ?_
                    simp only [segOf, pickOps, pickOp]
                    refine wpList_append_ents rfl (.const (.slice none 0 0)) (.tmp 124) rfl (.slice none 0 0) [] rfl EnRow.nil _ (l.take p) rfl (EnRow.partTake HQ0.out.row HN.out hkl) (by have := HLL.out; simp; omega) ?_
                    intro v1 w1 hr1 ho1 hg1
                    have HR1 : Hid (EnRow w1 v1 (l.take p)) := hr1.out
                    have HO1 : Hid (Only [] W0 w1) := ho1.out.mono (by intro z hz; simp [ownL, Value.ownBlock] at hz)
                    have HN1 : Hid (NewL W8.heap.size v1) := by show NewL _ _; intro z hz; have := HO0.out.size; rcases hg1.out z hz with h3 | h3; simp [ownL, Value.ownBlock] at h3; omega
                    have HQ1 := Lib.hid (HQ0.out.old HO1.out)
                    clear hr1 ho1 hg1
                    go_wp2_with fail
                    refine MixPost.normal trivial ?_
                    refine mix_run 15 (by kernel_rfl) ?_
                    simp only [segOf, pickOps, pickOp]
                    refine wpList_append_ents rfl (.tmp 125) (.tmp 132) rfl v1 (l.take p) rfl HR1.out (.slice (some A2) (N - (p + 1)) (cap - (p + 1))) (l.drop (p + 1)) (by simp [Act.eval]) (HPD.out w1 HQ1.out.row) (by have := HLL.out; rw [List.length_take, List.length_drop]; omega) ?_
                    intro v2 w2 hr2 ho2 hg2
                    have HR2 : Hid (EnRow w2 v2 (l.eraseIdx p)) := by show EnRow _ _ _; rw [List.eraseIdx_eq_take_drop_succ]; exact hr2.out
                    have HO2 : Hid (Only [] W8 w2) := (HO0.out.trans HO1.out).next ho2.out (fun z hz => .inr (HN1.out z hz))
                    have HN2 : Hid (NewL W8.heap.size v2) := by show NewL _ _; intro z hz; have := HO0.out.size; have := HO1.out.size; rcases hg2.out z hz with h3 | h3; exact HN1.out z h3; omega
                    clear hr2 ho2 hg2
                    obtain ⟨Av, capv, ev, _⟩ := HR2.out.slice
                    obtain ⟨nv, hnv⟩ : ∃ nv, nv = (l.eraseIdx p).length := ⟨_, rfl⟩
                    have HNV : Hid (nv ≤ n) := by show _ ≤ _; rw [hnv]; have := List.length_eraseIdx_le l p; have := HA8.out.len; omega
                    rw [← hnv] at ev
                    have HNE := Lib.hid hnv
                    clear hnv
                    subst ev
                    obtain ⟨W3, hW3⟩ : ∃ W3, W3 = w2.setCell ⟨g, 1, none⟩ (.slice Av nv capv) := ⟨_, rfl⟩
                    have HO3 : Hid (Only (g :: ownL (.slice (some ⟨gi, 0, none⟩) N cap)) W8 W3) := by show Only _ _ _; rw [hW3]; exact (HO2.out.mono (by simp)).setCell (p := ⟨g, 1, none⟩) (by simp) _
                    have HG3 : Hid (Grow W8.heap.size (.slice (some ⟨gi, 0, none⟩) N cap) (.slice Av nv capv)) := fun x hx => .inr (HN2.out x hx)
                    have HQ3 : Hid (CaAt W3 g n (.slice Av nv capv) (l.eraseIdx p)) := by
                      show CaAt _ _ _ _ _
                      rw [hW3]
                      exact HA8.out.turn (HO2.out.mono (by simp)) HR2.out HG3.out (by rw [← HNE.out]; exact HNV.out)
                    have HC2 := Lib.hid (HA8.out.old HO2.out)
                    have hk2 := HC2.out.c1
                    have hk3 := HC2.out.z1
                    have hk4 := HC2.out.lt
                    go_wp2_with fail
                    refine MixPost.normal trivial ?_
                    refine mix_seg [16, 17] (by kernel_rfl) trivial ?_
                    simp only [segOf, pickOps, pickOp]
                    repeat (go_big_quiet_step (rfl))
                    refine wpQuiet_nil ?_
                    refine mix_run 18 (by kernel_rfl) ?_
                    simp only [segOf, pickOps, pickOp]
                    go_wp2_with fail
                    rw [← hW3]
                    clear hW3 hk2 hk3 hk4
                    refine MixPost.normal trivial ?_
                    refine mix_done (by kernel_rfl) ?_
                    go_wp2_with fail
                    go_meet
                    case rel => exact ⟨_, by rw [HRM3.out]; exact HQ3.out, (HO8.out.mono (by simp)).trans HO3.out, fun x hx => by rcases HG3.out x hx with h1 | h1; exact .inl h1; right; have := HO8.out.size; omega⟩
                · simp only [segOf, pickOps, pickOp]
                  go_wp2_with fail
                  refine MixPost.normal trivial ?_
                  refine mix_seg [14] (by kernel_rfl) trivial ?_
                  simp only [segOf, pickOps, pickOp]
                  repeat (go_big_quiet_step (fail))
                  refine wpQuiet_nil ?_
                  refine mix_run 4 (by kernel_rfl) ?_
                  simp only [segOf, pickOps, pickOp]
                  go_wp2_with fail
                  refine MixPost.normal trivial ?_
                  clear hk0
                  refine mix_seg [6] (by kernel_rfl) trivial ?_
                  simp only [segOf, pickOps, pickOp]
                  repeat (go_big_quiet_step (fail))
                  refine wpQuiet_nil ?_
                  refine mix_run 7 (by kernel_rfl) ?_
                  simp only [segOf, pickOps, pickOp]
                  refine wpList_append_ents rfl (.const (.slice none 0 0)) (.tmp 124) rfl (.slice none 0 0) [] rfl EnRow.nil _ (l.take p) rfl (EnRow.partTake HQ0.out.row HN.out hkl) (by have := HLL.out; simp; omega) ?_
                  intro v1 w1 hr1 ho1 hg1
                  have HR1 : Hid (EnRow w1 v1 (l.take p)) := hr1.out
                  have HO1 : Hid (Only [] W0 w1) := ho1.out.mono (by intro z hz; simp [ownL, Value.ownBlock] at hz)
                  have HN1 : Hid (NewL W8.heap.size v1) := by show NewL _ _; intro z hz; have := HO0.out.size; rcases hg1.out z hz with h3 | h3; simp [ownL, Value.ownBlock] at h3; omega
                  have HQ1 := Lib.hid (HQ0.out.old HO1.out)
                  clear hr1 ho1 hg1
                  go_wp2_with fail
                  refine MixPost.normal trivial ?_
                  refine mix_run 15 (by kernel_rfl) ?_
                  simp only [segOf, pickOps, pickOp]
                  refine wpList_append_ents rfl (.tmp 125) (.tmp 132) rfl v1 (l.take p) rfl HR1.out (.slice (some A2) (N - (p + 1)) (cap - (p + 1))) (l.drop (p + 1)) (by simp [Act.eval]) (HPD.out w1 HQ1.out.row) (by have := HLL.out; rw [List.length_take, List.length_drop]; omega) ?_
                  intro v2 w2 hr2 ho2 hg2
                  have HR2 : Hid (EnRow w2 v2 (l.eraseIdx p)) := by show EnRow _ _ _; rw [List.eraseIdx_eq_take_drop_succ]; exact hr2.out
                  have HO2 : Hid (Only [] W8 w2) := (HO0.out.trans HO1.out).next ho2.out (fun z hz => .inr (HN1.out z hz))
                  have HN2 : Hid (NewL W8.heap.size v2) := by show NewL _ _; intro z hz; have := HO0.out.size; have := HO1.out.size; rcases hg2.out z hz with h3 | h3; exact HN1.out z h3; omega
                  clear hr2 ho2 hg2
                  obtain ⟨Av, capv, ev, _⟩ := HR2.out.slice
                  obtain ⟨nv, hnv⟩ : ∃ nv, nv = (l.eraseIdx p).length := ⟨_, rfl⟩
                  have HNV : Hid (nv ≤ n) := by show _ ≤ _; rw [hnv]; have := List.length_eraseIdx_le l p; have := HA8.out.len; omega
                  rw [← hnv] at ev
                  have HNE := Lib.hid hnv
                  clear hnv
                  subst ev
                  obtain ⟨W3, hW3⟩ : ∃ W3, W3 = w2.setCell ⟨g, 1, none⟩ (.slice Av nv capv) := ⟨_, rfl⟩
                  have HO3 : Hid (Only (g :: ownL (.slice (some ⟨gi, 0, none⟩) N cap)) W8 W3) := by show Only _ _ _; rw [hW3]; exact (HO2.out.mono (by simp)).setCell (p := ⟨g, 1, none⟩) (by simp) _
                  have HG3 : Hid (Grow W8.heap.size (.slice (some ⟨gi, 0, none⟩) N cap) (.slice Av nv capv)) := fun x hx => .inr (HN2.out x hx)
                  have HQ3 : Hid (CaAt W3 g n (.slice Av nv capv) (l.eraseIdx p)) := by
                    show CaAt _ _ _ _ _
                    rw [hW3]
                    exact HA8.out.turn (HO2.out.mono (by simp)) HR2.out HG3.out (by rw [← HNE.out]; exact HNV.out)
                  have HC2 := Lib.hid (HA8.out.old HO2.out)
                  have hk2 := HC2.out.c1
                  have hk3 := HC2.out.z1
                  have hk4 := HC2.out.lt
                  go_wp2_with fail
                  refine MixPost.normal trivial ?_
                  refine mix_seg [16, 17] (by kernel_rfl) trivial ?_
                  simp only [segOf, pickOps, pickOp]
                  repeat (go_big_quiet_step (rfl))
                  refine wpQuiet_nil ?_
                  refine mix_run 18 (by kernel_rfl) ?_
                  simp only [segOf, pickOps, pickOp]
                  go_wp2_with fail
                  rw [← hW3]
                  clear hW3 hk2 hk3 hk4
                  refine MixPost.normal trivial ?_
                  refine mix_done (by kernel_rfl) ?_
                  go_wp2_with fail
                  go_meet
                  case rel => exact ⟨_, by rw [HRM3.out]; exact HQ3.out, (HO8.out.mono (by simp)).trans HO3.out, fun x hx => by rcases HG3.out x hx with h1 | h1; exact .inl h1; right; have := HO8.out.size; omega⟩
        case rest =>
          obtain ⟨v6, hc6, ho6, hg6⟩ := hcut
          obtain ⟨w6, hw6⟩ : ∃ w6, w6 = wc := ⟨_, rfl⟩
          rw [← hw6] at hc6 ho6 ⊢
          clear hw6
          have HC6 := Lib.hid hc6
          have HO5 : Hid (Only (g :: ownL v) w W9) := HO4.out.trans (HO9.out.mono (by simp))
          have HO6 : Hid (Only (g :: ownL v) w w6) := HO5.out.next ho6 (fun x hx => by
            rcases List.mem_cons.1 hx with h1 | h1
            · exact .inl (by simp [h1])
            · rcases HG4.out x h1 with h2 | h2
              · exact .inl (by simp [h2])
              · exact .inr h2)
          have HG6 : Hid (Grow w.heap.size v v6) := HG4.out.trans hg6 HO5.out.size
          have HX6 : Hid (EnBox w6 B1 e) := HX9.out.only ho6 HB4.out
          have HB6 : Hid (B1 ∉ g :: ownL v6) := by
            show _ ∉ _
            intro hm
            rcases List.mem_cons.1 hm with h1 | h1
            · exact HB4.out (by simp [h1])
            · rcases hg6 _ h1 with h2 | h2
              · exact HB4.out (by simp [h2])
              · have := HX9.out.lt; omega
          have HLEN0 := Lib.hid (roomL_len (n := n) (l := l) HC4.out.n1 HC4.out.len).1
          obtain ⟨l6, hl⟩ : ∃ l6, l6 = roomL n l := ⟨_, rfl⟩
          rw [← hl] at HAN HLEN0 HC6
          have HLEN := HLEN0
          clear hl HLEN0 hc6 ho6 hg6 HN HLL HM hlc hcm
          obtain ⟨A6, cap6, hv6, hlc, hcm⟩ := HC6.out.row.slice
          obtain ⟨N, hN⟩ : ∃ N, N = l6.length := ⟨_, rfl⟩
          have HN := Lib.hid hN
          rw [← hN] at hv6 hlc
          unfold maxLen at hcm
          clear hN
          subst hv6
          obtain ⟨W0, hW0⟩ : ∃ W0, W0 = w6.drew := ⟨_, rfl⟩
          have HO0 : Hid (Only [] w6 W0) := by show Only _ _ _; rw [hW0]; exact (Only.refl _ _).drew
          have HQ0 := Lib.hid (HC6.out.old HO0.out)
          obtain ⟨W1, hW1⟩ : ∃ W1, W1 = W0.alloc (.cells #[.string e.k.o, .string e.k.u, .bool e.k.c, .string e.m, .string e.h, .int .u64 (e.t : Int)] 34) := ⟨_, rfl⟩
          obtain ⟨C1, hC1⟩ : ∃ C1, C1 = W0.heap.size := ⟨_, rfl⟩
          have HO1 : Hid (Only [] w6 W1) := by show Only _ _ _; rw [hW1]; exact HO0.out.alloc _
          have HN1 : Hid (EnBox W1 C1 e) := by show EnBox _ _ _; rw [hW1, hC1]; exact EnBox.new _ _ _
          have HS1 : Hid (w6.heap.size ≤ W1.heap.size) := HO1.out.size
          have HQ1 := Lib.hid (HC6.out.old HO1.out)
          have hgl0 := HQ0.out.lt
          have hgl1 := HQ1.out.lt
          obtain ⟨F, hF⟩ : ∃ F : World → Prop, ∀ W, F W ↔ EnBox W B1 e := ⟨_, fun _ => Iff.rfl⟩
          have hx0 : ∀ p : Held F, p.w.cell? ⟨B1, 0, none⟩ = some (.string e.k.o) := fun p => ((hF _).1 p.h).c0
          have hx1 : ∀ p : Held F, p.w.cell? ⟨B1, 1, none⟩ = some (.string e.k.u) := fun p => ((hF _).1 p.h).c1
          have hx2 : ∀ p : Held F, p.w.cell? ⟨B1, 2, none⟩ = some (.bool e.k.c) := fun p => ((hF _).1 p.h).c2
          have hx3 : ∀ p : Held F, p.w.cell? ⟨B1, 3, none⟩ = some (.string e.m) := fun p => ((hF _).1 p.h).c3
          have hx4 : ∀ p : Held F, p.w.cell? ⟨B1, 4, none⟩ = some (.string e.h) := fun p => ((hF _).1 p.h).c4
          have hx5 : ∀ p : Held F, p.w.cell? ⟨B1, 5, none⟩ = some (.int .u64 (e.t : Int)) := fun p => ((hF _).1 p.h).c5
          have HFF : Hid (∀ W', Only (g :: ownL (.slice A6 N cap6)) w6 W' → F W') := by
            show ∀ W', _
            intro W' ho
            exact (hF _).2 (HX6.out.only ho HB6.out)
          clear hF
          go_wp2_with fail
          refine mix_start F (by kernel_rfl) ?_
          rw [← hW0]
          clear hW0
          refine mix_seg [0, 1, 2, 3, 5] (by kernel_rfl) (HFF.out _ (HO0.out.mono (by simp))) ?_
          simp only [segOf, pickOps, pickOp]
          repeat (go_big_quiet_step (rfl))
          refine wpQuiet_nil ?_
          clear hx0 hx1 hx2 hx3 hx4 hx5
          refine mix_several [4, 6] (by kernel_rfl) ?_
          intro i1 hi1
          simp only [List.mem_cons, List.not_mem_nil, or_false] at hi1
          rcases hi1 with rfl | rfl
          · simp only [segOf, pickOps, pickOp]
            have hk0 := HQ0.out.c1
            go_wp2_with fail
            refine MixPost.normal (HFF.out _ (HO0.out.mono (by simp))) ?_
            clear hk0
            refine mix_run 6 (by kernel_rfl) ?_
            simp only [segOf, pickOps, pickOp]
            go_wp2_with fail
            rw [← hW1, ← hC1]
            clear hW1 hC1
            refine MixPost.normal (HFF.out _ (HO1.out.mono (by simp))) ?_
            refine mix_run 7 (by kernel_rfl) ?_
            simp only [segOf, pickOps, pickOp]
            refine wpList_append_ent rfl (.tmp 140) (.tmp 142) rfl _ l6 rfl HQ1.out.row C1 e rfl HN1.out (by have := HC6.out.len; have := HC6.out.n2; omega) ?_
            intro g2 cap2 w2 hr2 ho2 hg2
            obtain ⟨v8, hv8⟩ : ∃ v8, v8 = Value.slice (some ⟨g2, 0, none⟩) (l6.length + 1) cap2 := ⟨_, rfl⟩
            have HG8 : Hid (Grow w6.heap.size (.slice A6 N cap6) v8) := by
              show Grow _ _ _
              intro z hz
              rw [hv8, ownL, Value.ownBlock] at hz
              simp at hz
              subst hz
              rcases hg2.out with h1 | h1
              · exact .inl h1
              · right; have := HS1.out; omega
            have HO2 : Hid (Only (ownL (.slice A6 N cap6)) w6 w2) := (HO1.out.mono (by simp)).trans ho2.out
            have hk2 := (HO2.out.cell (p := ⟨g, 1, none⟩) HC6.out.lt HC6.out.ne).trans HC6.out.c1
            have hk3 := (HO2.out.frozen (p := ⟨g, 1, none⟩) HC6.out.lt HC6.out.ne).trans HC6.out.z1
            have hk4 : g < w2.heap.size := Nat.lt_of_lt_of_le HC6.out.lt HO2.out.size
            obtain ⟨W3, hW3⟩ : ∃ W3, W3 = w2.setCell ⟨g, 1, none⟩ v8 := ⟨_, rfl⟩
            have HO3 : Hid (Only (g :: ownL (.slice A6 N cap6)) w6 W3) := by
              show Only _ _ _
              rw [hW3]; exact (HO2.out.mono (by intro z hz; exact List.mem_cons_of_mem _ hz)).setCell (p := ⟨g, 1, none⟩) (by simp) _
            have HQ3 : Hid (CaAt W3 g n v8 (l6 ++ [e])) := by
              show CaAt _ _ _ _ _
              rw [hW3]
              exact HC6.out.turn HO2.out (by rw [hv8]; exact hr2.out) HG8.out (by rw [List.length_append]; have := HLEN.out; simp; omega)
            have HF2 : Hid (F w2) := HFF.out _ (HO2.out.mono (by intro z hz; exact List.mem_cons_of_mem _ hz))
            have HF3 : Hid (F W3) := HFF.out _ HO3.out
            rw [hv8] at hW3
            go_wp2_with fail
            refine MixPost.normal HF2.out ?_
            refine mix_seg [8, 9] (by kernel_rfl) HF2.out ?_
            simp only [segOf, pickOps, pickOp]
            repeat (go_big_quiet_step (rfl))
            refine wpQuiet_nil ?_
            refine mix_run 10 (by kernel_rfl) ?_
            simp only [segOf, pickOps, pickOp]
            go_wp2_with fail
            rw [← hW3]
            clear hW3 hk2 hk3 hk4
            refine MixPost.normal HF3.out ?_
            refine mix_done (by kernel_rfl) ?_
            go_wp2
            go_ret
            refine ⟨ret_bool (by rw [HPB2.out]), ?_⟩
            rw [HPY.out, HAN.out]
            exact CaStep.next HO6.out HG6.out ⟨v8, HQ3.out, HO3.out, HG8.out⟩
          · simp only [segOf, pickOps, pickOp]
            go_wp2_with fail
            rw [← hW1, ← hC1]
            clear hW1 hC1
            refine MixPost.normal (HFF.out _ (HO1.out.mono (by simp))) ?_
            refine mix_run 4 (by kernel_rfl) ?_
            simp only [segOf, pickOps, pickOp]
            have hk0 := HQ1.out.c1
            go_wp2_with fail
            refine MixPost.normal (HFF.out _ (HO1.out.mono (by simp))) ?_
            clear hk0
            refine mix_run 7 (by kernel_rfl) ?_
            simp only [segOf, pickOps, pickOp]
            refine wpList_append_ent rfl (.tmp 140) (.tmp 142) rfl _ l6 rfl HQ1.out.row C1 e rfl HN1.out (by have := HC6.out.len; have := HC6.out.n2; omega) ?_
            intro g2 cap2 w2 hr2 ho2 hg2
            obtain ⟨v8, hv8⟩ : ∃ v8, v8 = Value.slice (some ⟨g2, 0, none⟩) (l6.length + 1) cap2 := ⟨_, rfl⟩
            have HG8 : Hid (Grow w6.heap.size (.slice A6 N cap6) v8) := by
              show Grow _ _ _
              intro z hz
              rw [hv8, ownL, Value.ownBlock] at hz
              simp at hz
              subst hz
              rcases hg2.out with h1 | h1
              · exact .inl h1
              · right; have := HS1.out; omega
            have HO2 : Hid (Only (ownL (.slice A6 N cap6)) w6 w2) := (HO1.out.mono (by simp)).trans ho2.out
            have hk2 := (HO2.out.cell (p := ⟨g, 1, none⟩) HC6.out.lt HC6.out.ne).trans HC6.out.c1
            have hk3 := (HO2.out.frozen (p := ⟨g, 1, none⟩) HC6.out.lt HC6.out.ne).trans HC6.out.z1
            have hk4 : g < w2.heap.size := Nat.lt_of_lt_of_le HC6.out.lt HO2.out.size
            obtain ⟨W3, hW3⟩ : ∃ W3, W3 = w2.setCell ⟨g, 1, none⟩ v8 := ⟨_, rfl⟩
            have HO3 : Hid (Only (g :: ownL (.slice A6 N cap6)) w6 W3) := by
              show Only _ _ _
              rw [hW3]; exact (HO2.out.mono (by intro z hz; exact List.mem_cons_of_mem _ hz)).setCell (p := ⟨g, 1, none⟩) (by simp) _
            have HQ3 : Hid (CaAt W3 g n v8 (l6 ++ [e])) := by
              show CaAt _ _ _ _ _
              rw [hW3]
              exact HC6.out.turn HO2.out (by rw [hv8]; exact hr2.out) HG8.out (by rw [List.length_append]; have := HLEN.out; simp; omega)
            have HF2 : Hid (F w2) := HFF.out _ (HO2.out.mono (by intro z hz; exact List.mem_cons_of_mem _ hz))
            have HF3 : Hid (F W3) := HFF.out _ HO3.out
            rw [hv8] at hW3
            go_wp2_with fail
            refine MixPost.normal HF2.out ?_
            refine mix_seg [8, 9] (by kernel_rfl) HF2.out ?_
            simp only [segOf, pickOps, pickOp]
            repeat (go_big_quiet_step (rfl))
            refine wpQuiet_nil ?_
            refine mix_run 10 (by kernel_rfl) ?_
            simp only [segOf, pickOps, pickOp]
            go_wp2_with fail
            rw [← hW3]
            clear hW3 hk2 hk3 hk4
            refine MixPost.normal HF3.out ?_
            refine mix_done (by kernel_rfl) ?_
            go_wp2
            go_ret
            refine ⟨ret_bool (by rw [HPB2.out]), ?_⟩
            rw [HPY.out, HAN.out]
            exact CaStep.next HO6.out HG6.out ⟨v8, HQ3.out, HO3.out, HG8.out⟩
  by_cases hz12 : z1 = z2
  · have hzz : (z1 == z2) = true := by simpa using hz12
    clear hrun
    subst hz12
    go_enter Tryd.func12, Tryd.ntmps12
    have HF := Lib.hid (putL_no (n := n) (l := l0) (show putB e t = false by rw [HPB.out]; simp))
    go_wp2_with fail
    rw [← hw1]
    clear hw1
    go_ret
    exact ⟨ret_bool (by rw [HPB.out]; simp), by rw [HF.out]; exact CaStep.same HH.out HO1.out⟩
  · cases z3 with
    | false => exact hrun hz12 rfl
    | true =>
      have hzz : (z1 == z2) = false := by simpa using hz12
      clear hrun hz12
      go_enter Tryd.func12, Tryd.ntmps12
      have HF := Lib.hid (putL_no (n := n) (l := l0) (show putB e t = false by rw [HPB.out]; simp))
      go_wp2_with fail
      rw [← hw1]
      clear hw1
      go_ret
      exact ⟨ret_bool (by rw [HPB.out]; simp), by rw [HF.out]; exact CaStep.same HH.out HO1.out⟩
end Go.Proofs.YtoafncfknllghaaDoor
