/-
  The walk of the law ShareLast: a preflight is there as long as it has a member, and the last one that leaves is told so; it returns true, and nothing that was there has turned. Conditions: the numbers lie where the slice says.
-/
import Derived.Test.YtcljmdpnbfefbaaXLast
import Derived.Test.YtcljmdpnbfefbaaKLow
import Derived.Deep.CutRange
namespace Go.Proofs.Ytcljmdpnbfefbaa
open Go.RowKit

set_option maxRecDepth 20000 in
set_option maxHeartbeats 8000000 in
theorem walk_ShareLast (a0 : Int) (a1 : Option Addr) (c1 : Nat) (x1 : List Int) (w : World) (_h0 : (Lit.int .i64 a0).wf = true) (h1 : IArg .i64 w a1 c1 x1) :
    Calls Try.prog 5 #[.int .i64 a0, .slice a1 x1.length c1] w fun e w' => e = .returned (.bool true) ∧ Below w.heap.size w w' := by
  clear _h0
  have H1 := Lib.hid h1
  have hl1 := h1.2.2.1
  have hm1 := h1.2.2.2
  unfold maxLen at hm1
  clear h1
  obtain ⟨K, hK, hK0, hK60⟩ : ∃ K : Nat, 1 + lowV a0 60 = (K : Int) ∧ 1 ≤ K ∧ K ≤ 60 := by
    have h := lowV_bd a0 (n := 60) (by omega)
    exact ⟨(1 + lowV a0 60).toNat, by omega, by omega, by omega⟩
  obtain ⟨z0, hz0⟩ : ∃ z0, lowV a0 60 = z0 := ⟨_, rfl⟩
  have HZ0 := Lib.hid hz0
  obtain rfl : z0 = (K : Int) - 1 := by omega
  have HK : Hid (1 ≤ K ∧ K ≤ 60) := ⟨hK0, hK60⟩
  clear hz0 hK
  go_enter Try.func5, Try.ntmps5
  go_wp2_with fail
  refine (Low_any a0 60 w (by omega) (by omega)).mono ?_
  rintro e w' ⟨rfl, rfl⟩
  rw [HZ0.out]
  clear HZ0
  by_cases hb1 : 100 < x1.length
  · go_wp2_with fail
    refine (awake18_any _).mono ?_
    rintro e w' ⟨rfl, hb⟩
    go_wp2
    go_ret
    exact ⟨rfl, hb⟩
  go_wp2_with fail
  refine (fNew_any w).mono ?_
  rintro e w1 ⟨g, rfl, hp, ho, hg⟩
  have N1 := Lib.hid (TbN.made (Below.refl _ w) hp ho hg)
  have HL1 : Hid (LastAt w w1 g [g] (.slice none 0 0) (upL 0) (upS kX 0)) := ⟨N1.out, IRow.nil, fun y hy => by simp [ownL, Value.ownBlock] at hy⟩
  clear hp ho hg N1
  go_wp2_with fail
  go_loopw [7, 8] (fun v i wr => ∃ (n : Nat) (I : Int) (f : List Nat), n ≤ K ∧ I = ((n + 1 : Nat) : Int) ∧ i = .int .i64 I ∧ LastAt w wr g f v (upL n) (upS kX n)) (fun _ i _ => K + 1 - (intOf i).toNat)
  case atStart => exact ⟨0, 1, _, Nat.zero_le _, rfl, rfl, HL1.out⟩
  case round =>
    obtain ⟨n, I, f, hn, hI, rfl, hx⟩ := hrel
    have HX := Lib.hid hx
    have HI := Lib.hid hI
    clear HL1
    obtain ⟨Av, cv, hv, hlc, hcm⟩ := hx.r.slice
    unfold maxLen at hcm
    rw [upL_len] at hv hlc
    clear hx
    subst hv
    by_cases hlt : n < K
    · have T := Lib.hid (upS_join kX (n := n) (by omega))
      have hj := fJoin_any kX I HX.out.t.p (by have := upS_last kX n; omega)
      rw [HI.out, T.out.1, T.out.2.1, T.out.2.2.1, T.out.2.2.2, ← HI.out] at hj
      simp only [wV, kX] at hj
      obtain ⟨G, hG⟩ : ∃ G, G = decide (n = 0) := ⟨_, rfl⟩
      rw [← hG] at hj
      have hq1 : (I == 1) = G := by
        rw [hG, Bool.eq_iff_iff, beq_iff_eq, decide_eq_true_iff]; omega
      have hle : I ≤ (K : Int) := by omega
      have hle2 : I ≤ 100 ∧ 1 ≤ I := by omega
      clear hG hI hlt hn
      go_wp2_with fail
      refine hj.mono ?_
      rintro e W2 ⟨rfl, hnx⟩
      obtain ⟨f2, h2⟩ := HX.out.step hnx
      have HX2 := Lib.hid h2
      clear hj hnx h2
      obtain ⟨W3, hW3⟩ : ∃ W3, W3 = W2.alloc (.cells #[.int .i64 I] 3) := ⟨_, rfl⟩
      obtain ⟨B3, hB3⟩ : ∃ B3, B3 = W2.heap.size := ⟨_, rfl⟩
      have HO3 : Hid (Only [] W2 W3) := by show Only _ _ _; rw [hW3]; exact (Only.refl _ _).alloc _
      have HC3 : Hid (W3.cell? ⟨B3, 0, none⟩ = some (.int .i64 I)) := by show _ = _; rw [hW3, hB3]; simp
      have HX3 := Lib.hid (HX2.out.old HO3.out)
      have hs3 : W3.heap.size = W2.heap.size + 1 := by rw [hW3]; simp
      go_wp2_with (at_builtin; rw [← hW3, ← hB3]; refine wpList_append_int rfl (.tmp 56) (.tmp 58) rfl _ (upL n) rfl HX3.out.r B3 I rfl HC3.out (by rw [upL_len]; have := HI.out; omega) ?_)
      intro g2 cap2 w5 hr5 ho5 hg5
      rw [upL_len] at hr5
      try rw [← hW3] at ho5
      try rw [← hW3] at hg5
      have HX5 : Hid (LastAt w w5 g f2 (.slice (some ⟨g2, 0, none⟩) (n + 1) cap2) (upL (n + 1)) (upS kX (n + 1))) := by
        show LastAt _ _ _ _ _ _ _
        have h1 := HX3.out.row ho5.out hr5.out (by
          intro y hy
          simp [ownL, Value.ownBlock] at hy
          subst hy
          rcases hg5.out with h1 | h1
          · left; exact h1
          · right; first | omega | (simp at h1; omega))
        rw [HI.out, ← upL_succ] at h1
        exact h1
      clear hr5 ho5 hg5 hW3 hB3 hq1
      go_wp2
      go_roundw
      case rel => exact ⟨n + 1, I + 1, f2, by have := HI.out; omega, by have := HI.out; omega, by go_num, by rw [upL_len]; exact HX5.out⟩
      case measure => simp [intOf]; omega
    · obtain rfl : n = K := by omega
      have hgt : ¬ I ≤ (n : Int) := by omega
      have HR0 := HX.out
      rw [upS_rest kX (show n ≠ 0 by omega)] at HR0
      have HY := Lib.hid HR0
      have HYK : Hid (1 ≤ n ∧ n ≤ 60) := ⟨hK0, hK60⟩
      clear HR0 HX hI hlc hcm HI
      go_wp2_with fail
      go_loopw [7, 12] (fun v i wr => ∃ (q : Nat) (l : List Int) (f : List Nat), q + l.length = n ∧ i = .int .i64 (q : Int) ∧ LastAt w wr g f v l (restS kX l) ∧ l.Nodup) (fun _ i _ => n - (intOf i).toNat)
      case atStart => exact ⟨0, upL n, f, by rw [upL_len]; omega, rfl, HY.out, upL_nodup n⟩
      case round =>
        obtain ⟨q, l, f, hq, rfl, hx, hnd⟩ := hrel
        rename World => wr
        have HX := Lib.hid hx
        have HND := Lib.hid hnd
        clear hnd HY
        obtain ⟨A, cap, rfl, hlc, hcm⟩ := hx.r.slice
        unfold maxLen at hcm
        clear hx
        by_cases hlt : 0 < l.length
        · obtain ⟨gi, rfl, _⟩ := HX.out.r.at_ rfl hlt
          go_upto_if 68 with fail
          go_cut [13] from 65 to 75 (fun s13 W => ∃ t : Nat, t < l.length ∧ s13 = .int .i64 (t : Int) ∧ W = wr)
          case first =>
            by_cases hqx : q < x1.length
            · obtain ⟨ad, e1, hbl, hcell⟩ := H1.out.1 q x1[q] (List.getElem?_eq_getElem hqx)
              have hc2 := (HX.out.t.b.cell (p := ad.add q) (by rw [block_add]; exact hbl)).trans hcell
              clear hcell
              obtain ⟨t, hlow, htl⟩ : ∃ t : Nat, lowV x1[q] (l.length : Int) = (t : Int) ∧ t < l.length := by
                have h := lowV_bd x1[q] (n := (l.length : Int)) (by omega)
                exact ⟨(lowV x1[q] (l.length : Int)).toNat, by omega, by omega⟩
              generalize x1[q] = z at *
              have HLOW := Lib.hid hlow
              have HTL := Lib.hid htl
              clear hlow htl
              subst e1
              go_wp2_with fail
              refine (Low_any z (l.length : Int) wr (by omega) (by omega)).mono ?_
              rintro e w' ⟨rfl, rfl⟩
              rw [HLOW.out]
              go_wp2_with fail
              go_meet
              case rel => exact ⟨t, HTL.out, rfl, rfl⟩
            · go_wp2_with fail
              go_meet
              case rel => exact ⟨0, hlt, rfl, rfl⟩
          case rest =>
            obtain ⟨t, htl, rfl, hW⟩ := hcut
            have HXc : Hid (LastAt w wc g f (.slice (some ⟨gi, 0, none⟩) l.length cap) l (restS kX l)) := by show LastAt _ _ _ _ _ _ _; rw [hW]; exact HX.out
            clear hW HX
            have hj := fMembers_any 1 HXc.out.t.p
            rw [restS_done] at hj
            go_wp2_with fail
            refine hj.mono ?_
            rintro e W2 ⟨r, rfl, hr, _, ho⟩
            have HR2 := Lib.hid hr
            have HX2 := Lib.hid (HXc.out.old ho)
            clear hj hr ho HXc
            go_wp2_with fail
            refine (Ints_any r _ l W2 HR2.out HX2.out.r).mono ?_
            rintro e W3 ⟨rfl, ho⟩
            have HX3 := Lib.hid (HX2.out.old ho)
            clear ho HR2 HX2
            obtain ⟨g3, e3, hc3⟩ := HX3.out.r.at_ rfl htl
            injection e3 with e3
            injection e3 with e3 _ _
            subst e3
            have HYM : Hid (l[t] ∈ l) := List.getElem_mem htl
            have HER : Hid (l.eraseIdx t = l.erase l[t]) := erase_idx htl rfl (fun j hj e => by
              exact (List.pairwise_iff_getElem.1 HND.out) j t (by omega) htl hj e)
            obtain ⟨y, hy⟩ : ∃ y, y = l[t] := ⟨_, rfl⟩
            rw [← hy] at hc3 HYM HER
            clear hy
            have HLE : Hid (l.length = (l.erase y).length + 1) := by show _ = _; rw [List.length_erase_of_mem HYM.out]; omega
            have HNM : Hid (y ∉ l.erase y) := fun hm => (List.Nodup.mem_erase_iff HND.out).1 hm |>.1 rfl
            have HND2 : Hid ((l.erase y).Nodup) := HND.out.erase y
            have HTE := Lib.hid (l.eraseIdx_eq_take_drop_succ t)
            obtain ⟨W0, hW0⟩ : ∃ W0, W0 = W3.drew := ⟨_, rfl⟩
            have HO0 : Hid (Only [] W3 W0) := by show Only _ _ _; rw [hW0]; exact (Only.refl _ _).drew
            have HX0 := Lib.hid (HX3.out.old HO0.out)
            obtain ⟨A2, hA, HPD⟩ : ∃ A2 : Addr, (if cap = t + 1 then (some (⟨gi, 0, none⟩ : Addr)) else some ⟨gi, t + 1, none⟩) = some A2 ∧ Hid (∀ W', IRow W' (.slice (some ⟨gi, 0, none⟩) l.length cap) l → PartAt nE W' (.slice (some A2) (l.length - (t + 1)) (cap - (t + 1))) (l.drop (t + 1))) := by
              have hkk : t + 1 ≤ l.length := by omega
              by_cases hc : cap = t + 1
              · exact ⟨⟨gi, 0, none⟩, by rw [if_pos hc], fun W' hW' => ERow.partDrop hW' hkk (by rw [if_pos hc])⟩
              · exact ⟨⟨gi, t + 1, none⟩, by rw [if_neg hc], fun W' hW' => ERow.partDrop hW' hkk (by rw [if_neg hc]; show some (⟨gi, (t + 1) * 1, none⟩ : Addr) = _; rw [Nat.mul_one])⟩
            have HPTK : Hid (PartAt nE W0 (.slice (some ⟨gi, 0, none⟩) t cap) (l.take t)) := ERow.partTake HX0.out.r (by omega)
            have hic : t ≤ cap := by omega
            have hic1 : t + 1 ≤ cap := by omega
            have hil : t ≤ l.length := by omega
            have hil1 : t + 1 ≤ l.length := by omega
            have hne : Nonempty (Held (fun _ => True)) := ⟨⟨W0, trivial⟩⟩
            go_wp2_with fail
            refine mix_start (fun _ => True) (by kernel_rfl) ?_
            rw [← hW0]
            clear hW0 hc3
            refine mix_seg [0, 1, 2, 4, 5, 6, 7] (by kernel_rfl) trivial ?_
            simp only [segOf, pickOps, pickOp]
            repeat (go_big_quiet_step (rfl))
            refine wpQuiet_nil ?_
            refine mix_run 3 (by kernel_rfl) ?_
            simp only [segOf, pickOps, pickOp]
            refine wpList_append_ints rfl (.const (.slice none 0 0)) (.tmp 87) rfl (.slice none 0 0) [] rfl IRow.nil _ (l.take t) rfl HPTK.out (by simp; omega) ?_
            intro v1 w1 hr1 ho1 hg1
            have HR1 : Hid (IRow w1 v1 (l.take t)) := hr1.out
            have HO1 : Hid (Only [] W0 w1) := ho1.out.mono (by intro z hz; simp [ownL, Value.ownBlock] at hz)
            have HN1 : Hid (NewL W3.heap.size v1) := by show NewL _ _; intro z hz; have := HO0.out.size; rcases hg1.out z hz with h3 | h3; simp [ownL, Value.ownBlock] at h3; omega
            have HI1 := Lib.hid (HX0.out.r.old HO1.out)
            clear hr1 ho1 hg1
            go_wp2_with fail
            refine MixPost.normal trivial ?_
            refine mix_run 8 (by kernel_rfl) ?_
            simp only [segOf, pickOps, pickOp]
            refine wpList_append_ints rfl (.tmp 88) (.tmp 92) rfl v1 (l.take t) rfl HR1.out (.slice (some A2) (l.length - (t + 1)) (cap - (t + 1))) (l.drop (t + 1)) (by simp [Act.eval]) (HPD.out w1 HI1.out) (by rw [List.length_take, List.length_drop]; omega) ?_
            intro v2 w2 hr2 ho2 hg2
            have HR2 : Hid (IRow w2 v2 (l.erase y)) := by show IRow _ _ _; rw [← HER.out, HTE.out]; exact hr2.out
            have HO2 : Hid (Only [] W3 w2) := (HO0.out.trans HO1.out).next ho2.out (fun z hz => .inr (HN1.out z hz))
            have HN2 : Hid (NewL W3.heap.size v2) := by show NewL _ _; intro z hz; have := HO0.out.size; have := HO1.out.size; rcases hg2.out z hz with h3 | h3; exact HN1.out z h3; omega
            clear hr2 ho2 hg2
            have HX4 : Hid (LastAt w w2 g f v2 (l.erase y) (restS kX l)) := HX3.out.row (HO2.out.mono (by simp)) HR2.out (fun z hz => .inr (HN2.out z hz))
            obtain ⟨Av, capv, ev, _⟩ := HR2.out.slice
            obtain ⟨m, hm⟩ : ∃ m, m = (l.erase y).length := ⟨_, rfl⟩
            have HLM : Hid (l.length = m + 1) := by show _ = _; rw [hm]; exact HLE.out
            have HM := Lib.hid hm
            rw [← hm] at ev
            clear hm
            subst ev
            go_wp2_with fail
            refine MixPost.normal trivial ?_
            refine mix_seg [9] (by kernel_rfl) trivial ?_
            simp only [segOf, pickOps, pickOp]
            repeat (go_big_quiet_step (rfl))
            refine wpQuiet_nil ?_
            refine mix_done (by kernel_rfl) ?_
            have T := Lib.hid (restS_leave (W := kX) HYM.out)
            have hj := fLeave_any y HX4.out.t.p
            rw [T.out.1, T.out.2.1, T.out.2.2.1, T.out.2.2.2, ← HM.out] at hj
            clear hne
            go_wp2_with fail
            refine hj.mono ?_
            rintro e W5 ⟨rfl, hnx⟩
            obtain ⟨f5, h5⟩ := HX4.out.step hnx
            have HX5 := Lib.hid h5
            clear hj hnx h5
            have hof := fOf_any y HX5.out.t.p
            rw [restS_of HNM.out] at hof
            have HQN : Hid (q + 1 + m = n) := by show _ = _; have := HLM.out; omega
            have HLL : Hid ((restS kX (l.erase y)).l.length = if m = 0 then 0 else 1) := by show _ = _; rw [restS_len, ← HM.out]
            have hqb : q ≤ 60 := by have := HYK.out; omega
            clear hq hlc hcm
            obtain hm0 | hm0 | hm0 : m = 0 ∨ m = 1 ∨ 2 ≤ m := by omega
            all_goals
              first
                | rw [decide_eq_true hm0]
                | rw [decide_eq_false (show ¬ m = 0 by omega)]
              go_wp2_with fail
              refine hof.mono ?_
              rintro e W6 ⟨rfl, ho⟩
              have HX6 := Lib.hid (HX5.out.old ho)
              clear hof ho
              have hln := fLen_any HX6.out.t.p
              rw [HLL.out] at hln
              first
                | rw [if_pos hm0] at hln
                | rw [if_neg (show ¬ m = 0 by omega)] at hln
              go_wp2_with fail
              refine hln.mono ?_
              rintro e W7 ⟨rfl, ho⟩
              have HX7 := Lib.hid (HX6.out.old ho)
              clear hln ho
              go_wp2
              go_roundw
              case rel => exact ⟨q + 1, l.erase y, f5, by rw [← HM.out]; exact HQN.out, by go_num, by first | exact HX7.out | (have h := HX7.out; rw [hm0] at h; exact h), HND2.out⟩
              case measure => have := HQN.out; simp [intOf]; omega
        · obtain rfl : l = [] := List.length_eq_zero_iff.1 (by omega)
          have T := Lib.hid (no_join (n := 1) (W := kX) (i := 1) (by omega))
          have hj := fJoin_any kX 1 HX.out.t.p (by rw [restS_nil]; show (1 : Nat) ≤ _; omega)
          rw [restS_nil, T.out.1, T.out.2.1, T.out.2.2.1, T.out.2.2.2] at hj
          simp only [wV, kX] at hj
          go_wp2_with fail
          refine hj.mono ?_
          rintro e W2 ⟨rfl, hnx⟩
          have HXE : Hid (Below w.heap.size w W2) := by
            have hx := HX.out
            rw [restS_nil] at hx
            obtain ⟨f2, h2⟩ := hx.step hnx
            exact h2.t.b
          clear hj hnx
          go_wp2_with fail
          refine (awake18_any _).mono ?_
          rintro e w' ⟨rfl, hb⟩
          have HE := Lib.hid (HXE.out.trans (hb.mono HXE.out.size))
          clear hb
          go_wp2
          go_ret
          exact ⟨rfl, HE.out⟩
end Go.Proofs.Ytcljmdpnbfefbaa
