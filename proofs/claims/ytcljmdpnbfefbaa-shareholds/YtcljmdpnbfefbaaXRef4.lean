/-
  The contract of the document's own Join over this seat's program. Conditions: the table lies there; what holds of it at any time; its numbers are small.
-/
import Derived.Test.YtcljmdpnbfefbaaXRef3
namespace Go.Proofs.Ytcljmdpnbfefbaa
open Go.RowKit

section
variable (g : Nat) (v : Value) (l : List Px) (s : Sv) (w : World) (h : ShAt eR 0 w g v s.last l) (hl : l.map Px.p = s.l)
include h hl
set_option maxRecDepth 20000 in
set_option maxHeartbeats 16000000 in
theorem rJoin_any (k : Wt) (i : Int) (ok : Ok s) (hla : s.last ≤ 1000000000) :
    Calls Try.prog 13 #[.pointer (some ⟨g, 0, none⟩), wV k, .int .i64 i] w fun e w' =>
      e = .returned (.tuple #[.int .i64 (joinN k i s : Int), .bool (joinF k i s), .int .i64 (joinC i s : Int)]) ∧ ShStep eR 0 w w' g (foot g v l) (joinS k i s) := by
  obtain ⟨w1, hw1⟩ : ∃ w1, w1 = w.alloc (.cells #[.string k.o, .string k.u, .bool k.c, .string k.m, .string k.s] 31) := ⟨_, rfl⟩
  obtain ⟨B1, hB1⟩ : ∃ B1, B1 = w.heap.size := ⟨_, rfl⟩
  have HO1 : Hid (Only [] w w1) := by show Only _ _ _; rw [hw1]; exact (Only.refl _ _).alloc _
  have HX1 : Hid (WtAt w1 B1 0 k) := by show WtAt _ _ _ _; rw [hw1, hB1]; exact WtAt.new _ _ _
  have HH1 := Lib.hid (h.old HO1.out)
  have HHW := Lib.hid h
  have HL := Lib.hid hl
  have HLA := Lib.hid hla
  have HK := Lib.hid ok
  have HLN := Lib.hid (map_len hl)
  have hof := rOf_any g v l s w1 HH1.out hl i
  have HBF : Hid (B1 ∉ foot g v l) := by show _ ∉ _; intro hm; have := h.own hm; omega
  have HNO : Hid (joinC i s ≠ 0 → joinN k i s = 0 ∧ joinF k i s = false ∧ joinS k i s = s) := by
    show _ → _
    intro hc
    unfold joinN joinF joinS
    rw [if_neg hc, if_neg hc]
    exact ⟨rfl, decide_eq_false (fun h => hc h.1), rfl⟩
  simp only [wV]
  by_cases h1 : i < 1
  case pos =>
    have HE : Hid (joinC i s = 2) := by show _ = _; unfold joinC; rw [if_pos h1]
    obtain ⟨x1, x2, x3⟩ := HNO.out (by rw [HE.out]; decide)
    rw [HE.out, x1, x2, x3]
    clear hof x1 x2 x3
    go_enter Try.func13, Try.ntmps13
    go_wp2_with fail
    rw [← hw1]
    try rw [← hB1]
    clear hw1 hB1
    go_wp2
    go_ret3
    exact ⟨rfl, ShStep.same HHW.out HO1.out rfl HL.out⟩
  have h1' : 1 ≤ i := by omega
  by_cases h2 : homeK i s < s.l.length
  case pos =>
    have HE : Hid (joinC i s = 16) := by show _ = _; unfold joinC; rw [if_neg h1, if_pos h2]
    have HOF : Hid (1 ≤ ofN i s) := by show _ ≤ _; unfold ofN leaveN; rw [if_pos h2]; exact (ok.lt _ (nthP_mem h2)).1
    obtain ⟨q, hq⟩ : ∃ q, q = ofN i s := ⟨_, rfl⟩
    rw [← hq] at hof HOF
    have hof2 : (0 : Int) < (q : Int) := by have := HOF.out; omega
    obtain ⟨x1, x2, x3⟩ := HNO.out (by rw [HE.out]; decide)
    rw [HE.out, x1, x2, x3]
    clear x1 x2 x3 h2 hq
    go_enter Try.func13, Try.ntmps13
    go_wp2_with fail
    rw [← hw1]
    try rw [← hB1]
    clear hw1 hB1
    refine hof.mono ?_
    rintro e w2 ⟨rfl, hww⟩
    have hww' := hww.symm
    subst hww'
    clear hof
    go_wp2
    go_ret3
    exact ⟨rfl, ShStep.same HHW.out HO1.out rfl HL.out⟩
  have HOF : Hid (ofN i s = 0) := by show _ = _; unfold ofN leaveN; rw [if_neg h2]
  rw [HOF.out] at hof
  have HJC : Hid (joinC i s = if 64 ≤ sumL s.l then 10 else 0) := by show _ = _; unfold joinC; rw [if_neg h1, if_neg h2]
  obtain ⟨A, cap, hv, hlc, hcm⟩ := h.row.slice
  unfold maxLen at hcm
  obtain ⟨n, hn0⟩ : ∃ n, n = l.length := ⟨_, rfl⟩
  rw [← hn0] at hlc hv
  have HN := Lib.hid hn0
  subst hv
  have hc1 := HH1.out.c1
  have hgl := HH1.out.lt
  clear h hl hla ok hn0 h2
  go_enter Try.func13, Try.ntmps13
  go_wp2_with fail
  rw [← hw1]
  try rw [← hB1]
  clear hw1 hB1
  refine hof.mono ?_
  rintro e w2 ⟨rfl, hww⟩
  subst hww
  clear hof
  go_wp2_with fail
  go_loop [9, 10] (fun t q => ∃ a b : Nat, a ≤ n ∧ q = .int .i64 (a : Int) ∧ t = .int .i64 (b : Int) ∧ b = sumL (s.l.take a) ∧ b ≤ 64) (fun _ q => n - (intOf q).toNat)
  case atStart => exact ⟨0, 0, Nat.zero_le _, rfl, rfl, rfl, by omega⟩
  case round =>
    obtain ⟨a, b, ha, rfl, rfl, hb, hb2⟩ := hrel
    have HB := Lib.hid hb
    clear hb
    by_cases hlt : a < n
    · obtain ⟨gv, cap2, hv2, hgs, _, _⟩ := HH1.out.row.some_ (by have := HN.out; omega)
      obtain ⟨rfl, rfl⟩ : A = some ⟨gv, 0, none⟩ ∧ cap = cap2 := by
        injection hv2 with e1 e2 e3
        exact ⟨e1, e3⟩
      obtain ⟨f0, f1, f2, f3, f4, f5, f6⟩ := HH1.out.row.el HN.out (k := a) (by have := HN.out; omega)
      have HX : Hid ((nthX l a).p = nthP s.l a) := nthX_p HL.out
      have HT : Hid (sumL (s.l.take (a + 1)) = b + (nthX l a).p.i.length) := by show _ = _; rw [HX.out, HB.out]; exact sumL_take (by have := HN.out; have := HLN.out; omega)
      have HT2 : Hid (sumL (s.l.take (a + 1)) ≤ 64) := by show _ ≤ _; have := sumL_take_le s.l (a + 1); have := HK.out.sum; omega
      obtain ⟨x, hx⟩ : ∃ x, x = nthX l a := ⟨_, rfl⟩
      rw [← hx] at f6 HT HX
      obtain ⟨⟨xn, xw, xi⟩, xA, xc⟩ := x
      simp only at f6 HT
      obtain ⟨m, hm⟩ : ∃ m, m = xi.length := ⟨_, rfl⟩
      rw [← hm] at f6 HT
      have hm64 : b + m ≤ 64 := by have := HT.out; have := HT2.out; omega
      clear hv2 hgs hx hm HX f0 f1 f2 f3 f4 f5
      go_wp2
      go_round
      case rel => exact ⟨a + 1, b + m, by omega, by go_num, by go_num, HT.out.symm, hm64⟩
      case measure => simp [intOf]; omega
    · obtain rfl : n = a := by omega
      have HSM : Hid (sumL s.l = b) := by show _ = _; rw [HB.out, List.take_of_length_le (by have := HN.out; have := HLN.out; omega)]
      rw [HSM.out] at HJC
      by_cases h64 : 64 ≤ b
      · have HE : Hid (joinC i s = 10) := by show _ = _; rw [HJC.out, if_pos h64]
        have h64' : (64 : Int) ≤ (b : Int) := by omega
        go_wp2
        go_ret3
        obtain ⟨x1, x2, x3⟩ := HNO.out (by rw [HE.out]; decide)
        rw [HE.out, x1, x2, x3]
        exact ⟨rfl, ShStep.same HHW.out HO1.out rfl HL.out⟩
      have HE : Hid (joinC i s = 0) := by show _ = _; rw [HJC.out, if_neg h64]
      have h64' : ¬ (64 : Int) ≤ (b : Int) := by omega
      clear HNO HJC HB
      go_wp2_with fail
      go_loopw [11] (fun q wr => ∃ a : Nat, a ≤ n ∧ q = .int .i64 (a : Int) ∧ Only [] w1 wr ∧ ∀ j, j < a → ofB k (nthP s.l j) = false) (fun q _ => n - (intOf q).toNat)
      case atStart => exact ⟨0, Nat.zero_le _, rfl, Only.refl _ _, fun j hj => by omega⟩
      case round =>
        obtain ⟨a, ha, rfl, ho, hno⟩ := hrel
        have HO := Lib.hid ho
        have HNA := Lib.hid hno
        clear ho hno hc1 hgl
        have HHr := Lib.hid (HH1.out.old HO.out)
        have hc1 := HHr.out.c1
        have hgl := HHr.out.lt
        by_cases hlt : a < n
        · obtain ⟨gv, cap2, hv2, hgs, _, _⟩ := HHr.out.row.some_ (by have := HN.out; omega)
          obtain ⟨rfl, rfl⟩ : A = some ⟨gv, 0, none⟩ ∧ cap = cap2 := by
            injection hv2 with e1 e2 e3
            exact ⟨e1, e3⟩
          obtain ⟨f0, f1, f2, f3, f4, f5, f6⟩ := HHr.out.row.el HN.out (k := a) (by have := HN.out; omega)
          have HX : Hid ((nthX l a).p = nthP s.l a) := nthX_p HL.out
          have HIR := Lib.hid (HHr.out.ids _ (nthX_mem (k := a) (by have := HN.out; omega)))
          have hkl : a < s.l.length := by have := HN.out; have := HLN.out; omega
          have HKL := Lib.hid hkl
          obtain ⟨x, hx⟩ : ∃ x, x = nthX l a := ⟨_, rfl⟩
          rw [← hx] at f0 f1 f2 f3 f4 f5 f6 HX HIR
          have HXX := Lib.hid hx
          obtain ⟨⟨xn, xw, xi⟩, xA, xc⟩ := x
          simp only at f0 f1 f2 f3 f4 f5 f6 HX
          simp only [Px.v] at HIR
          have HML : Hid (xi.length ≤ 64) := by
            show _ ≤ _
            have h1 := HK.out.mem (nthP_mem HKL.out)
            rw [← HX.out] at h1
            exact h1
          obtain ⟨d0, d1, d2, d3, d4⟩ := HX1.out.old HO.out
          obtain ⟨qb, hqb⟩ : ∃ qb, qb = wB xw k := ⟨_, rfl⟩
          have hcmp : ∀ W, (binOp .eql 31 (.agg #[.string xw.o, .string xw.u, .bool xw.c, .string xw.m, .string xw.s]) (.agg #[.string k.o, .string k.u, .bool k.c, .string k.m, .string k.s])).run Try.prog W = .ok (.bool qb) W := fun W => by rw [eqlW, hqb]
          have HQB : Hid (ofB k (nthP s.l a) = qb) := by show _ = _; rw [← HX.out, hqb]; rfl
          clear hqb hv2 hx hkl
          cases qb with
          | false =>
            go_wp2_with fail
            go_quiet (fail)
            go_wp2
            go_roundw
            case rel =>
              refine ⟨a + 1, by omega, by go_num, HO.out.drewN _, fun j hj => ?_⟩
              by_cases ej : j = a
              · subst ej; exact HQB.out
              · exact HNA.out j (by omega)
            case measure => simp [intOf]; omega
          | true =>
            have HWK : Hid (wantK k s = a) := spot_first HKL.out HQB.out HNA.out
            have HR : Hid (joinN k i s = xn ∧ joinF k i s = false ∧ joinS k i s = ⟨s.last, s.l.set a ⟨xn, xw, xi ++ [i]⟩⟩) := by
              show _ ∧ _ ∧ _
              unfold joinN joinF joinS
              rw [if_pos HE.out, if_pos HE.out, HWK.out, if_pos HKL.out, if_pos HKL.out]
              refine ⟨by rw [← HX.out], decide_eq_false (fun h => h.2 HKL.out), ?_⟩
              unfold addK plus
              rw [← HX.out]
            go_wp2_with fail
            go_quiet (fail)
            obtain ⟨wb, hwb⟩ : ∃ wb, wb = wr.drewN nq := ⟨_, rfl⟩
            have HOb : Hid (Only [] w1 wb) := by show Only _ _ _; rw [hwb]; exact HO.out.drewN _
            have HHb := Lib.hid (HH1.out.old HOb.out)
            have HIb : Hid (IRow wb (.slice xA xi.length xc) xi) := by show IRow _ _ _; rw [hwb]; exact HIR.out.old ((Only.refl _ _).drewN _)
            rw [← hwb]
            clear hwb hc1 hgl f0 f1 f2 f3 f4 f5 f6 d0 d1 d2 d3 d4 hcmp hgs
            obtain ⟨W0, hW0⟩ : ∃ W0, W0 = wb.drew := ⟨_, rfl⟩
            have HO0 : Hid (Only [] wb W0) := by show Only _ _ _; rw [hW0]; exact (Only.refl _ _).drew
            have HIR0 := Lib.hid (HIb.out.old HO0.out)
            have hgv : g ≠ gv := by
              obtain ⟨d1, _⟩ := foot_nodup.1 HHb.out.nd
              intro e; subst e; exact d1 (by simp [ownL, Value.ownBlock])
            have HGV := Lib.hid hgv
            have HGVL : Hid (gv < wb.heap.size) := HHb.out.row.own (by simp [ownL, Value.ownBlock])
            have HKN : Hid (a < l.length) := by show _ < _; rw [← HN.out]; exact hlt
            have HF6 : Hid (∀ W', Only [] wb W' → W'.cell? ⟨gv, a * 7 + 6, none⟩ = some (.slice xA xi.length xc) ∧ gv < W'.heap.size) := by
              show ∀ W', _
              intro W' ho
              obtain ⟨_, _, _, _, _, _, f6⟩ := (HHb.out.old ho).row.el HN.out (k := a) HKN.out
              rw [← HXX.out] at f6
              exact ⟨f6, Nat.lt_of_lt_of_le HGVL.out ho.size⟩
            obtain ⟨F, hF⟩ : ∃ F : World → Prop, ∀ W, F W ↔ W.cell? ⟨g, 1, none⟩ = some (.slice (some ⟨gv, 0, none⟩) n cap) := ⟨_, fun _ => Iff.rfl⟩
            have hx0 : ∀ p : Held F, p.w.cell? ⟨g, 1, none⟩ = some (.slice (some ⟨gv, 0, none⟩) n cap) := fun p => (hF _).1 p.h
            have HFF : Hid (∀ W', Only [gv] wb W' → F W') := by
              show ∀ W', _
              intro W' ho
              exact (hF _).2 ((ho.cell (p := ⟨g, 1, none⟩) HHb.out.lt (by simpa using HGV.out)).trans HHb.out.c1)
            have hF0 : F W0 := HFF.out _ (HO0.out.mono (by simp))
            clear hF
            go_wp2_with fail
            refine mix_start F (by kernel_rfl) ?_
            rw [← hW0]
            clear hW0
            refine mix_seg [0, 1, 2, 3, 4, 5, 6, 7, 8, 9, 10, 11, 14] (by kernel_rfl) hF0 ?_
            simp only [segOf, pickOps, pickOp]
            repeat (go_big_quiet_step (rfl))
            refine wpQuiet_nil ?_
            refine mix_several [12, 15] (by kernel_rfl) ?_
            intro i1 hi1
            simp only [List.mem_cons, List.not_mem_nil, or_false] at hi1
            rcases hi1 with rfl | rfl
            · simp only [segOf, pickOps, pickOp]
              have hk0 := (HF6.out _ HO0.out).1
              have hk1 := (HF6.out _ HO0.out).2
              go_wp2_with fail
              refine MixPost.normal hF0 ?_
              clear hk0 hk1
              refine mix_several [13, 15] (by kernel_rfl) ?_
              intro i1 hi1
              simp only [List.mem_cons, List.not_mem_nil, or_false] at hi1
              rcases hi1 with rfl | rfl
              · simp only [segOf, pickOps, pickOp]
                refine wpList_append_ints rfl (.const (.slice none 0 0)) (.tmp 71) rfl (.slice none 0 0) [] rfl IRow.nil _ xi rfl (ERow.part HIR0.out) (by have := HML.out; simp; omega) ?_
                intro v1 w7 hr1 ho1 hg1
                have HR1 : Hid (IRow w7 v1 xi) := hr1.out
                have HOx : Hid (Only [] W0 w7) := ho1.out.mono (by intro z hz; simp [ownL, Value.ownBlock] at hz)
                have HN1 : Hid (NewL wb.heap.size v1) := by show NewL _ _; intro z hz; have := HO0.out.size; rcases hg1.out z hz with h3 | h3; simp [ownL, Value.ownBlock] at h3; omega
                have HNG : Hid (∀ z ∈ ownL v1, W0.heap.size ≤ z) := by show ∀ z ∈ _, _; intro z hz; rcases hg1.out z hz with h3 | h3; simp [ownL, Value.ownBlock] at h3; omega
                have HOn : Hid (Only [] wb w7) := HO0.out.trans HOx.out
                have hFn : F w7 := HFF.out _ (HOn.out.mono (by simp))
                clear hr1 ho1 hg1
                go_wp2_with fail
                refine MixPost.normal hFn ?_
                refine mix_run 15 (by kernel_rfl) ?_
                simp only [segOf, pickOps, pickOp]
                obtain ⟨w8, hal⟩ : ∃ w8, w8 = w7.alloc (.cells #[.int .i64 i] 3) := ⟨_, rfl⟩
                obtain ⟨C1, hC1⟩ : ∃ C1, C1 = w7.heap.size := ⟨_, rfl⟩
                have HOal : Hid (Only [] w7 w8) := by show Only _ _ _; rw [hal]; exact (Only.refl _ _).alloc _
                have HOm : Hid (Only [] wb w8) := HOn.out.trans HOal.out
                have HCC : Hid (w8.cell? ⟨C1, 0, none⟩ = some (.int .i64 i)) := by show _ = _; rw [hal, hC1]; simp
                have HCL : Hid (C1 = w7.heap.size) := hC1
                have HCM : Hid (C1 < w8.heap.size) := block_of_cell (a := ⟨C1, 0, none⟩) HCC.out
                have hFm : F w8 := HFF.out _ (HOm.out.mono (by simp))
                go_wp2_with fail
                rw [← hal, ← hC1]
                clear hal hC1
                refine MixPost.normal hFm ?_
                have HRm : Hid (IRow w8 v1 xi) := HR1.out.old HOal.out
                refine mix_run 16 (by kernel_rfl) ?_
                simp only [segOf, pickOps, pickOp]
                refine wpList_append_int rfl (.tmp 72) (.tmp 74) rfl v1 xi rfl HRm.out C1 i rfl HCC.out (by have := HML.out; omega) ?_
                intro g2 cap2 w9 hr2 ho2 hg2
                have HR2 : Hid (IRow w9 (.slice (some ⟨g2, 0, none⟩) (xi.length + 1) cap2) (xi ++ [i])) := hr2.out
                have HO2 : Hid (Only [] wb w9) := HOm.out.next ho2.out (fun z hz => .inr (HN1.out z hz))
                have HN2 : Hid (wb.heap.size ≤ g2) := by show _ ≤ _; have := HOm.out.size; rcases hg2.out with h3 | h3; exact HN1.out g2 h3; omega
                clear hr2 ho2 hg2
                obtain ⟨yx, hyx⟩ : ∃ yx : Px, yx = ⟨⟨xn, xw, xi ++ [i]⟩, some ⟨g2, 0, none⟩, cap2⟩ := ⟨_, rfl⟩
                have hyv : yx.v = .slice (some ⟨g2, 0, none⟩) (xi.length + 1) cap2 := by rw [hyx]; simp [Px.v]
                have HYP : Hid (yx.p = ⟨xn, xw, xi ++ [i]⟩) := by show _ = _; rw [hyx]
                have HM2 := Lib.hid (HHb.out.members (y := yx) HN.out HKN.out (HO2.out.mono (by simp)) (by rw [hyv, HYP.out]; exact HR2.out) (fun z hz => by rw [hyv] at hz; simp [ownL, Value.ownBlock] at hz; subst hz; exact .inr HN2.out) (by rw [HYP.out, ← HXX.out]) (by rw [HYP.out, ← HXX.out]))
                rw [hyv] at HM2
                clear hyx hyv
                obtain ⟨W3, hW3⟩ : ∃ W3, W3 = w9.setCell ⟨gv, a * 7 + 6, none⟩ (.slice (some ⟨g2, 0, none⟩) (xi.length + 1) cap2) := ⟨_, rfl⟩
                rw [← hW3] at HM2
                have HO3 : Hid (Only [gv] wb W3) := by show Only _ _ _; rw [hW3]; exact (HO2.out.mono (by simp)).setCell (p := ⟨gv, a * 7 + 6, none⟩) (by simp) _
                have hk2 := (HF6.out _ HO2.out).1
                have hk4 := (HF6.out _ HO2.out).2
                have hk3 := (HHb.out.old HO2.out).row.thaw HN.out (a * 7 + 6)
                have hF2 : F w9 := HFF.out _ (HO2.out.mono (by simp))
                have hF3 : F W3 := HFF.out _ HO3.out
                go_wp2_with fail
                refine MixPost.normal hF2 ?_
                refine mix_seg [17, 18] (by kernel_rfl) hF2 ?_
                simp only [segOf, pickOps, pickOp]
                repeat (go_big_quiet_step (rfl))
                refine wpQuiet_nil ?_
                refine mix_run 19 (by kernel_rfl) ?_
                simp only [segOf, pickOps, pickOp]
                go_wp2_with fail
                rw [← hW3]
                clear hW3 hk2 hk3 hk4
                refine MixPost.normal hF3 ?_
                refine mix_done (by kernel_rfl) ?_
                clear hx0 hF0 hF2 hF3 HFF
                have hc3 := HM2.out.1.c1
                have hg3 := HM2.out.1.lt
                obtain ⟨r0, r1, r2, r3, r4, r5, r6⟩ := HM2.out.1.row.el (by rw [List.length_set]; exact HN.out) (k := a) (by rw [List.length_set]; exact HKN.out)
                rw [nthX_set HKN.out, HYP.out] at r0
                clear r1 r2 r3 r4 r5 r6
                go_wp2
                go_ret3
                refine ⟨by rw [HR.out.1, HR.out.2.1, HE.out]; rfl, ?_⟩
                rw [HR.out.2.2]
                exact ShStep.past (HO1.out.trans HOb.out) ⟨_, _, HM2.out.1, by rw [map_set HL.out, HYP.out], HM2.out.2.1, HM2.out.2.2⟩
              · simp only [segOf, pickOps, pickOp]
                obtain ⟨w7, hal⟩ : ∃ w7, w7 = W0.alloc (.cells #[.int .i64 i] 3) := ⟨_, rfl⟩
                obtain ⟨C1, hC1⟩ : ∃ C1, C1 = W0.heap.size := ⟨_, rfl⟩
                have HOal : Hid (Only [] W0 w7) := by show Only _ _ _; rw [hal]; exact (Only.refl _ _).alloc _
                have HOm : Hid (Only [] wb w7) := HO0.out.trans HOal.out
                have HCC : Hid (w7.cell? ⟨C1, 0, none⟩ = some (.int .i64 i)) := by show _ = _; rw [hal, hC1]; simp
                have HCL : Hid (C1 = W0.heap.size) := hC1
                have HCM : Hid (C1 < w7.heap.size) := block_of_cell (a := ⟨C1, 0, none⟩) HCC.out
                have hFm : F w7 := HFF.out _ (HOm.out.mono (by simp))
                go_wp2_with fail
                rw [← hal, ← hC1]
                clear hal hC1
                refine MixPost.normal hFm ?_
                refine mix_run 13 (by kernel_rfl) ?_
                simp only [segOf, pickOps, pickOp]
                have HIm := Lib.hid (HIR0.out.old HOal.out)
                refine wpList_append_ints rfl (.const (.slice none 0 0)) (.tmp 71) rfl (.slice none 0 0) [] rfl IRow.nil _ xi rfl (ERow.part HIm.out) (by have := HML.out; simp; omega) ?_
                intro v1 w8 hr1 ho1 hg1
                have HR1 : Hid (IRow w8 v1 xi) := hr1.out
                have HOx : Hid (Only [] w7 w8) := ho1.out.mono (by intro z hz; simp [ownL, Value.ownBlock] at hz)
                have HN1 : Hid (NewL wb.heap.size v1) := by show NewL _ _; intro z hz; have := HOm.out.size; rcases hg1.out z hz with h3 | h3; simp [ownL, Value.ownBlock] at h3; omega
                have HNG : Hid (∀ z ∈ ownL v1, w7.heap.size ≤ z) := by show ∀ z ∈ _, _; intro z hz; rcases hg1.out z hz with h3 | h3; simp [ownL, Value.ownBlock] at h3; omega
                have HOn : Hid (Only [] wb w8) := HOm.out.trans HOx.out
                have hFn : F w8 := HFF.out _ (HOn.out.mono (by simp))
                clear hr1 ho1 hg1
                go_wp2_with fail
                refine MixPost.normal hFn ?_
                have HCk : Hid (w8.cell? ⟨C1, 0, none⟩ = some (.int .i64 i)) := (HOx.out.cell (p := ⟨C1, 0, none⟩) HCM.out (by simp)).trans HCC.out
                refine mix_run 16 (by kernel_rfl) ?_
                simp only [segOf, pickOps, pickOp]
                refine wpList_append_int rfl (.tmp 72) (.tmp 74) rfl v1 xi rfl HR1.out C1 i rfl HCk.out (by have := HML.out; omega) ?_
                intro g2 cap2 w9 hr2 ho2 hg2
                have HR2 : Hid (IRow w9 (.slice (some ⟨g2, 0, none⟩) (xi.length + 1) cap2) (xi ++ [i])) := hr2.out
                have HO2 : Hid (Only [] wb w9) := HOn.out.next ho2.out (fun z hz => .inr (HN1.out z hz))
                have HN2 : Hid (wb.heap.size ≤ g2) := by show _ ≤ _; have := HOn.out.size; rcases hg2.out with h3 | h3; exact HN1.out g2 h3; omega
                clear hr2 ho2 hg2
                obtain ⟨yx, hyx⟩ : ∃ yx : Px, yx = ⟨⟨xn, xw, xi ++ [i]⟩, some ⟨g2, 0, none⟩, cap2⟩ := ⟨_, rfl⟩
                have hyv : yx.v = .slice (some ⟨g2, 0, none⟩) (xi.length + 1) cap2 := by rw [hyx]; simp [Px.v]
                have HYP : Hid (yx.p = ⟨xn, xw, xi ++ [i]⟩) := by show _ = _; rw [hyx]
                have HM2 := Lib.hid (HHb.out.members (y := yx) HN.out HKN.out (HO2.out.mono (by simp)) (by rw [hyv, HYP.out]; exact HR2.out) (fun z hz => by rw [hyv] at hz; simp [ownL, Value.ownBlock] at hz; subst hz; exact .inr HN2.out) (by rw [HYP.out, ← HXX.out]) (by rw [HYP.out, ← HXX.out]))
                rw [hyv] at HM2
                clear hyx hyv
                obtain ⟨W3, hW3⟩ : ∃ W3, W3 = w9.setCell ⟨gv, a * 7 + 6, none⟩ (.slice (some ⟨g2, 0, none⟩) (xi.length + 1) cap2) := ⟨_, rfl⟩
                rw [← hW3] at HM2
                have HO3 : Hid (Only [gv] wb W3) := by show Only _ _ _; rw [hW3]; exact (HO2.out.mono (by simp)).setCell (p := ⟨gv, a * 7 + 6, none⟩) (by simp) _
                have hk2 := (HF6.out _ HO2.out).1
                have hk4 := (HF6.out _ HO2.out).2
                have hk3 := (HHb.out.old HO2.out).row.thaw HN.out (a * 7 + 6)
                have hF2 : F w9 := HFF.out _ (HO2.out.mono (by simp))
                have hF3 : F W3 := HFF.out _ HO3.out
                go_wp2_with fail
                refine MixPost.normal hF2 ?_
                refine mix_seg [17, 18] (by kernel_rfl) hF2 ?_
                simp only [segOf, pickOps, pickOp]
                repeat (go_big_quiet_step (rfl))
                refine wpQuiet_nil ?_
                refine mix_run 19 (by kernel_rfl) ?_
                simp only [segOf, pickOps, pickOp]
                go_wp2_with fail
                rw [← hW3]
                clear hW3 hk2 hk3 hk4
                refine MixPost.normal hF3 ?_
                refine mix_done (by kernel_rfl) ?_
                clear hx0 hF0 hF2 hF3 HFF
                have hc3 := HM2.out.1.c1
                have hg3 := HM2.out.1.lt
                obtain ⟨r0, r1, r2, r3, r4, r5, r6⟩ := HM2.out.1.row.el (by rw [List.length_set]; exact HN.out) (k := a) (by rw [List.length_set]; exact HKN.out)
                rw [nthX_set HKN.out, HYP.out] at r0
                clear r1 r2 r3 r4 r5 r6
                go_wp2
                go_ret3
                refine ⟨by rw [HR.out.1, HR.out.2.1, HE.out]; rfl, ?_⟩
                rw [HR.out.2.2]
                exact ShStep.past (HO1.out.trans HOb.out) ⟨_, _, HM2.out.1, by rw [map_set HL.out, HYP.out], HM2.out.2.1, HM2.out.2.2⟩
            · simp only [segOf, pickOps, pickOp]
              obtain ⟨w7, hal⟩ : ∃ w7, w7 = W0.alloc (.cells #[.int .i64 i] 3) := ⟨_, rfl⟩
              obtain ⟨C1, hC1⟩ : ∃ C1, C1 = W0.heap.size := ⟨_, rfl⟩
              have HOal : Hid (Only [] W0 w7) := by show Only _ _ _; rw [hal]; exact (Only.refl _ _).alloc _
              have HOm : Hid (Only [] wb w7) := HO0.out.trans HOal.out
              have HCC : Hid (w7.cell? ⟨C1, 0, none⟩ = some (.int .i64 i)) := by show _ = _; rw [hal, hC1]; simp
              have HCL : Hid (C1 = W0.heap.size) := hC1
              have HCM : Hid (C1 < w7.heap.size) := block_of_cell (a := ⟨C1, 0, none⟩) HCC.out
              have hFm : F w7 := HFF.out _ (HOm.out.mono (by simp))
              go_wp2_with fail
              rw [← hal, ← hC1]
              clear hal hC1
              refine MixPost.normal hFm ?_
              refine mix_run 12 (by kernel_rfl) ?_
              simp only [segOf, pickOps, pickOp]
              have hk0 := (HF6.out _ HOm.out).1
              have hk1 := (HF6.out _ HOm.out).2
              go_wp2_with fail
              refine MixPost.normal hFm ?_
              clear hk0 hk1
              refine mix_run 13 (by kernel_rfl) ?_
              simp only [segOf, pickOps, pickOp]
              have HIm := Lib.hid (HIR0.out.old HOal.out)
              refine wpList_append_ints rfl (.const (.slice none 0 0)) (.tmp 71) rfl (.slice none 0 0) [] rfl IRow.nil _ xi rfl (ERow.part HIm.out) (by have := HML.out; simp; omega) ?_
              intro v1 w8 hr1 ho1 hg1
              have HR1 : Hid (IRow w8 v1 xi) := hr1.out
              have HOx : Hid (Only [] w7 w8) := ho1.out.mono (by intro z hz; simp [ownL, Value.ownBlock] at hz)
              have HN1 : Hid (NewL wb.heap.size v1) := by show NewL _ _; intro z hz; have := HOm.out.size; rcases hg1.out z hz with h3 | h3; simp [ownL, Value.ownBlock] at h3; omega
              have HNG : Hid (∀ z ∈ ownL v1, w7.heap.size ≤ z) := by show ∀ z ∈ _, _; intro z hz; rcases hg1.out z hz with h3 | h3; simp [ownL, Value.ownBlock] at h3; omega
              have HOn : Hid (Only [] wb w8) := HOm.out.trans HOx.out
              have hFn : F w8 := HFF.out _ (HOn.out.mono (by simp))
              clear hr1 ho1 hg1
              go_wp2_with fail
              refine MixPost.normal hFn ?_
              have HCk : Hid (w8.cell? ⟨C1, 0, none⟩ = some (.int .i64 i)) := (HOx.out.cell (p := ⟨C1, 0, none⟩) HCM.out (by simp)).trans HCC.out
              refine mix_run 16 (by kernel_rfl) ?_
              simp only [segOf, pickOps, pickOp]
              refine wpList_append_int rfl (.tmp 72) (.tmp 74) rfl v1 xi rfl HR1.out C1 i rfl HCk.out (by have := HML.out; omega) ?_
              intro g2 cap2 w9 hr2 ho2 hg2
              have HR2 : Hid (IRow w9 (.slice (some ⟨g2, 0, none⟩) (xi.length + 1) cap2) (xi ++ [i])) := hr2.out
              have HO2 : Hid (Only [] wb w9) := HOn.out.next ho2.out (fun z hz => .inr (HN1.out z hz))
              have HN2 : Hid (wb.heap.size ≤ g2) := by show _ ≤ _; have := HOn.out.size; rcases hg2.out with h3 | h3; exact HN1.out g2 h3; omega
              clear hr2 ho2 hg2
              obtain ⟨yx, hyx⟩ : ∃ yx : Px, yx = ⟨⟨xn, xw, xi ++ [i]⟩, some ⟨g2, 0, none⟩, cap2⟩ := ⟨_, rfl⟩
              have hyv : yx.v = .slice (some ⟨g2, 0, none⟩) (xi.length + 1) cap2 := by rw [hyx]; simp [Px.v]
              have HYP : Hid (yx.p = ⟨xn, xw, xi ++ [i]⟩) := by show _ = _; rw [hyx]
              have HM2 := Lib.hid (HHb.out.members (y := yx) HN.out HKN.out (HO2.out.mono (by simp)) (by rw [hyv, HYP.out]; exact HR2.out) (fun z hz => by rw [hyv] at hz; simp [ownL, Value.ownBlock] at hz; subst hz; exact .inr HN2.out) (by rw [HYP.out, ← HXX.out]) (by rw [HYP.out, ← HXX.out]))
              rw [hyv] at HM2
              clear hyx hyv
              obtain ⟨W3, hW3⟩ : ∃ W3, W3 = w9.setCell ⟨gv, a * 7 + 6, none⟩ (.slice (some ⟨g2, 0, none⟩) (xi.length + 1) cap2) := ⟨_, rfl⟩
              rw [← hW3] at HM2
              have HO3 : Hid (Only [gv] wb W3) := by show Only _ _ _; rw [hW3]; exact (HO2.out.mono (by simp)).setCell (p := ⟨gv, a * 7 + 6, none⟩) (by simp) _
              have hk2 := (HF6.out _ HO2.out).1
              have hk4 := (HF6.out _ HO2.out).2
              have hk3 := (HHb.out.old HO2.out).row.thaw HN.out (a * 7 + 6)
              have hF2 : F w9 := HFF.out _ (HO2.out.mono (by simp))
              have hF3 : F W3 := HFF.out _ HO3.out
              go_wp2_with fail
              refine MixPost.normal hF2 ?_
              refine mix_seg [17, 18] (by kernel_rfl) hF2 ?_
              simp only [segOf, pickOps, pickOp]
              repeat (go_big_quiet_step (rfl))
              refine wpQuiet_nil ?_
              refine mix_run 19 (by kernel_rfl) ?_
              simp only [segOf, pickOps, pickOp]
              go_wp2_with fail
              rw [← hW3]
              clear hW3 hk2 hk3 hk4
              refine MixPost.normal hF3 ?_
              refine mix_done (by kernel_rfl) ?_
              clear hx0 hF0 hF2 hF3 HFF
              have hc3 := HM2.out.1.c1
              have hg3 := HM2.out.1.lt
              obtain ⟨r0, r1, r2, r3, r4, r5, r6⟩ := HM2.out.1.row.el (by rw [List.length_set]; exact HN.out) (k := a) (by rw [List.length_set]; exact HKN.out)
              rw [nthX_set HKN.out, HYP.out] at r0
              clear r1 r2 r3 r4 r5 r6
              go_wp2
              go_ret3
              refine ⟨by rw [HR.out.1, HR.out.2.1, HE.out]; rfl, ?_⟩
              rw [HR.out.2.2]
              exact ShStep.past (HO1.out.trans HOb.out) ⟨_, _, HM2.out.1, by rw [map_set HL.out, HYP.out], HM2.out.2.1, HM2.out.2.2⟩
        · obtain rfl : n = a := by omega
          have HWK : Hid (¬ wantK k s < s.l.length) := spot_none (fun j hj => HNA.out j (by have := HN.out; have := HLN.out; omega))
          have HR : Hid (joinN k i s = s.last + 1 ∧ joinF k i s = true ∧ joinS k i s = openS k i s) := by
            show _ ∧ _ ∧ _
            unfold joinN joinF joinS
            rw [if_pos HE.out, if_pos HE.out, if_neg HWK.out, if_neg HWK.out]
            exact ⟨rfl, decide_eq_true ⟨HE.out, HWK.out⟩, rfl⟩
          obtain ⟨last, hlast⟩ : ∃ last, last = s.last + 1 := ⟨_, rfl⟩
          have HLST := Lib.hid hlast
          have HLO : Hid (openS k i s = ⟨last, s.l ++ [⟨last, k, [i]⟩]⟩) := by show _ = _; unfold openS; rw [hlast]
          obtain ⟨z, hz⟩ : ∃ z : Int, z = (last : Int) := ⟨_, rfl⟩
          have HZ := Lib.hid hz
          obtain ⟨y, hy⟩ : ∃ y : Int, y = ((s.last + 0 : Nat) : Int) := ⟨_, rfl⟩
          have hyz : y + 1 = z := by rw [hy, hz, hlast]; omega
          have hyb : 0 ≤ y ∧ y ≤ 1000000000 := by have := HLA.out; omega
          obtain ⟨yb1, yb2⟩ := hyb
          obtain ⟨w2, hw2⟩ : ∃ w2, w2 = wr.setCell ⟨g, 0, none⟩ (.int .i64 ((last + 0 : Nat) : Int)) := ⟨_, rfl⟩
          have HPb : Hid (ShAt eR 0 w2 g (.slice A n cap) last l) := by show ShAt _ _ _ _ _ _ _; rw [hw2]; exact (HHr.out.set0 last).1
          have HOb : Hid (Only (foot g (.slice A n cap) l) w w2) := by show Only _ _ _; rw [hw2]; exact ((HO1.out.trans HO.out).mono (by simp)).trans (HHr.out.set0 last).2
          have HXb : Hid (WtAt w2 B1 0 k) := by
            show WtAt _ _ _ _
            rw [hw2]
            refine (HX1.out.old HO.out).only (s := [g]) ((Only.refl _ _).setCell (p := ⟨g, 0, none⟩) (by simp) _) ?_
            intro hm
            simp at hm
            exact HBF.out (by rw [hm]; exact mem_foot.2 (.inl rfl))
          have HSb : Hid (w.heap.size ≤ w2.heap.size) := HOb.out.size
          have HBN : Hid (B1 ∉ ownL (.slice A n cap)) := by show _ ∉ _; intro hm; exact HBF.out (mem_foot.2 (.inr (.inl hm)))
          have HBG : Hid (B1 ∉ [g]) := by show _ ∉ _; intro hm; simp at hm; exact HBF.out (by rw [hm]; exact mem_foot.2 (.inl rfl))
          have HLEN : Hid (l.length ≤ 100) := by show _ ≤ _; have := HK.out.len; have := HLN.out; omega
          have hc0 := HHr.out.c0
          have hz0 := HHr.out.z0
          rw [← hy] at hc0
          rw [show ((last + 0 : Nat) : Int) = z by rw [hz]; simp] at hw2
          clear hlast hz hy
          go_wp2_with fail
          rw [← hw2]
          clear hw2 hc0 hz0 hc1 hgl
          obtain ⟨W0, hW0⟩ : ∃ W0, W0 = w2.drew := ⟨_, rfl⟩
          have HO0 : Hid (Only [] w2 W0) := by show Only _ _ _; rw [hW0]; exact (Only.refl _ _).drew
          have HQ0 := Lib.hid (HPb.out.old HO0.out)
          obtain ⟨W1, hW1⟩ : ∃ W1, W1 = W0.alloc (.cells #[.int .i64 i] 3) := ⟨_, rfl⟩
          obtain ⟨C1, hC1⟩ : ∃ C1, C1 = W0.heap.size := ⟨_, rfl⟩
          have HO1 : Hid (Only [] w2 W1) := by show Only _ _ _; rw [hW1]; exact HO0.out.alloc _
          have HI1 : Hid (IRow W1 (.slice (some ⟨C1, 0, none⟩) 1 1) [i]) := by show IRow _ _ _; rw [hW1, hC1]; exact IRow.one (heap_alloc_new _ _)
          have HCS : Hid (w2.heap.size ≤ C1 ∧ C1 < W1.heap.size) := by show _ ∧ _; rw [hC1, hW1]; exact ⟨HO0.out.size, by simp⟩
          obtain ⟨W2, hW2⟩ : ∃ W2, W2 = W1.alloc (.cells #[.int .i64 z, .string k.o, .string k.u, .bool k.c, .string k.m, .string k.s, .slice (some ⟨C1, 0, none⟩) 1 1] 76) := ⟨_, rfl⟩
          obtain ⟨C2, hC2⟩ : ∃ C2, C2 = W1.heap.size := ⟨_, rfl⟩
          obtain ⟨xn, hxn⟩ : ∃ xn : Px, xn = ⟨⟨last, k, [i]⟩, some ⟨C1, 0, none⟩, 1⟩ := ⟨_, rfl⟩
          have HO2 : Hid (Only [] w2 W2) := by show Only _ _ _; rw [hW2]; exact HO1.out.alloc _
          have HN2 : Hid (PxAt W2 C2 0 xn) := by show PxAt _ _ _ _; rw [hW2, hC2, HZ.out, hxn]; exact PxAt.new _ ⟨⟨last, k, [i]⟩, some ⟨C1, 0, none⟩, 1⟩ _
          have HI2 : Hid (IRow W2 (.slice (some ⟨C1, 0, none⟩) 1 1) [i]) := by show IRow _ _ _; rw [hW2]; exact HI1.out.old ((Only.refl _ _).alloc _)
          have HCS2 : Hid (C1 < W2.heap.size) := by show _ < _; rw [hW2]; have := HCS.out; simp; omega
          have HXN := Lib.hid hxn
          clear hxn
          have HQ2 := Lib.hid (HPb.out.old HO2.out)
          have hgl0 := HQ0.out.lt
          have HGL : Hid (g < w2.heap.size) := HPb.out.lt
          have HC01 : Hid (∀ W', Only [] w2 W' → W'.cell? ⟨g, 1, none⟩ = some (.slice A n cap) ∧ g < W'.heap.size) := by show ∀ W', _; intro W' ho; exact ⟨(HPb.out.old ho).c1, (HPb.out.old ho).lt⟩
          obtain ⟨F, hF⟩ : ∃ F : World → Prop, ∀ W, F W ↔ (WtAt W B1 0 k ∧ W.cell? ⟨g, 0, none⟩ = some (.int .i64 z)) := ⟨_, fun _ => Iff.rfl⟩
          have hx0 : ∀ p : Held F, p.w.cell? ⟨B1, 0, none⟩ = some (.string k.o) := fun p => ((hF _).1 p.h).1.c0
          have hx1 : ∀ p : Held F, p.w.cell? ⟨B1, 1, none⟩ = some (.string k.u) := fun p => ((hF _).1 p.h).1.c1
          have hx2 : ∀ p : Held F, p.w.cell? ⟨B1, 2, none⟩ = some (.bool k.c) := fun p => ((hF _).1 p.h).1.c2
          have hx3 : ∀ p : Held F, p.w.cell? ⟨B1, 3, none⟩ = some (.string k.m) := fun p => ((hF _).1 p.h).1.c3
          have hx4 : ∀ p : Held F, p.w.cell? ⟨B1, 4, none⟩ = some (.string k.s) := fun p => ((hF _).1 p.h).1.c4
          have hx5 : ∀ p : Held F, p.w.cell? ⟨g, 0, none⟩ = some (.int .i64 z) := fun p => ((hF _).1 p.h).2
          have HFF : Hid (∀ W', Only (ownL (.slice A n cap)) w2 W' → F W') := by
            show ∀ W', _
            intro W' ho
            exact (hF _).2 (⟨HXb.out.only ho HBN.out, by rw [show z = ((last + 0 : Nat) : Int) from by rw [HZ.out]; simp]; exact ((ho.cell (p := ⟨g, 0, none⟩) HPb.out.lt (foot_nodup.1 HPb.out.nd).1).trans HPb.out.c0)⟩)
          have HFS : Hid (∀ W' u, F W' → F (W'.setCell ⟨g, 1, none⟩ u)) := by
            show ∀ W' u, _
            intro W' u hw
            have hw' := (hF _).1 hw
            refine (hF _).2 ?_
            exact ⟨(hw'.1.only (s := [g]) ((Only.refl _ _).setCell (p := ⟨g, 1, none⟩) (by simp) _) (by simpa using HBG.out)), by rw [World.cell?_setCell_other _ _ _ _ (by simp)]; exact hw'.2⟩
          clear hF
          go_wp2_with fail
          refine mix_start F (by kernel_rfl) ?_
          rw [← hW0]
          clear hW0
          refine mix_seg [0, 1, 2, 3, 5, 6, 7, 8, 9, 10] (by kernel_rfl) (HFF.out _ (HO0.out.mono (by simp))) ?_
          simp only [segOf, pickOps, pickOp]
          repeat (go_big_quiet_step (rfl))
          refine wpQuiet_nil ?_
          clear hx0 hx1 hx2 hx3 hx4 hx5
          refine mix_several [4, 11] (by kernel_rfl) ?_
          intro i1 hi1
          simp only [List.mem_cons, List.not_mem_nil, or_false] at hi1
          rcases hi1 with rfl | rfl
          · simp only [segOf, pickOps, pickOp]
            have hk0 := (HC01.out _ HO0.out).1
            have hk1 := (HC01.out _ HO0.out).2
            go_wp2_with fail
            refine MixPost.normal (HFF.out _ (HO0.out.mono (by simp))) ?_
            clear hk0 hk1
            refine mix_run 11 (by kernel_rfl) ?_
            simp only [segOf, pickOps, pickOp]
            go_wp2_with fail
            rw [← hW1, ← hC1]
            clear hW1 hC1
            refine MixPost.normal (HFF.out _ (HO1.out.mono (by simp))) ?_
            refine mix_seg [12] (by kernel_rfl) (HFF.out _ (HO1.out.mono (by simp))) ?_
            simp only [segOf, pickOps, pickOp]
            repeat (go_big_quiet_step (rfl))
            refine wpQuiet_nil ?_
            refine mix_run 13 (by kernel_rfl) ?_
            simp only [segOf, pickOps, pickOp]
            go_wp2_with fail
            rw [← hW2, ← hC2]
            clear hW2 hC2
            refine MixPost.normal (HFF.out _ (HO2.out.mono (by simp))) ?_
            refine mix_run 14 (by kernel_rfl) ?_
            simp only [segOf, pickOps, pickOp]
            refine wpList_append_pre rfl (.tmp 97) (.tmp 106) 48 76 rfl Try.underlying48 infoR _ l rfl HQ2.out.row C2 xn rfl HN2.out (by have := HLEN.out; omega) ?_
            intro g2 cap2 w4 hr4 ho4 hg4
            obtain ⟨v8, hv8⟩ : ∃ v8, v8 = Value.slice (some ⟨g2, 0, none⟩) (l.length + 1) cap2 := ⟨_, rfl⟩
            rw [← hv8] at hr4
            have HP8 := Lib.hid (HPb.out.pushed xn (by rw [HXN.out]; simp [ownL, Value.ownBlock]) HCS.out.1 HCS2.out HO2.out (by rw [HXN.out]; exact HI2.out) ho4.out hr4.out hg4.out hv8)
            have HO4 : Hid (Only (ownL (.slice A n cap)) w2 w4) := (HO2.out.mono (by simp)).trans ho4.out
            have hk2 : w4.cell? ⟨g, 1, none⟩ = some (.slice A n cap) := (HO4.out.cell (p := ⟨g, 1, none⟩) HPb.out.lt (foot_nodup.1 HPb.out.nd).1).trans HPb.out.c1
            have hk3 : w4.frozen? ⟨g, 1, none⟩ = false := (HO4.out.frozen (p := ⟨g, 1, none⟩) HPb.out.lt (foot_nodup.1 HPb.out.nd).1).trans HPb.out.z1
            have hk4 : g < w4.heap.size := Nat.lt_of_lt_of_le HPb.out.lt HO4.out.size
            have HF2 : Hid (F w4) := HFF.out _ HO4.out
            have HF3 : Hid (F (w4.setCell ⟨g, 1, none⟩ v8)) := HFS.out _ _ HF2.out
            obtain ⟨W5, hW5⟩ : ∃ W5, W5 = w4.setCell ⟨g, 1, none⟩ v8 := ⟨_, rfl⟩
            rw [← hW5] at HP8 HF3
            rw [hv8] at hW5
            clear hr4 ho4 hg4
            go_wp2_with fail
            refine MixPost.normal HF2.out ?_
            refine mix_seg [15, 16] (by kernel_rfl) HF2.out ?_
            simp only [segOf, pickOps, pickOp]
            repeat (go_big_quiet_step (rfl))
            refine wpQuiet_nil ?_
            refine mix_run 17 (by kernel_rfl) ?_
            simp only [segOf, pickOps, pickOp]
            go_wp2_with fail
            rw [← hW5]
            clear hW5 hk2 hk3 hk4
            refine MixPost.normal HF3.out ?_
            refine mix_done (by kernel_rfl) ?_
            have hc0 := HP8.out.1.c0
            have hg0 := HP8.out.1.lt
            rw [show ((last + 0 : Nat) : Int) = z by rw [HZ.out]; simp] at hc0
            go_wp2
            go_ret3
            refine ⟨by rw [HR.out.1, HR.out.2.1, HE.out, ← HLST.out, HZ.out]; rfl, ?_⟩
            rw [HR.out.2.2, HLO.out]
            refine ⟨v8, l ++ [xn], HP8.out.1, by rw [map_push HL.out, HXN.out], HOb.out.trans HP8.out.2.1, fun y hy => (HP8.out.2.2 y hy).imp id (Nat.le_trans HSb.out)⟩
          · simp only [segOf, pickOps, pickOp]
            go_wp2_with fail
            rw [← hW1, ← hC1]
            clear hW1 hC1
            refine MixPost.normal (HFF.out _ (HO1.out.mono (by simp))) ?_
            refine mix_seg [12] (by kernel_rfl) (HFF.out _ (HO1.out.mono (by simp))) ?_
            simp only [segOf, pickOps, pickOp]
            repeat (go_big_quiet_step (rfl))
            refine wpQuiet_nil ?_
            refine mix_several [4, 13] (by kernel_rfl) ?_
            intro i1 hi1
            simp only [List.mem_cons, List.not_mem_nil, or_false] at hi1
            rcases hi1 with rfl | rfl
            · simp only [segOf, pickOps, pickOp]
              have hk0 := (HC01.out _ HO1.out).1
              have hk1 := (HC01.out _ HO1.out).2
              go_wp2_with fail
              refine MixPost.normal (HFF.out _ (HO1.out.mono (by simp))) ?_
              clear hk0 hk1
              refine mix_run 13 (by kernel_rfl) ?_
              simp only [segOf, pickOps, pickOp]
              go_wp2_with fail
              rw [← hW2, ← hC2]
              clear hW2 hC2
              refine MixPost.normal (HFF.out _ (HO2.out.mono (by simp))) ?_
              refine mix_run 14 (by kernel_rfl) ?_
              simp only [segOf, pickOps, pickOp]
              refine wpList_append_pre rfl (.tmp 97) (.tmp 106) 48 76 rfl Try.underlying48 infoR _ l rfl HQ2.out.row C2 xn rfl HN2.out (by have := HLEN.out; omega) ?_
              intro g2 cap2 w4 hr4 ho4 hg4
              obtain ⟨v8, hv8⟩ : ∃ v8, v8 = Value.slice (some ⟨g2, 0, none⟩) (l.length + 1) cap2 := ⟨_, rfl⟩
              rw [← hv8] at hr4
              have HP8 := Lib.hid (HPb.out.pushed xn (by rw [HXN.out]; simp [ownL, Value.ownBlock]) HCS.out.1 HCS2.out HO2.out (by rw [HXN.out]; exact HI2.out) ho4.out hr4.out hg4.out hv8)
              have HO4 : Hid (Only (ownL (.slice A n cap)) w2 w4) := (HO2.out.mono (by simp)).trans ho4.out
              have hk2 : w4.cell? ⟨g, 1, none⟩ = some (.slice A n cap) := (HO4.out.cell (p := ⟨g, 1, none⟩) HPb.out.lt (foot_nodup.1 HPb.out.nd).1).trans HPb.out.c1
              have hk3 : w4.frozen? ⟨g, 1, none⟩ = false := (HO4.out.frozen (p := ⟨g, 1, none⟩) HPb.out.lt (foot_nodup.1 HPb.out.nd).1).trans HPb.out.z1
              have hk4 : g < w4.heap.size := Nat.lt_of_lt_of_le HPb.out.lt HO4.out.size
              have HF2 : Hid (F w4) := HFF.out _ HO4.out
              have HF3 : Hid (F (w4.setCell ⟨g, 1, none⟩ v8)) := HFS.out _ _ HF2.out
              obtain ⟨W5, hW5⟩ : ∃ W5, W5 = w4.setCell ⟨g, 1, none⟩ v8 := ⟨_, rfl⟩
              rw [← hW5] at HP8 HF3
              rw [hv8] at hW5
              clear hr4 ho4 hg4
              go_wp2_with fail
              refine MixPost.normal HF2.out ?_
              refine mix_seg [15, 16] (by kernel_rfl) HF2.out ?_
              simp only [segOf, pickOps, pickOp]
              repeat (go_big_quiet_step (rfl))
              refine wpQuiet_nil ?_
              refine mix_run 17 (by kernel_rfl) ?_
              simp only [segOf, pickOps, pickOp]
              go_wp2_with fail
              rw [← hW5]
              clear hW5 hk2 hk3 hk4
              refine MixPost.normal HF3.out ?_
              refine mix_done (by kernel_rfl) ?_
              have hc0 := HP8.out.1.c0
              have hg0 := HP8.out.1.lt
              rw [show ((last + 0 : Nat) : Int) = z by rw [HZ.out]; simp] at hc0
              go_wp2
              go_ret3
              refine ⟨by rw [HR.out.1, HR.out.2.1, HE.out, ← HLST.out, HZ.out]; rfl, ?_⟩
              rw [HR.out.2.2, HLO.out]
              refine ⟨v8, l ++ [xn], HP8.out.1, by rw [map_push HL.out, HXN.out], HOb.out.trans HP8.out.2.1, fun y hy => (HP8.out.2.2 y hy).imp id (Nat.le_trans HSb.out)⟩
            · simp only [segOf, pickOps, pickOp]
              go_wp2_with fail
              rw [← hW2, ← hC2]
              clear hW2 hC2
              refine MixPost.normal (HFF.out _ (HO2.out.mono (by simp))) ?_
              refine mix_run 4 (by kernel_rfl) ?_
              simp only [segOf, pickOps, pickOp]
              have hk0 := (HC01.out _ HO2.out).1
              have hk1 := (HC01.out _ HO2.out).2
              go_wp2_with fail
              refine MixPost.normal (HFF.out _ (HO2.out.mono (by simp))) ?_
              clear hk0 hk1
              refine mix_run 14 (by kernel_rfl) ?_
              simp only [segOf, pickOps, pickOp]
              refine wpList_append_pre rfl (.tmp 97) (.tmp 106) 48 76 rfl Try.underlying48 infoR _ l rfl HQ2.out.row C2 xn rfl HN2.out (by have := HLEN.out; omega) ?_
              intro g2 cap2 w4 hr4 ho4 hg4
              obtain ⟨v8, hv8⟩ : ∃ v8, v8 = Value.slice (some ⟨g2, 0, none⟩) (l.length + 1) cap2 := ⟨_, rfl⟩
              rw [← hv8] at hr4
              have HP8 := Lib.hid (HPb.out.pushed xn (by rw [HXN.out]; simp [ownL, Value.ownBlock]) HCS.out.1 HCS2.out HO2.out (by rw [HXN.out]; exact HI2.out) ho4.out hr4.out hg4.out hv8)
              have HO4 : Hid (Only (ownL (.slice A n cap)) w2 w4) := (HO2.out.mono (by simp)).trans ho4.out
              have hk2 : w4.cell? ⟨g, 1, none⟩ = some (.slice A n cap) := (HO4.out.cell (p := ⟨g, 1, none⟩) HPb.out.lt (foot_nodup.1 HPb.out.nd).1).trans HPb.out.c1
              have hk3 : w4.frozen? ⟨g, 1, none⟩ = false := (HO4.out.frozen (p := ⟨g, 1, none⟩) HPb.out.lt (foot_nodup.1 HPb.out.nd).1).trans HPb.out.z1
              have hk4 : g < w4.heap.size := Nat.lt_of_lt_of_le HPb.out.lt HO4.out.size
              have HF2 : Hid (F w4) := HFF.out _ HO4.out
              have HF3 : Hid (F (w4.setCell ⟨g, 1, none⟩ v8)) := HFS.out _ _ HF2.out
              obtain ⟨W5, hW5⟩ : ∃ W5, W5 = w4.setCell ⟨g, 1, none⟩ v8 := ⟨_, rfl⟩
              rw [← hW5] at HP8 HF3
              rw [hv8] at hW5
              clear hr4 ho4 hg4
              go_wp2_with fail
              refine MixPost.normal HF2.out ?_
              refine mix_seg [15, 16] (by kernel_rfl) HF2.out ?_
              simp only [segOf, pickOps, pickOp]
              repeat (go_big_quiet_step (rfl))
              refine wpQuiet_nil ?_
              refine mix_run 17 (by kernel_rfl) ?_
              simp only [segOf, pickOps, pickOp]
              go_wp2_with fail
              rw [← hW5]
              clear hW5 hk2 hk3 hk4
              refine MixPost.normal HF3.out ?_
              refine mix_done (by kernel_rfl) ?_
              have hc0 := HP8.out.1.c0
              have hg0 := HP8.out.1.lt
              rw [show ((last + 0 : Nat) : Int) = z by rw [HZ.out]; simp] at hc0
              go_wp2
              go_ret3
              refine ⟨by rw [HR.out.1, HR.out.2.1, HE.out, ← HLST.out, HZ.out]; rfl, ?_⟩
              rw [HR.out.2.2, HLO.out]
              refine ⟨v8, l ++ [xn], HP8.out.1, by rw [map_push HL.out, HXN.out], HOb.out.trans HP8.out.2.1, fun y hy => (HP8.out.2.2 y hy).imp id (Nat.le_trans HSb.out)⟩
end
end Go.Proofs.Ytcljmdpnbfefbaa
