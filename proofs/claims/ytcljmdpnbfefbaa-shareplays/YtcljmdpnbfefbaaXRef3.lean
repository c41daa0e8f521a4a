/-
  The contract of the document's own Leave over this seat's program. Conditions: the table lies there; what holds of it at any time.
-/
import Derived.Test.YtcljmdpnbfefbaaXRef2
namespace Go.Proofs.Ytcljmdpnbfefbaa
open Go.RowKit

theorem nthX_set {l : List Px} {k : Nat} (h : k < l.length) (y : Px) : nthX (l.set k y) k = y := by
  rw [nthX_eq (by simpa using h)]; simp
section
variable (g : Nat) (v : Value) (l : List Px) (s : Sv) (w : World) (h : ShAt eR 0 w g v s.last l) (hl : l.map Px.p = s.l)
include h hl
set_option maxRecDepth 20000 in
set_option maxHeartbeats 16000000 in
theorem rLeave_any (i : Int) (ok : Ok s) :
    Calls Try.prog 15 #[.pointer (some ⟨g, 0, none⟩), .int .i64 i] w fun e w' =>
      e = .returned (.tuple #[.int .i64 (leaveN i s : Int), .bool (leaveF i s), .bool (leaveO i s)]) ∧ ShStep eR 0 w w' g (foot g v l) (leaveS i s) := by
  obtain ⟨A, cap, hv, hlc, hcm⟩ := h.row.slice
  have HH := Lib.hid h
  have HL := Lib.hid hl
  have HK := Lib.hid ok
  have HLN := Lib.hid (map_len hl)
  have hc1 := h.c1
  have hgl := h.lt
  unfold maxLen at hcm
  obtain ⟨n, hn0⟩ : ∃ n, n = l.length := ⟨_, rfl⟩
  rw [← hn0] at hlc hv
  have HN := Lib.hid hn0
  subst hv
  clear h hl hn0 ok
  go_enter Try.func15, Try.ntmps15
  go_wp2_with fail
  go_loop [7] (fun q => ∃ k : Nat, k ≤ n ∧ q = .int .i64 (k : Int) ∧ ∀ j, j < k → hasI i (nthP s.l j) = false) (fun q => n - (intOf q).toNat)
  case atStart => exact ⟨0, Nat.zero_le _, rfl, fun j hj => by omega⟩
  case round =>
    obtain ⟨k, hk, rfl, hn⟩ := hrel
    have HNO := Lib.hid hn
    clear hn
    by_cases hlt : k < n
    · obtain ⟨gv, cap2, hv2, hgs, _, _⟩ := HH.out.row.some_ (by have := HN.out; omega)
      obtain ⟨rfl, rfl⟩ : A = some ⟨gv, 0, none⟩ ∧ cap = cap2 := by
        injection hv2 with e1 e2 e3
        exact ⟨e1, e3⟩
      obtain ⟨f0, f1, f2, f3, f4, f5, f6⟩ := HH.out.row.el HN.out (k := k) (by have := HN.out; omega)
      have HIR := Lib.hid (HH.out.ids _ (nthX_mem (k := k) (by have := HN.out; omega)))
      have hX : (nthX l k).p = nthP s.l k := nthX_p HL.out
      have hkl : k < s.l.length := by have := HN.out; have := HLN.out; omega
      have HKL := Lib.hid hkl
      obtain ⟨x, hx⟩ : ∃ x, x = nthX l k := ⟨_, rfl⟩
      rw [← hx] at f0 f6 HIR hX
      have HXX := Lib.hid hx
      obtain ⟨⟨xn, xw, xi⟩, xA, xc⟩ := x
      have HXP := Lib.hid hX
      simp only [Px.v] at f0 f6 HIR
      have HML : Hid (xi.length ≤ 64) := by
        show _ ≤ _
        have h1 := HK.out.mem (nthP_mem HKL.out)
        rw [← HXP.out] at h1
        exact h1
      have HY : Hid (i ∈ xi → leaveN i s = xn ∧ leaveO i s = true ∧ leaveF i s = decide (xi.length = 1) ∧ leaveS i s = if xi.length = 1 then outK k s else ⟨s.last, s.l.set k ⟨xn, xw, xi.erase i⟩⟩) := fun e => by
        have h1 : homeK i s = k := spot_first HKL.out (hasI_iff.2 (by rw [← HXP.out]; exact e)) HNO.out
        unfold leaveN leaveO leaveF leaveS lessK less
        rw [h1, if_pos HKL.out, if_pos HKL.out, ← HXP.out]
        exact ⟨rfl, decide_eq_true HKL.out, by simp [HKL.out], rfl⟩
      have HZ : Hid (i ∉ xi → ∀ j, j < k + 1 → hasI i (nthP s.l j) = false) := fun e j hj => by
        by_cases ej : j = k
        · subst ej; rw [← HXP.out, ← Bool.not_eq_true, hasI_iff]; exact e
        · exact HNO.out j (by omega)
      obtain ⟨xA', xc', e9, hxl, hxm⟩ := HIR.out.slice
      injection e9 with e1 e2 e3
      subst e1 e3
      unfold maxLen at hxm
      clear f1 f2 f3 f4 f5 hv2 hkl hx hX e2
      go_wp2_with fail
      go_loop [8] (fun q => ∃ t : Nat, t ≤ xi.length ∧ q = .int .i64 (t : Int) ∧ ∀ j (_ : j < t) (h2 : j < xi.length), xi[j] ≠ i) (fun q => xi.length - (intOf q).toNat)
      case atStart => exact ⟨0, Nat.zero_le _, rfl, fun j hj => by omega⟩
      case round =>
        obtain ⟨t, ht, rfl, hn⟩ := hrel
        have HTO := Lib.hid hn
        clear hn
        by_cases htl : t < xi.length
        · obtain ⟨gi, rfl, q0⟩ := HIR.out.at_ rfl htl
          have HM : Hid (xi[t] ∈ xi) := List.getElem_mem htl
          have HT2 : Hid (xi[t] ≠ i → ∀ j (_ : j < t + 1) (h2 : j < xi.length), xi[j] ≠ i) := fun e j hj h2 => by
            by_cases ej : j = t
            · subst ej; exact e
            · exact HTO.out j (by omega) h2
          have HER : Hid (xi[t] = i → xi.eraseIdx t = xi.erase i) := fun e => erase_idx htl e (fun j hj => HTO.out j hj (by omega))
          generalize xi[t] = y at *
          by_cases hyi : y = i
          · subst hyi
            have HE := Lib.hid (HY.out HM.out)
            have HRE := Lib.hid (HER.out rfl)
            have HLE : Hid ((xi.erase y).length = xi.length - 1) := List.length_erase_of_mem HM.out
            clear HY HZ HT2 HER
            obtain ⟨W0, hW0⟩ : ∃ W0, W0 = w.drew := ⟨_, rfl⟩
            have HO0 : Hid (Only [] w W0) := by show Only _ _ _; rw [hW0]; exact (Only.refl _ _).drew
            have HQ0 := Lib.hid (HH.out.old HO0.out)
            have HIR0 := Lib.hid (HIR.out.old HO0.out)
            obtain ⟨A2, hA, HPD⟩ : ∃ A2 : Addr, (if xc = t + 1 then (some (⟨gi, 0, none⟩ : Addr)) else some ⟨gi, t + 1, none⟩) = some A2 ∧ Hid (∀ W', IRow W' (.slice (some ⟨gi, 0, none⟩) xi.length xc) xi → PartAt nE W' (.slice (some A2) (xi.length - (t + 1)) (xc - (t + 1))) (xi.drop (t + 1))) := by
              have hkk : t + 1 ≤ xi.length := by omega
              by_cases hc : xc = t + 1
              · exact ⟨⟨gi, 0, none⟩, by rw [if_pos hc], fun W' hW' => ERow.partDrop hW' hkk (by rw [if_pos hc])⟩
              · exact ⟨⟨gi, t + 1, none⟩, by rw [if_neg hc], fun W' hW' => ERow.partDrop hW' hkk (by rw [if_neg hc]; show some (⟨gi, (t + 1) * 1, none⟩ : Addr) = _; rw [Nat.mul_one])⟩
            have HPTK : Hid (PartAt nE W0 (.slice (some ⟨gi, 0, none⟩) t xc) (xi.take t)) := ERow.partTake HIR0.out (by omega)
            have hgv : g ≠ gv := by
              obtain ⟨d1, _⟩ := foot_nodup.1 HH.out.nd
              intro e; subst e; exact d1 (by simp [ownL, Value.ownBlock])
            have HGV := Lib.hid hgv
            have HF6 : Hid (∀ W', Only [] w W' → W'.cell? ⟨gv, k * 7 + 6, none⟩ = some (.slice (some ⟨gi, 0, none⟩) xi.length xc) ∧ gv < W'.heap.size) := by
              show ∀ W', _
              intro W' ho
              have hg0 : gv < w.heap.size := hgs
              exact ⟨(ho.cell (p := ⟨gv, k * 7 + 6, none⟩) hg0 (by simp)).trans f6, Nat.lt_of_lt_of_le hg0 ho.size⟩
            obtain ⟨F, hF⟩ : ∃ F : World → Prop, ∀ W, F W ↔ W.cell? ⟨g, 1, none⟩ = some (.slice (some ⟨gv, 0, none⟩) n cap) := ⟨_, fun _ => Iff.rfl⟩
            have hx0 : ∀ p : Held F, p.w.cell? ⟨g, 1, none⟩ = some (.slice (some ⟨gv, 0, none⟩) n cap) := fun p => (hF _).1 p.h
            have HFF : Hid (∀ W', Only [gv] w W' → F W') := by
              show ∀ W', _
              intro W' ho
              exact (hF _).2 ((ho.cell (p := ⟨g, 1, none⟩) HH.out.lt (by simpa using HGV.out)).trans HH.out.c1)
            have HTE := Lib.hid (xi.eraseIdx_eq_take_drop_succ t)
            have hic : t ≤ xc := by omega
            have hic1 : t + 1 ≤ xc := by omega
            have hil : t ≤ xi.length := by omega
            have hil1 : t + 1 ≤ xi.length := by omega
            have HKN : Hid (k < l.length) := by show _ < _; rw [← HN.out]; exact hlt
            have hF0 : F W0 := HFF.out _ (HO0.out.mono (by simp))
            clear hF
            go_wp2_with fail
            refine mix_start F (by kernel_rfl) ?_
            rw [← hW0]
            clear hW0 q0
            refine mix_seg [0, 1, 2, 3, 4, 5, 6, 7, 8, 9, 10, 11, 13, 16, 17, 18, 19, 20, 21, 22, 24, 25] (by kernel_rfl) hF0 ?_
            simp only [segOf, pickOps, pickOp]
            repeat (go_big_quiet_step (rfl))
            refine wpQuiet_nil ?_
            refine mix_several [12, 23] (by kernel_rfl) ?_
            intro i1 hi1
            simp only [List.mem_cons, List.not_mem_nil, or_false] at hi1
            rcases hi1 with rfl | rfl
            · simp only [segOf, pickOps, pickOp]
              have hk0 := (HF6.out _ HO0.out).1
              have hk1 := (HF6.out _ HO0.out).2
              go_wp2_with fail
              refine MixPost.normal (HFF.out _ (HO0.out.mono (by simp))) ?_
              clear hk0 hk1
              refine mix_seg [14] (by kernel_rfl) hF0 ?_
              simp only [segOf, pickOps, pickOp]
              repeat (go_big_quiet_step (rfl))
              refine wpQuiet_nil ?_
              refine mix_several [15, 23] (by kernel_rfl) ?_
              intro i1 hi1
              simp only [List.mem_cons, List.not_mem_nil, or_false] at hi1
              rcases hi1 with rfl | rfl
              · simp only [segOf, pickOps, pickOp]
                refine wpList_append_ints rfl (.const (.slice none 0 0)) (.tmp 68) rfl (.slice none 0 0) [] rfl IRow.nil _ (xi.take t) rfl HPTK.out (by have := HML.out; simp; omega) ?_
                intro v1 w1 hr1 ho1 hg1
                have HR1 : Hid (IRow w1 v1 (xi.take t)) := hr1.out
                have HO1 : Hid (Only [] W0 w1) := ho1.out.mono (by intro z hz; simp [ownL, Value.ownBlock] at hz)
                have HN1 : Hid (NewL w.heap.size v1) := by show NewL _ _; intro z hz; have := HO0.out.size; rcases hg1.out z hz with h3 | h3; simp [ownL, Value.ownBlock] at h3; omega
                have HI1 := Lib.hid (HIR0.out.old HO1.out)
                have hF1 : F w1 := HFF.out _ ((HO0.out.trans HO1.out).mono (by simp))
                clear hr1 ho1 hg1
                go_wp2_with fail
                refine MixPost.normal hF1 ?_
                refine mix_run 23 (by kernel_rfl) ?_
                simp only [segOf, pickOps, pickOp]
                have hk0 := (HF6.out _ (HO0.out.trans HO1.out)).1
                have hk1 := (HF6.out _ (HO0.out.trans HO1.out)).2
                go_wp2_with fail
                refine MixPost.normal hF1 ?_
                clear hk0 hk1
                refine mix_seg [26] (by kernel_rfl) hF1 ?_
                simp only [segOf, pickOps, pickOp]
                repeat (go_big_quiet_step (rfl))
                refine wpQuiet_nil ?_
                refine mix_run 27 (by kernel_rfl) ?_
                simp only [segOf, pickOps, pickOp]
                refine wpList_append_ints rfl (.tmp 69) (.tmp 80) rfl v1 (xi.take t) rfl HR1.out (.slice (some A2) (xi.length - (t + 1)) (xc - (t + 1))) (xi.drop (t + 1)) (by simp [Act.eval]) (HPD.out w1 HI1.out) (by have := HML.out; rw [List.length_take, List.length_drop]; omega) ?_
                intro v2 w2 hr2 ho2 hg2
                have HR2 : Hid (IRow w2 v2 (xi.erase y)) := by show IRow _ _ _; rw [← HRE.out, HTE.out]; exact hr2.out
                have HO2 : Hid (Only [] w w2) := (HO0.out.trans HO1.out).next ho2.out (fun z hz => .inr (HN1.out z hz))
                have HN2 : Hid (NewL w.heap.size v2) := by show NewL _ _; intro z hz; have := HO0.out.size; have := HO1.out.size; rcases hg2.out z hz with h3 | h3; exact HN1.out z h3; omega
                clear hr2 ho2 hg2
                obtain ⟨Av, capv, ev, _⟩ := HR2.out.slice
                obtain ⟨nv, hnv⟩ : ∃ nv, nv = (xi.erase y).length := ⟨_, rfl⟩
                obtain ⟨yx, hyx⟩ : ∃ yx : Px, yx = ⟨⟨xn, xw, xi.erase y⟩, Av, capv⟩ := ⟨_, rfl⟩
                have hyv : yx.v = v2 := by rw [hyx, ev]
                have HYP : Hid (yx.p = ⟨xn, xw, xi.erase y⟩) := by show _ = _; rw [hyx]
                have HM2 := Lib.hid (HH.out.members (y := yx) HN.out HKN.out (HO2.out.mono (by simp)) (by rw [hyv, HYP.out]; exact HR2.out) (fun z hz => by rw [hyv] at hz; exact .inr (HN2.out z hz)) (by rw [HYP.out, ← HXX.out]) (by rw [HYP.out, ← HXX.out]))
                rw [← hnv] at ev
                have HNV : Hid (nv = xi.length - 1) := by show _ = _; rw [hnv]; exact HLE.out
                rw [hyv] at HM2
                subst ev
                have HYV : yx.v = .slice Av nv capv := hyv
                clear hnv hyx hyv
                obtain ⟨W3, hW3⟩ : ∃ W3, W3 = w2.setCell ⟨gv, k * 7 + 6, none⟩ (.slice Av nv capv) := ⟨_, rfl⟩
                rw [← hW3] at HM2
                have HO3 : Hid (Only [gv] w W3) := by show Only _ _ _; rw [hW3]; exact (HO2.out.mono (by simp)).setCell (p := ⟨gv, k * 7 + 6, none⟩) (by simp) _
                have hk2 := (HF6.out _ HO2.out).1
                have hk4 := (HF6.out _ HO2.out).2
                have hk3 := (HH.out.old HO2.out).row.thaw HN.out (k * 7 + 6)
                have hF2 : F w2 := HFF.out _ (HO2.out.mono (by simp))
                have hF3 : F W3 := HFF.out _ HO3.out
                go_wp2_with fail
                refine MixPost.normal hF2 ?_
                refine mix_seg [28, 29] (by kernel_rfl) hF2 ?_
                simp only [segOf, pickOps, pickOp]
                repeat (go_big_quiet_step (rfl))
                refine wpQuiet_nil ?_
                refine mix_run 30 (by kernel_rfl) ?_
                simp only [segOf, pickOps, pickOp]
                go_wp2_with fail
                rw [← hW3]
                clear hW3 hk2 hk3 hk4
                refine MixPost.normal hF3 ?_
                refine mix_done (by kernel_rfl) ?_
                clear hx0 hF0 hF1 hF2 hF3 HFF
                have hc3 := HM2.out.1.c1
                have hg3 := HM2.out.1.lt
                obtain ⟨r0, r1, r2, r3, r4, r5, r6⟩ := HM2.out.1.row.el (by rw [List.length_set]; exact HN.out) (k := k) (by rw [List.length_set]; exact HKN.out)
                rw [nthX_set HKN.out, HYP.out] at r0
                have r6' : W3.cell? ⟨gv, k * 7 + 6, none⟩ = some (.slice Av nv capv) := by
                  rw [nthX_set HKN.out] at r6
                  have h2 : yx.v = .slice Av nv capv := HYV
                  rw [r6]; exact congrArg some h2
                clear r1 r2 r3 r4 r5 r6 f0 f6
                by_cases h1 : xi.length = 1
                · have hnz : nv = 0 := by have := HNV.out; omega
                  have HSM : Hid ((l.set k yx).map Px.p = (⟨s.last, s.l.set k yx.p⟩ : Sv).l) := map_set HL.out k yx
                  have hrem := rout_any g _ (l.set k yx) ⟨s.last, s.l.set k yx.p⟩ W3 HM2.out.1 HSM.out k (by show k < (s.l.set k _).length; rw [List.length_set]; exact HKL.out) (by show (s.l.set k _).length ≤ 100; rw [List.length_set]; have := HK.out.len; omega)
                  clear HYV
                  subst hnz
                  go_wp2_with fail
                  refine hrem.mono ?_
                  rintro e w4 ⟨rfl, hst, _⟩
                  have HST := Lib.hid (ShStep.next HM2.out.2.1 HM2.out.2.2 hst)
                  have HOUT : Hid (outK k ⟨s.last, s.l.set k yx.p⟩ = outK k s) := by
                    show _ = _
                    unfold outK
                    rw [Sv.mk.injEq]
                    refine ⟨rfl, ?_⟩
                    show (s.l.set k _).eraseIdx k = s.l.eraseIdx k
                    rw [List.eraseIdx_set_eq]
                  clear hrem hst hc3 r0 r6'
                  go_wp2
                  go_ret3
                  refine ⟨?_, ?_⟩
                  · rw [HE.out.1, HE.out.2.1, HE.out.2.2.1, decide_eq_true h1]; first | rfl | simp
                  · rw [HE.out.2.2.2, if_pos h1, ← HOUT.out]; exact HST.out
                · have hnz : ((nv : Int) == 0) = false := by have h2 := HNV.out; have h3 : 0 < xi.length := by omega
                                                             simp; omega
                  have hnz2 : ¬ (nv : Int) = 0 := by simpa using hnz
                  clear HYV
                  go_wp2
                  go_ret3
                  refine ⟨?_, ?_⟩
                  · rw [HE.out.1, HE.out.2.1, HE.out.2.2.1, decide_eq_false h1]; first | rfl | simp [hnz2]
                  · rw [HE.out.2.2.2, if_neg h1]
                    exact ⟨_, _, HM2.out.1, by rw [map_set HL.out, HYP.out], HM2.out.2.1, HM2.out.2.2⟩
              · simp only [segOf, pickOps, pickOp]
                have hk0 := (HF6.out _ HO0.out).1
                have hk1 := (HF6.out _ HO0.out).2
                go_wp2_with fail
                refine MixPost.normal (HFF.out _ (HO0.out.mono (by simp))) ?_
                clear hk0 hk1
                refine mix_seg [26] (by kernel_rfl) hF0 ?_
                simp only [segOf, pickOps, pickOp]
                repeat (go_big_quiet_step (rfl))
                refine wpQuiet_nil ?_
                refine mix_run 15 (by kernel_rfl) ?_
                simp only [segOf, pickOps, pickOp]
                refine wpList_append_ints rfl (.const (.slice none 0 0)) (.tmp 68) rfl (.slice none 0 0) [] rfl IRow.nil _ (xi.take t) rfl HPTK.out (by have := HML.out; simp; omega) ?_
                intro v1 w1 hr1 ho1 hg1
                have HR1 : Hid (IRow w1 v1 (xi.take t)) := hr1.out
                have HO1 : Hid (Only [] W0 w1) := ho1.out.mono (by intro z hz; simp [ownL, Value.ownBlock] at hz)
                have HN1 : Hid (NewL w.heap.size v1) := by show NewL _ _; intro z hz; have := HO0.out.size; rcases hg1.out z hz with h3 | h3; simp [ownL, Value.ownBlock] at h3; omega
                have HI1 := Lib.hid (HIR0.out.old HO1.out)
                have hF1 : F w1 := HFF.out _ ((HO0.out.trans HO1.out).mono (by simp))
                clear hr1 ho1 hg1
                go_wp2_with fail
                refine MixPost.normal hF1 ?_
                refine mix_run 27 (by kernel_rfl) ?_
                simp only [segOf, pickOps, pickOp]
                refine wpList_append_ints rfl (.tmp 69) (.tmp 80) rfl v1 (xi.take t) rfl HR1.out (.slice (some A2) (xi.length - (t + 1)) (xc - (t + 1))) (xi.drop (t + 1)) (by simp [Act.eval]) (HPD.out w1 HI1.out) (by have := HML.out; rw [List.length_take, List.length_drop]; omega) ?_
                intro v2 w2 hr2 ho2 hg2
                have HR2 : Hid (IRow w2 v2 (xi.erase y)) := by show IRow _ _ _; rw [← HRE.out, HTE.out]; exact hr2.out
                have HO2 : Hid (Only [] w w2) := (HO0.out.trans HO1.out).next ho2.out (fun z hz => .inr (HN1.out z hz))
                have HN2 : Hid (NewL w.heap.size v2) := by show NewL _ _; intro z hz; have := HO0.out.size; have := HO1.out.size; rcases hg2.out z hz with h3 | h3; exact HN1.out z h3; omega
                clear hr2 ho2 hg2
                obtain ⟨Av, capv, ev, _⟩ := HR2.out.slice
                obtain ⟨nv, hnv⟩ : ∃ nv, nv = (xi.erase y).length := ⟨_, rfl⟩
                obtain ⟨yx, hyx⟩ : ∃ yx : Px, yx = ⟨⟨xn, xw, xi.erase y⟩, Av, capv⟩ := ⟨_, rfl⟩
                have hyv : yx.v = v2 := by rw [hyx, ev]
                have HYP : Hid (yx.p = ⟨xn, xw, xi.erase y⟩) := by show _ = _; rw [hyx]
                have HM2 := Lib.hid (HH.out.members (y := yx) HN.out HKN.out (HO2.out.mono (by simp)) (by rw [hyv, HYP.out]; exact HR2.out) (fun z hz => by rw [hyv] at hz; exact .inr (HN2.out z hz)) (by rw [HYP.out, ← HXX.out]) (by rw [HYP.out, ← HXX.out]))
                rw [← hnv] at ev
                have HNV : Hid (nv = xi.length - 1) := by show _ = _; rw [hnv]; exact HLE.out
                rw [hyv] at HM2
                subst ev
                have HYV : yx.v = .slice Av nv capv := hyv
                clear hnv hyx hyv
                obtain ⟨W3, hW3⟩ : ∃ W3, W3 = w2.setCell ⟨gv, k * 7 + 6, none⟩ (.slice Av nv capv) := ⟨_, rfl⟩
                rw [← hW3] at HM2
                have HO3 : Hid (Only [gv] w W3) := by show Only _ _ _; rw [hW3]; exact (HO2.out.mono (by simp)).setCell (p := ⟨gv, k * 7 + 6, none⟩) (by simp) _
                have hk2 := (HF6.out _ HO2.out).1
                have hk4 := (HF6.out _ HO2.out).2
                have hk3 := (HH.out.old HO2.out).row.thaw HN.out (k * 7 + 6)
                have hF2 : F w2 := HFF.out _ (HO2.out.mono (by simp))
                have hF3 : F W3 := HFF.out _ HO3.out
                go_wp2_with fail
                refine MixPost.normal hF2 ?_
                refine mix_seg [28, 29] (by kernel_rfl) hF2 ?_
                simp only [segOf, pickOps, pickOp]
                repeat (go_big_quiet_step (rfl))
                refine wpQuiet_nil ?_
                refine mix_run 30 (by kernel_rfl) ?_
                simp only [segOf, pickOps, pickOp]
                go_wp2_with fail
                rw [← hW3]
                clear hW3 hk2 hk3 hk4
                refine MixPost.normal hF3 ?_
                refine mix_done (by kernel_rfl) ?_
                clear hx0 hF0 hF1 hF2 hF3 HFF
                have hc3 := HM2.out.1.c1
                have hg3 := HM2.out.1.lt
                obtain ⟨r0, r1, r2, r3, r4, r5, r6⟩ := HM2.out.1.row.el (by rw [List.length_set]; exact HN.out) (k := k) (by rw [List.length_set]; exact HKN.out)
                rw [nthX_set HKN.out, HYP.out] at r0
                have r6' : W3.cell? ⟨gv, k * 7 + 6, none⟩ = some (.slice Av nv capv) := by
                  rw [nthX_set HKN.out] at r6
                  have h2 : yx.v = .slice Av nv capv := HYV
                  rw [r6]; exact congrArg some h2
                clear r1 r2 r3 r4 r5 r6 f0 f6
                by_cases h1 : xi.length = 1
                · have hnz : nv = 0 := by have := HNV.out; omega
                  have HSM : Hid ((l.set k yx).map Px.p = (⟨s.last, s.l.set k yx.p⟩ : Sv).l) := map_set HL.out k yx
                  have hrem := rout_any g _ (l.set k yx) ⟨s.last, s.l.set k yx.p⟩ W3 HM2.out.1 HSM.out k (by show k < (s.l.set k _).length; rw [List.length_set]; exact HKL.out) (by show (s.l.set k _).length ≤ 100; rw [List.length_set]; have := HK.out.len; omega)
                  clear HYV
                  subst hnz
                  go_wp2_with fail
                  refine hrem.mono ?_
                  rintro e w4 ⟨rfl, hst, _⟩
                  have HST := Lib.hid (ShStep.next HM2.out.2.1 HM2.out.2.2 hst)
                  have HOUT : Hid (outK k ⟨s.last, s.l.set k yx.p⟩ = outK k s) := by
                    show _ = _
                    unfold outK
                    rw [Sv.mk.injEq]
                    refine ⟨rfl, ?_⟩
                    show (s.l.set k _).eraseIdx k = s.l.eraseIdx k
                    rw [List.eraseIdx_set_eq]
                  clear hrem hst hc3 r0 r6'
                  go_wp2
                  go_ret3
                  refine ⟨?_, ?_⟩
                  · rw [HE.out.1, HE.out.2.1, HE.out.2.2.1, decide_eq_true h1]; first | rfl | simp
                  · rw [HE.out.2.2.2, if_pos h1, ← HOUT.out]; exact HST.out
                · have hnz : ((nv : Int) == 0) = false := by have h2 := HNV.out; have h3 : 0 < xi.length := by omega
                                                             simp; omega
                  have hnz2 : ¬ (nv : Int) = 0 := by simpa using hnz
                  clear HYV
                  go_wp2
                  go_ret3
                  refine ⟨?_, ?_⟩
                  · rw [HE.out.1, HE.out.2.1, HE.out.2.2.1, decide_eq_false h1]; first | rfl | simp [hnz2]
                  · rw [HE.out.2.2.2, if_neg h1]
                    exact ⟨_, _, HM2.out.1, by rw [map_set HL.out, HYP.out], HM2.out.2.1, HM2.out.2.2⟩
            · simp only [segOf, pickOps, pickOp]
              have hk0 := (HF6.out _ HO0.out).1
              have hk1 := (HF6.out _ HO0.out).2
              go_wp2_with fail
              refine MixPost.normal (HFF.out _ (HO0.out.mono (by simp))) ?_
              clear hk0 hk1
              refine mix_seg [26] (by kernel_rfl) hF0 ?_
              simp only [segOf, pickOps, pickOp]
              repeat (go_big_quiet_step (rfl))
              refine wpQuiet_nil ?_
              refine mix_run 12 (by kernel_rfl) ?_
              simp only [segOf, pickOps, pickOp]
              have hk0 := (HF6.out _ HO0.out).1
              have hk1 := (HF6.out _ HO0.out).2
              go_wp2_with fail
              refine MixPost.normal (HFF.out _ (HO0.out.mono (by simp))) ?_
              clear hk0 hk1
              refine mix_seg [14] (by kernel_rfl) hF0 ?_
              simp only [segOf, pickOps, pickOp]
              repeat (go_big_quiet_step (rfl))
              refine wpQuiet_nil ?_
              refine mix_run 15 (by kernel_rfl) ?_
              simp only [segOf, pickOps, pickOp]
              refine wpList_append_ints rfl (.const (.slice none 0 0)) (.tmp 68) rfl (.slice none 0 0) [] rfl IRow.nil _ (xi.take t) rfl HPTK.out (by have := HML.out; simp; omega) ?_
              intro v1 w1 hr1 ho1 hg1
              have HR1 : Hid (IRow w1 v1 (xi.take t)) := hr1.out
              have HO1 : Hid (Only [] W0 w1) := ho1.out.mono (by intro z hz; simp [ownL, Value.ownBlock] at hz)
              have HN1 : Hid (NewL w.heap.size v1) := by show NewL _ _; intro z hz; have := HO0.out.size; rcases hg1.out z hz with h3 | h3; simp [ownL, Value.ownBlock] at h3; omega
              have HI1 := Lib.hid (HIR0.out.old HO1.out)
              have hF1 : F w1 := HFF.out _ ((HO0.out.trans HO1.out).mono (by simp))
              clear hr1 ho1 hg1
              go_wp2_with fail
              refine MixPost.normal hF1 ?_
              refine mix_run 27 (by kernel_rfl) ?_
              simp only [segOf, pickOps, pickOp]
              refine wpList_append_ints rfl (.tmp 69) (.tmp 80) rfl v1 (xi.take t) rfl HR1.out (.slice (some A2) (xi.length - (t + 1)) (xc - (t + 1))) (xi.drop (t + 1)) (by simp [Act.eval]) (HPD.out w1 HI1.out) (by have := HML.out; rw [List.length_take, List.length_drop]; omega) ?_
              intro v2 w2 hr2 ho2 hg2
              have HR2 : Hid (IRow w2 v2 (xi.erase y)) := by show IRow _ _ _; rw [← HRE.out, HTE.out]; exact hr2.out
              have HO2 : Hid (Only [] w w2) := (HO0.out.trans HO1.out).next ho2.out (fun z hz => .inr (HN1.out z hz))
              have HN2 : Hid (NewL w.heap.size v2) := by show NewL _ _; intro z hz; have := HO0.out.size; have := HO1.out.size; rcases hg2.out z hz with h3 | h3; exact HN1.out z h3; omega
              clear hr2 ho2 hg2
              obtain ⟨Av, capv, ev, _⟩ := HR2.out.slice
              obtain ⟨nv, hnv⟩ : ∃ nv, nv = (xi.erase y).length := ⟨_, rfl⟩
              obtain ⟨yx, hyx⟩ : ∃ yx : Px, yx = ⟨⟨xn, xw, xi.erase y⟩, Av, capv⟩ := ⟨_, rfl⟩
              have hyv : yx.v = v2 := by rw [hyx, ev]
              have HYP : Hid (yx.p = ⟨xn, xw, xi.erase y⟩) := by show _ = _; rw [hyx]
              have HM2 := Lib.hid (HH.out.members (y := yx) HN.out HKN.out (HO2.out.mono (by simp)) (by rw [hyv, HYP.out]; exact HR2.out) (fun z hz => by rw [hyv] at hz; exact .inr (HN2.out z hz)) (by rw [HYP.out, ← HXX.out]) (by rw [HYP.out, ← HXX.out]))
              rw [← hnv] at ev
              have HNV : Hid (nv = xi.length - 1) := by show _ = _; rw [hnv]; exact HLE.out
              rw [hyv] at HM2
              subst ev
              have HYV : yx.v = .slice Av nv capv := hyv
              clear hnv hyx hyv
              obtain ⟨W3, hW3⟩ : ∃ W3, W3 = w2.setCell ⟨gv, k * 7 + 6, none⟩ (.slice Av nv capv) := ⟨_, rfl⟩
              rw [← hW3] at HM2
              have HO3 : Hid (Only [gv] w W3) := by show Only _ _ _; rw [hW3]; exact (HO2.out.mono (by simp)).setCell (p := ⟨gv, k * 7 + 6, none⟩) (by simp) _
              have hk2 := (HF6.out _ HO2.out).1
              have hk4 := (HF6.out _ HO2.out).2
              have hk3 := (HH.out.old HO2.out).row.thaw HN.out (k * 7 + 6)
              have hF2 : F w2 := HFF.out _ (HO2.out.mono (by simp))
              have hF3 : F W3 := HFF.out _ HO3.out
              go_wp2_with fail
              refine MixPost.normal hF2 ?_
              refine mix_seg [28, 29] (by kernel_rfl) hF2 ?_
              simp only [segOf, pickOps, pickOp]
              repeat (go_big_quiet_step (rfl))
              refine wpQuiet_nil ?_
              refine mix_run 30 (by kernel_rfl) ?_
              simp only [segOf, pickOps, pickOp]
              go_wp2_with fail
              rw [← hW3]
              clear hW3 hk2 hk3 hk4
              refine MixPost.normal hF3 ?_
              refine mix_done (by kernel_rfl) ?_
              clear hx0 hF0 hF1 hF2 hF3 HFF
              have hc3 := HM2.out.1.c1
              have hg3 := HM2.out.1.lt
              obtain ⟨r0, r1, r2, r3, r4, r5, r6⟩ := HM2.out.1.row.el (by rw [List.length_set]; exact HN.out) (k := k) (by rw [List.length_set]; exact HKN.out)
              rw [nthX_set HKN.out, HYP.out] at r0
              have r6' : W3.cell? ⟨gv, k * 7 + 6, none⟩ = some (.slice Av nv capv) := by
                rw [nthX_set HKN.out] at r6
                have h2 : yx.v = .slice Av nv capv := HYV
                rw [r6]; exact congrArg some h2
              clear r1 r2 r3 r4 r5 r6 f0 f6
              by_cases h1 : xi.length = 1
              · have hnz : nv = 0 := by have := HNV.out; omega
                have HSM : Hid ((l.set k yx).map Px.p = (⟨s.last, s.l.set k yx.p⟩ : Sv).l) := map_set HL.out k yx
                have hrem := rout_any g _ (l.set k yx) ⟨s.last, s.l.set k yx.p⟩ W3 HM2.out.1 HSM.out k (by show k < (s.l.set k _).length; rw [List.length_set]; exact HKL.out) (by show (s.l.set k _).length ≤ 100; rw [List.length_set]; have := HK.out.len; omega)
                clear HYV
                subst hnz
                go_wp2_with fail
                refine hrem.mono ?_
                rintro e w4 ⟨rfl, hst, _⟩
                have HST := Lib.hid (ShStep.next HM2.out.2.1 HM2.out.2.2 hst)
                have HOUT : Hid (outK k ⟨s.last, s.l.set k yx.p⟩ = outK k s) := by
                  show _ = _
                  unfold outK
                  rw [Sv.mk.injEq]
                  refine ⟨rfl, ?_⟩
                  show (s.l.set k _).eraseIdx k = s.l.eraseIdx k
                  rw [List.eraseIdx_set_eq]
                clear hrem hst hc3 r0 r6'
                go_wp2
                go_ret3
                refine ⟨?_, ?_⟩
                · rw [HE.out.1, HE.out.2.1, HE.out.2.2.1, decide_eq_true h1]; first | rfl | simp
                · rw [HE.out.2.2.2, if_pos h1, ← HOUT.out]; exact HST.out
              · have hnz : ((nv : Int) == 0) = false := by have h2 := HNV.out; have h3 : 0 < xi.length := by omega
                                                           simp; omega
                have hnz2 : ¬ (nv : Int) = 0 := by simpa using hnz
                clear HYV
                go_wp2
                go_ret3
                refine ⟨?_, ?_⟩
                · rw [HE.out.1, HE.out.2.1, HE.out.2.2.1, decide_eq_false h1]; first | rfl | simp [hnz2]
                · rw [HE.out.2.2.2, if_neg h1]
                  exact ⟨_, _, HM2.out.1, by rw [map_set HL.out, HYP.out], HM2.out.2.1, HM2.out.2.2⟩
          · have HE := Lib.hid (HT2.out hyi)
            have hyb : (y == i) = false := by simpa using hyi
            clear HT2
            go_wp2
            go_round
            case rel => exact ⟨t + 1, by omega, by go_num, HE.out⟩
            case measure => simp [intOf]; omega
        · obtain rfl : t = xi.length := by omega
          have HE : Hid (∀ j, j < k + 1 → hasI i (nthP s.l j) = false) := HZ.out (fun hm => by
            obtain ⟨j, hj, e⟩ := List.mem_iff_getElem.1 hm
            exact HTO.out j hj hj e)
          clear HZ HY
          go_wp2
          go_round
          case rel => exact ⟨k + 1, by omega, by go_num, HE.out⟩
          case measure => simp [intOf]; omega
    · obtain rfl : k = n := by omega
      have HE : Hid (leaveN i s = 0 ∧ leaveF i s = false ∧ leaveO i s = false ∧ leaveS i s = s) := by
        have h1 : ¬ homeK i s < s.l.length := spot_none (fun j hj => HNO.out j (by have := HN.out; have := HLN.out; omega))
        show _ ∧ _ ∧ _ ∧ _
        unfold leaveN leaveF leaveO leaveS
        rw [if_neg h1, if_neg h1]
        exact ⟨rfl, decide_eq_false (fun h => h1 h.1), decide_eq_false h1, rfl⟩
      go_wp2
      go_ret3
      exact ⟨by rw [HE.out.1, HE.out.2.1, HE.out.2.2.1]; rfl, by rw [HE.out.2.2.2]; exact ShStep.same HH.out (Only.refl _ _) rfl HL.out⟩
end
end Go.Proofs.Ytcljmdpnbfefbaa
