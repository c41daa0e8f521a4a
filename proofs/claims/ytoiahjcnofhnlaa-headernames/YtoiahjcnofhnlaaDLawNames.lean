/-
  The walk of the law HeaderNames: whatever the input, it returns true, and nothing that was there has turned. Conditions: the arguments are such as any that come in.
-/
import Derived.Test.YtoiahjcnofhnlaaDWords
import Derived.Sort.Walk0
namespace Go.Proofs.Ytoiahjcnofhnlaa
open Go.RowKit

theorem names_short {l : List Hd} {n a b : Nat} (h : Bd l n a b) : ∀ x ∈ namesH l, x.length ≤ a := by
  intro x hx
  obtain ⟨g, hg, rfl⟩ := (names_mem l x).1 hx
  rw [Lk.lower_len]
  exact (h.2 g hg).1

set_option maxRecDepth 100000 in
set_option maxHeartbeats 4000000 in
theorem walk_HeaderNames (a0 : Option Addr) (c0 : Nat) (xs : List (ByteArray × ByteArray)) (name : ByteArray) (w : World) (h0 : HArg w a0 c0 xs) (t0 : name.size ≤ maxLen) :
    Calls Try.prog 6 #[.slice a0 xs.length c0, .string name] w fun e w' => e = .returned (.bool true) ∧ Below w.heap.size w w' := by
  have HL0 : Hid (xs.length ≤ maxLen) := Nat.le_trans h0.2.2.1 h0.2.2.2.1
  have HN0 := Lib.hid h0.2.2.2.2
  have HX0 := Lib.hid h0.1
  have HS0 := Lib.hid h0.2.1
  clear h0
  have HT0 := Lib.hid t0
  clear t0
  cases hg0 : greatB xs
  case true =>
    have HG0 := Lib.hid hg0
    clear hg0
    go_enter Try.func6, Try.ntmps6
    go_wp2_with fail
    refine (Great_any a0 _ c0 w.heap.size xs _ rfl HX0.out HL0.out HS0.out).mono ?_
    rintro e w' ⟨rfl, rfl⟩
    rw [show (decide (40 < xs.length) || greatGo 0 xs) = true from HG0.out]
    go_wp2_with fail
    refine (awake6_any _).mono ?_
    rintro e w1 ⟨rfl, hb⟩
    go_wp2
    go_ret
    exact ⟨rfl, hb⟩
  have HG0 := Lib.hid hg0
  have HD0 := Lib.hid (great_bd hg0)
  clear hg0
  cases hz : Lk.longL 600 ([name].map ByteArray.size)
  case true =>
    have HZ := Lib.hid hz
    clear hz
    go_enter Try.func6, Try.ntmps6
    go_wp2_with fail
    refine (Great_any a0 _ c0 w.heap.size xs _ rfl HX0.out HL0.out HS0.out).mono ?_
    rintro e w' ⟨rfl, rfl⟩
    rw [show (decide (40 < xs.length) || greatGo 0 xs) = false from HG0.out]
    go_wp2_with fail
    refine (Long_any 600 _ 1 1 [name] _ (w.heap.size + 1) (by omega) (by omega) rfl (SRow.one_at _ _ _ _ rfl) (by unfold maxLen; simp) (by intro x hx; simp at hx; subst hx; exact HT0.out)).mono ?_
    rintro e w1 ⟨rfl, hwn⟩
    have HB1 : Hid (Below w.heap.size w w1) := by show Below _ _ _; rw [← hwn]; exact (Below.refl _ _).alloc (Nat.le_refl _) _
    clear hwn
    rw [show Lk.longL (600 : Int).toNat ([name].map ByteArray.size) = true from HZ.out]
    go_wp2_with fail
    refine (awake6_any _).mono ?_
    rintro e w2 ⟨rfl, hb⟩
    go_wp2
    go_ret
    exact ⟨rfl, HB1.out.trans (hb.mono HB1.out.size)⟩
  have HZ := Lib.hid hz
  have hsz := Lk.long_no _ _ hz
  simp at hsz
  clear hz
  go_enter Try.func6, Try.ntmps6
  go_wp2_with fail
  refine (Great_any a0 _ c0 w.heap.size xs _ rfl HX0.out HL0.out HS0.out).mono ?_
  rintro e w' ⟨rfl, rfl⟩
  rw [show (decide (40 < xs.length) || greatGo 0 xs) = false from HG0.out]
  have HB0 : Hid (Below w.heap.size w w) := Below.refl _ _
  go_wp2_with fail
  refine (Long_any 600 _ 1 1 [name] _ (w.heap.size + 1) (by omega) (by omega) rfl (SRow.one_at _ _ _ _ rfl) (by unfold maxLen; simp) (by intro x hx; simp at hx; subst hx; exact HT0.out)).mono ?_
  rintro e w1 ⟨rfl, hwn⟩
  have hb : Below w.heap.size w w1 := by rw [← hwn]; exact (Below.refl _ _).alloc (Nat.le_refl _) _
  have HB1 : Hid (Below w.heap.size w w1) := HB0.out.trans (hb.mono HB0.out.size)
  clear hb hwn
  rw [show Lk.longL (600 : Int).toNat ([name].map ByteArray.size) = false from HZ.out]
  have HM : Hid (Sm (xs.map hd)) := HD0.out.sm (by omega) (by omega) (by omega)
  have hl0 : xs.length ≤ 40 := by have := HD0.out.1; simpa using this
  go_wp2_with fail
  refine (Names_any a0 _ c0 w.heap.size xs _ rfl HB1.out.size (HX0.out.below HB1.out) HM.out).mono ?_
  rintro e w2 ⟨v, rfl, hr, hb⟩
  have HB2 : Hid (Below w.heap.size w w2) := HB1.out.trans (hb.mono HB1.out.size)
  clear hb
  obtain ⟨A, nA, cA, rfl, hnA, hpA⟩ := trow_row hr
  clear hr
  obtain ⟨nl, hnl⟩ : ∃ nl, nl = namesH (xs.map hd) := ⟨_, rfl⟩
  rw [← hnl] at hnA hpA
  have HNL := Lib.hid hnl
  have HUP : Hid (Up nl) := by show Up _; rw [hnl]; exact ris_up _
  have HSH : Hid (∀ x ∈ nl, x.length ≤ 100) := by rw [hnl]; exact names_short HD0.out
  have hnn : nA = nl.length := by simpa using hnA
  have HNX : Hid (nl.length ≤ xs.length) := by show _ ≤ _; have := names_len (xs.map hd); rw [← hnl] at this; simpa using this
  have hnx : nA ≤ xs.length := by have := HNX.out; omega
  have HNA := Lib.hid hnn
  have HPA := Lib.hid hpA
  clear hnl hnA hpA hnn
  have HC2 : Hid (Below w2.heap.size w2 w2) := Below.refl _ _
  go_wp2_with fail
  go_loopw [6, 7] (fun f i wr => ∃ (j : Nat) (b : Bool), j ≤ nA ∧ i = .int .i64 j ∧ f = .bool b ∧ b = decide (Lk.lower name.data.toList ∈ nl.take j) ∧ Below w.heap.size w wr ∧ Below w2.heap.size w2 wr) (fun _ i _ => nA - (intOf i).toNat)
  case atStart => exact ⟨0, false, Nat.zero_le _, rfl, rfl, by simp, HB2.out, HC2.out⟩
  case round =>
    obtain ⟨j, b, hj, rfl, rfl, hbq, hb1, hb2⟩ := hrel
    have HBQ := Lib.hid hbq
    have HR1 := Lib.hid hb1
    have HR2 := Lib.hid hb2
    clear hbq hb1 hb2
    by_cases hlt : j < nA
    · have hltn : j < nl.length := by have := HNA.out; omega
      obtain ⟨ad, hA, _, hcj⟩ := (HPA.out.below HR2.out) j (mk nl[j]) (by rw [List.getElem?_map, List.getElem?_eq_getElem hltn]; rfl)
      subst hA
      have HTK : Hid (nl.take (j + 1) = nl.take j ++ [nl[j]]) := List.take_succ_eq_append_getElem hltn
      have HGT : Hid (gotH (xs.map hd) nl[j] = true) := names_each (by rw [← HNL.out]; exact List.getElem_mem hltn)
      have HSJ : Hid (nl[j].length ≤ 100) := HSH.out _ (List.getElem_mem hltn)
      obtain ⟨x, hx⟩ : ∃ x, x = mk nl[j] := ⟨_, rfl⟩
      have HXJ : Hid (x.data.toList = nl[j]) := by show _ = _; rw [hx, mk_data]
      rw [← hx] at hcj
      have HXS : Hid (x.size ≤ 100) := by show _ ≤ _; rw [hx, mk_size]; exact HSJ.out
      clear hx
      have HCJ : Hid (∀ W, Below w2.heap.size w2 W → W.cell? (ad.add j) = some (.string x)) := by
        intro W hW
        obtain ⟨ad', e', _, h'⟩ := (HPA.out.below hW) j (mk nl[j]) (by rw [List.getElem?_map, List.getElem?_eq_getElem hltn]; rfl)
        obtain rfl : ad = ad' := by simpa using e'
        rw [h', ← HXJ.out, mk_eq]
      obtain ⟨a, ha⟩ : ∃ a : ByteArray, a = ⟨(Lk.lower name.data.toList).toArray⟩ := ⟨_, rfl⟩
      have HLA := Lib.hid ha
      have HIN : Hid (∀ v b' : Bool, v = (b' || (a.toList == x.toList)) → b' = decide (Lk.lower name.data.toList ∈ nl.take j) → v = decide (Lk.lower name.data.toList ∈ nl.take (j + 1))) := by
        intro v b' h1 h2
        have e : a.data.toList = Lk.lower name.data.toList := by rw [ha]
        rw [h1, h2, HTK.out, ba_beq, HXJ.out, e]
        rw [Bool.eq_iff_iff, Bool.or_eq_true, decide_eq_true_eq, decide_eq_true_eq, decide_eq_true_eq, List.mem_append, List.mem_singleton]
      clear ha
      by_cases hj0 : 0 < j
      · obtain ⟨m, hm⟩ : ∃ m, j = m + 1 := ⟨j - 1, by omega⟩
        obtain ⟨ad2, hA2, _, hcm⟩ := (HPA.out.below HR2.out) m (mk (nl[m]'(by omega))) (by rw [List.getElem?_map, List.getElem?_eq_getElem (by omega)]; rfl)
        obtain rfl : ad = ad2 := by simpa using hA2
        have HLT : Hid (nl[m]'(by omega) < nl[j]) := List.pairwise_iff_getElem.1 HUP.out m j (by omega) hltn (by omega)
        obtain ⟨y, hy⟩ : ∃ y, y = mk (nl[m]'(by omega)) := ⟨_, rfl⟩
        have HLY : Hid (y.data.toList < x.data.toList) := by show _ < _; rw [hy, mk_data, HXJ.out]; exact HLT.out
        rw [← hy] at hcm
        clear hy hA2 HLT
        have hless : Op.bytesLess y.toList x.toList = true := by rw [bytesLess_eq, ByteArray.toList_eq, ByteArray.toList_eq]; exact decide_eq_true HLY.out
        have hmn : m < nA := by omega
        have hwm : IntKind.i64.wrap ((j : Int) - 1) = (m : Int) := by rw [IntKind.wrap_i64]; first | omega | (unfold wrap64; omega)
        have hj1 : (0 : Int) < (j : Int) := by omega
        clear hm
        go_wp2_with fail
        go_quiet (fail)
        go_wp2_with fail
        obtain ⟨wq, hwq⟩ : ∃ wq, wq = wr.drewN nq := ⟨_, rfl⟩
        have HQ1 : Hid (Below w.heap.size w wq) := by show Below _ _ _; rw [hwq]; exact below_drewN HR1.out nq
        have HQ2 : Hid (Below w2.heap.size w2 wq) := by show Below _ _ _; rw [hwq]; exact below_drewN HR2.out nq
        rw [← hwq]
        clear hwq hcj
        refine (Get_any a0 _ c0 w.heap.size xs x _ rfl HQ1.out.size (HX0.out.below HQ1.out) HM.out (by have := HXS.out; unfold maxLen; omega)).mono ?_
        rintro e w4 ⟨rfl, hb⟩
        rw [HXJ.out, HGT.out]
        have H41 : Hid (Below w.heap.size w w4) := HQ1.out.trans (hb.mono HQ1.out.size)
        have H42 : Hid (Below w2.heap.size w2 w4) := HQ2.out.trans (hb.mono HQ2.out.size)
        clear hb
        have hc4 : w4.cell? (ad.add j) = some (.string x) := HCJ.out w4 H42.out
        generalize mk (getH (xs.map hd) nl[j]) = tg
        go_wp2_with fail
        refine mix_start (fun W => W.cell? (ad.add j) = some (.string x)) (by kernel_rfl) ?_
        have hne : Nonempty (Held (fun W => W.cell? (ad.add j) = some (.string x))) := ⟨⟨_, hc4⟩⟩
        have z0 : ∀ q : Held (fun W => W.cell? (ad.add j) = some (.string x)), q.w.cell? (ad.add j) = some (.string x) := fun q => q.h
        have hlt2 : ((j : Int) < (nA : Int)) := by omega
        cases b
        · refine mix_seg [0, 1, 2, 4, 5, 6, 7] (by kernel_rfl) hc4 ?_
          simp only [segOf, pickOps, pickOp]
          repeat (go_big_quiet_step (fail))
          refine wpQuiet_nil ?_
          refine mix_run 3 (by kernel_rfl) ?_
          simp only [segOf, pickOps, pickOp]
          go_wp2_with fail
          refine (Lower_any name _ (by unfold maxLen; omega)).mono ?_
          rintro e w5 ⟨rfl, hb5⟩
          rw [← HLA.out]
          have hc5 : w5.cell? (ad.add j) = some (.string x) := HCJ.out w5 (H42.out.drew.trans (hb5.mono H42.out.size))
          have H51 : Hid (Below w.heap.size w w5) := H41.out.drew.trans (hb5.mono H41.out.size)
          have H52 : Hid (Below w2.heap.size w2 w5) := H42.out.drew.trans (hb5.mono H42.out.size)
          clear hb5
          go_wp2_with fail
          refine MixPost.normal hc5 ?_
          cases hq : a.toList == x.toList
          · have HQQ := Lib.hid hq
            refine mix_seg [8, 9, 10] (by kernel_rfl) hc5 ?_
            simp only [segOf, pickOps, pickOp]
            repeat (go_big_quiet_step (fail))
            refine wpQuiet_nil ?_
            refine mix_done (by kernel_rfl) ?_
            go_wp2
            go_roundw
            case rel => exact ⟨j + 1, false, by omega, by go_num, rfl, HIN.out false false (by rw [HQQ.out]; rfl) HBQ.out, H51.out, H52.out⟩
            case measure => simp [intOf]; omega
          · have HQQ := Lib.hid hq
            refine mix_seg [8, 9, 10] (by kernel_rfl) hc5 ?_
            simp only [segOf, pickOps, pickOp]
            repeat (go_big_quiet_step (fail))
            refine wpQuiet_nil ?_
            refine mix_done (by kernel_rfl) ?_
            go_wp2
            go_roundw
            case rel => exact ⟨j + 1, true, by omega, by go_num, rfl, HIN.out true false (by rw [HQQ.out]; rfl) HBQ.out, H51.out, H52.out⟩
            case measure => simp [intOf]; omega
        · refine mix_seg [0, 1, 2, 4, 5, 6, 7] (by kernel_rfl) hc4 ?_
          simp only [segOf, pickOps, pickOp]
          repeat (go_big_quiet_step (fail))
          refine wpQuiet_nil ?_
          refine mix_run 3 (by kernel_rfl) ?_
          simp only [segOf, pickOps, pickOp]
          go_wp2_with fail
          refine MixPost.normal hc4 ?_
          refine mix_seg [8, 9, 10] (by kernel_rfl) hc4 ?_
          simp only [segOf, pickOps, pickOp]
          repeat (go_big_quiet_step (fail))
          refine wpQuiet_nil ?_
          refine mix_done (by kernel_rfl) ?_
          go_wp2
          go_roundw
          case rel => exact ⟨j + 1, true, by omega, by go_num, rfl, HIN.out true true rfl HBQ.out, H41.out.drew, H42.out.drew⟩
          case measure => simp [intOf]; omega
      · have hj1 : ¬ ((0 : Int) < (j : Int)) := by omega
        go_wp2_with fail
        go_quiet (fail)
        go_wp2_with fail
        obtain ⟨wq, hwq⟩ : ∃ wq, wq = wr.drewN nq := ⟨_, rfl⟩
        have HQ1 : Hid (Below w.heap.size w wq) := by show Below _ _ _; rw [hwq]; exact below_drewN HR1.out nq
        have HQ2 : Hid (Below w2.heap.size w2 wq) := by show Below _ _ _; rw [hwq]; exact below_drewN HR2.out nq
        rw [← hwq]
        clear hwq hcj
        refine (Get_any a0 _ c0 w.heap.size xs x _ rfl HQ1.out.size (HX0.out.below HQ1.out) HM.out (by have := HXS.out; unfold maxLen; omega)).mono ?_
        rintro e w4 ⟨rfl, hb⟩
        rw [HXJ.out, HGT.out]
        have H41 : Hid (Below w.heap.size w w4) := HQ1.out.trans (hb.mono HQ1.out.size)
        have H42 : Hid (Below w2.heap.size w2 w4) := HQ2.out.trans (hb.mono HQ2.out.size)
        clear hb
        have hc4 : w4.cell? (ad.add j) = some (.string x) := HCJ.out w4 H42.out
        generalize mk (getH (xs.map hd) nl[j]) = tg
        go_wp2_with fail
        refine mix_start (fun W => W.cell? (ad.add j) = some (.string x)) (by kernel_rfl) ?_
        have hne : Nonempty (Held (fun W => W.cell? (ad.add j) = some (.string x))) := ⟨⟨_, hc4⟩⟩
        have z0 : ∀ q : Held (fun W => W.cell? (ad.add j) = some (.string x)), q.w.cell? (ad.add j) = some (.string x) := fun q => q.h
        have hlt2 : ((j : Int) < (nA : Int)) := by omega
        cases b
        · refine mix_seg [0, 1, 2, 4, 5, 6, 7] (by kernel_rfl) hc4 ?_
          simp only [segOf, pickOps, pickOp]
          repeat (go_big_quiet_step (fail))
          refine wpQuiet_nil ?_
          refine mix_run 3 (by kernel_rfl) ?_
          simp only [segOf, pickOps, pickOp]
          go_wp2_with fail
          refine (Lower_any name _ (by unfold maxLen; omega)).mono ?_
          rintro e w5 ⟨rfl, hb5⟩
          rw [← HLA.out]
          have hc5 : w5.cell? (ad.add j) = some (.string x) := HCJ.out w5 (H42.out.drew.trans (hb5.mono H42.out.size))
          have H51 : Hid (Below w.heap.size w w5) := H41.out.drew.trans (hb5.mono H41.out.size)
          have H52 : Hid (Below w2.heap.size w2 w5) := H42.out.drew.trans (hb5.mono H42.out.size)
          clear hb5
          go_wp2_with fail
          refine MixPost.normal hc5 ?_
          cases hq : a.toList == x.toList
          · have HQQ := Lib.hid hq
            refine mix_seg [8, 9, 10] (by kernel_rfl) hc5 ?_
            simp only [segOf, pickOps, pickOp]
            repeat (go_big_quiet_step (fail))
            refine wpQuiet_nil ?_
            refine mix_done (by kernel_rfl) ?_
            go_wp2
            go_roundw
            case rel => exact ⟨j + 1, false, by omega, by go_num, rfl, HIN.out false false (by rw [HQQ.out]; rfl) HBQ.out, H51.out, H52.out⟩
            case measure => simp [intOf]; omega
          · have HQQ := Lib.hid hq
            refine mix_seg [8, 9, 10] (by kernel_rfl) hc5 ?_
            simp only [segOf, pickOps, pickOp]
            repeat (go_big_quiet_step (fail))
            refine wpQuiet_nil ?_
            refine mix_done (by kernel_rfl) ?_
            go_wp2
            go_roundw
            case rel => exact ⟨j + 1, true, by omega, by go_num, rfl, HIN.out true false (by rw [HQQ.out]; rfl) HBQ.out, H51.out, H52.out⟩
            case measure => simp [intOf]; omega
        · refine mix_seg [0, 1, 2, 4, 5, 6, 7] (by kernel_rfl) hc4 ?_
          simp only [segOf, pickOps, pickOp]
          repeat (go_big_quiet_step (fail))
          refine wpQuiet_nil ?_
          refine mix_run 3 (by kernel_rfl) ?_
          simp only [segOf, pickOps, pickOp]
          go_wp2_with fail
          refine MixPost.normal hc4 ?_
          refine mix_seg [8, 9, 10] (by kernel_rfl) hc4 ?_
          simp only [segOf, pickOps, pickOp]
          repeat (go_big_quiet_step (fail))
          refine wpQuiet_nil ?_
          refine mix_done (by kernel_rfl) ?_
          go_wp2
          go_roundw
          case rel => exact ⟨j + 1, true, by omega, by go_num, rfl, HIN.out true true rfl HBQ.out, H41.out.drew, H42.out.drew⟩
          case measure => simp [intOf]; omega
    · obtain rfl : j = nA := by omega
      have HFI : Hid (gotH (xs.map hd) name.data.toList = b) := by show _ = _; rw [names_got, ← HNL.out, HBQ.out, List.take_of_length_le (by have := HNA.out; omega)]
      go_wp2_with fail
      refine (Get_any a0 _ c0 w.heap.size xs name _ rfl HR1.out.size (HX0.out.below HR1.out) HM.out (by unfold maxLen; omega)).mono ?_
      rintro e w4 ⟨rfl, hb⟩
      rw [HFI.out]
      have H41 : Hid (Below w.heap.size w w4) := HR1.out.trans (hb.mono HR1.out.size)
      clear hb
      have hnx2 : ((j : Int) ≤ (xs.length : Int)) := by omega
      go_wp2_with fail
      refine (awake6_any _).mono ?_
      rintro e w5 ⟨rfl, hb⟩
      go_wp2
      go_ret
      exact ⟨rfl, H41.out.trans (hb.mono H41.out.size)⟩
end Go.Proofs.Ytoiahjcnofhnlaa
