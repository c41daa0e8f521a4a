/-
  The walk of the law HostsEldest: it returns true, and nothing that was there has turned. Conditions: the bools lie where the slice says.
-/
import Derived.Test.YtmpaopfjpigneaaNEldest
import Derived.Test.YtmpaopfjpigneaaKBools
import Derived.Test.YtmpaopfjpigneaaKLow
import Derived.Test.YtmpaopfjpigneaaKByte
namespace Go.Proofs.Ytmpaopfjpigneaa
open Go.RowKit

theorem nmE_data (i : Nat) (hi : i < 32) : (UInt8.ofNat (97 + i / 26)).toNat = 97 + i / 26 ∧ (UInt8.ofNat (97 + i % 26)).toNat = 97 + i % 26 := by
  simp; omega
theorem conv_nmE (w : World) (i : Nat) (hi : i < 32) : (convert 44 9 (.slice (some ⟨w.heap.size, 0, none⟩) 2 2)).run Try.prog (w.alloc (.cells #[.int .u8 (97 + (i : Int) / 26), .int .u8 (97 + (i : Int) % 26)] 5)) = .ok (.string (nmE i)) (w.alloc (.cells #[.int .u8 (97 + (i : Int) / 26), .int .u8 (97 + (i : Int) % 26)] 5)) :=
  run_convert_bytes_back (w.alloc (.cells #[.int .u8 (97 + (i : Int) / 26), .int .u8 (97 + (i : Int) % 26)] 5)) 44 9 5 ⟨w.heap.size, 0, none⟩ 2 [UInt8.ofNat (97 + i / 26), UInt8.ofNat (97 + i % 26)] Try.underlying44 Try.underlying5 Try.underlying9 (fun j hj => by
    obtain ⟨e1, e2⟩ := nmE_data i hi
    match j, hj with
    | 0, _ =>
      show _ = some (Value.int .u8 ((UInt8.ofNat (97 + i / 26)).toNat : Int))
      rw [e1]
      simp [Addr.add]
    | 1, _ =>
      show _ = some (Value.int .u8 ((UInt8.ofNat (97 + i % 26)).toNat : Int))
      rw [e2]
      simp [Addr.add])

set_option maxHeartbeats 400000 in
/-- the function that makes a name -/
theorem name_any (i : Nat) (hi : i < 32) (w : World) :
    Calls Try.prog 23 #[.int .i64 (i : Int)] w fun e w' => e = .returned (.string (nmE i)) ∧ Only [] w w' := by
  have hcv := conv_nmE w i hi
  generalize nmE i = X at *
  go_enter Try.func23, Try.ntmps23
  go_wp2
  go_ret
  exact ⟨rfl, (Only.refl _ _).alloc _⟩

set_option maxRecDepth 20000 in
set_option maxHeartbeats 1600000 in
theorem walk_HostsEldest (a0 : Int) (a1 : Option Addr) (c1 : Nat) (x1 : List Bool) (w : World) (_h0 : (Lit.int .i64 a0).wf = true) (h1 : BlArg w a1 c1 x1) :
    Calls Try.prog 5 #[.int .i64 a0, .slice a1 x1.length c1] w fun e w' => e = .returned (.bool true) ∧ Below w.heap.size w w' := by
  clear _h0
  have H1 := Lib.hid h1
  have hl1 := h1.2.1
  have hm1 := h1.2.2
  unfold maxLen at hm1
  clear h1
  obtain ⟨q, hq⟩ : ∃ q : Nat, lowV a0 32 = (q : Int) := ⟨(lowV a0 32).toNat, by have := lowV_bd a0 (n := 32) (by omega); omega⟩
  have hq32 : q < 32 := by have := lowV_bd a0 (n := 32) (by omega); omega
  have HQ := Lib.hid hq
  clear hq
  by_cases hb1 : 40 < x1.length
  · go_enter Try.func5, Try.ntmps5
    go_wp2_with fail
    refine (Low_any a0 32 w (by omega) (by omega)).mono ?_
    rintro e w' ⟨rfl, rfl⟩
    rw [HQ.out]
    go_wp2_with fail
    refine (awake12_any _).mono ?_
    rintro e w' ⟨rfl, hb⟩
    go_wp2
    go_ret
    exact ⟨rfl, hb⟩
  obtain ⟨K, hK⟩ : ∃ K : Nat, K = q + 1 := ⟨_, rfl⟩
  have HK : Hid ((1 + (q : Int)) = (K : Int)) := by show _ = _; omega
  have hK32 : K ≤ 32 := by omega
  have HC : Hid (clampT (K : Int) = K) := clampT_id (by omega) hK32
  obtain ⟨fr, hfr⟩ : ∃ fr : Nat → Bool, ∀ j (hj : j < x1.length), fr j = x1[j] := ⟨fun j => x1.getD j false, fun j hj => by simp [hj]⟩
  have HFR := Lib.hid hfr
  obtain ⟨Y, hY⟩ : ∃ Y : ByteArray, Y = newE := ⟨_, rfl⟩
  have HY : Hid (Y = ByteArray.mk #[110, 101, 119]) := hY
  have HYN := Lib.hid hY
  clear hK hfr hY
  go_enter Try.func5, Try.ntmps5
  go_wp2_with fail
  refine (Low_any a0 32 w (by omega) (by omega)).mono ?_
  rintro e w' ⟨rfl, rfl⟩
  rw [HQ.out]
  go_wp2_with fail
  rw [HK.out]
  clear hq32 HQ HK
  refine (hNew_any (K : Int) w).mono ?_
  rintro e w1 ⟨rfl, ht1, ho1, _⟩
  obtain ⟨g, hg⟩ : ∃ g, g = w.heap.size := ⟨_, rfl⟩
  have N1 := TbNew.new (Below.refl _ w) ht1 ho1
  rw [HC.out, ← hg] at N1
  rw [← hg]
  have HX1 : Hid (TbNew w w1 g K (.slice none 0 0) (lstE 0 fr 0)) := N1
  clear ht1 ho1 hg N1
  go_wp2_with fail
  go_loopw [8] (fun i wr => ∃ (i0 : Nat) (v : Value), i0 ≤ K ∧ i = .int .i64 i0 ∧ TbNew w wr g K v (lstE i0 fr 0)) (fun i _ => K - (intOf i).toNat)
  case atStart => exact ⟨0, _, by omega, rfl, HX1.out⟩
  case round =>
    obtain ⟨i, v, hi, rfl, hx⟩ := hrel
    have HX := Lib.hid hx
    clear hx HX1
    by_cases hlt : i < K
    · have HU := Lib.hid (eld_use hK32 hlt fr)
      obtain ⟨X, hX⟩ : ∃ X, X = nmE i := ⟨_, rfl⟩
      have HXE := Lib.hid hX
      rw [← hX] at HU
      clear hX
      go_wp2_with fail
      refine (name_any i (by omega) wr).mono ?_
      rintro e w2 ⟨rfl, ho⟩
      rw [← HXE.out]
      have HX2 := Lib.hid (HX.out.old ho)
      clear ho
      go_wp2_with fail
      refine (hUseN_any X HX2.out).mono ?_
      rintro e w3 ⟨rfl, v3, n3, _⟩
      rw [HU.out.1]
      rw [HU.out.2] at n3
      have HX3 := Lib.hid n3
      clear n3
      go_wp2
      go_roundw
      case rel => exact ⟨i + 1, v3, by omega, by go_num, HX3.out⟩
      case measure => simp [intOf]; omega
    · have HX := Lib.hid (show TbNew w wr g K v (lstE K fr 0) by
        have e : i = K := by omega
        have h1 := HX.out
        rw [e] at h1
        exact h1)
      go_wp2_with fail
      go_loopw [11, 12] (fun s i wr => ∃ (i0 : Nat) (f : Int), i0 ≤ K ∧ i = .int .i64 i0 ∧ s = .int .i64 f ∧ TbNew w wr g K v (lstE K fr i0) ∧ (f = -1 ∧ (∀ j, j < i0 → fr j = false) ∨ ∃ z : Nat, z < i0 ∧ f = (z : Int) ∧ fr z = true ∧ ∀ j, j < z → fr j = false)) (fun _ i _ => K - (intOf i).toNat)
      case atStart => exact ⟨0, -1, by omega, rfl, rfl, HX.out, .inl ⟨rfl, fun j hj => by omega⟩⟩
      case round =>
        obtain ⟨p, f, hp, rfl, rfl, hx, hf⟩ := hrel
        have HX := Lib.hid hx
        have HF := Lib.hid hf
        clear hx hf
        by_cases hex : p < K ∧ p < x1.length
        · obtain ⟨hpK, hpx⟩ := hex
          obtain ⟨ad, e1, hB, hc0⟩ := H1.out.1 p x1[p] (List.getElem?_eq_getElem hpx)
          have hf0 := (HX.out.b.cell (p := ad.add p) (by rw [block_add]; exact hB)).trans hc0
          have hfp := HFR.out p hpx
          rw [← hfp] at hf0
          subst e1
          have HFP : Hid (fr p = fr p) := rfl
          obtain ⟨y, hy⟩ : ∃ y, y = fr p := ⟨_, rfl⟩
          rw [← hy] at hf0
          have HYP := Lib.hid hy
          clear hc0 hfp hB hy HFP
          cases y with
          | false =>
            have HSK : Hid (lstE K fr (p + 1) = lstE K fr p) := eld_skip HYP.out.symm
            go_wp2
            go_roundw
            case rel =>
              refine ⟨p + 1, f, by omega, by go_num, rfl, by rw [HSK.out]; exact HX.out, ?_⟩
              rcases HF.out with ⟨e, h⟩ | ⟨z, h1, h2, h3, h4⟩
              · refine .inl ⟨e, fun j hj => ?_⟩
                by_cases e2 : j = p
                · subst e2; exact HYP.out.symm
                · exact h j (by omega)
              · exact .inr ⟨z, by omega, h2, h3, h4⟩
            case measure => simp [intOf]; omega
          | true =>
            have HU := Lib.hid (eld_free hK32 hpK HYP.out.symm)
            obtain ⟨X, hX⟩ : ∃ X, X = nmE p := ⟨_, rfl⟩
            have HXE := Lib.hid hX
            rw [← hX] at HU
            clear hX
            go_wp2_with fail
            refine (name_any p (by omega) wr).mono ?_
            rintro e w2 ⟨rfl, ho⟩
            rw [← HXE.out]
            have HX2 := Lib.hid (HX.out.old ho)
            clear ho hf0
            go_wp2_with fail
            refine (hFreeN_any X HX2.out).mono ?_
            rintro e w3 ⟨rfl, n3, _⟩
            rw [HU.out.1]
            rw [HU.out.2] at n3
            have HX3 := Lib.hid n3
            clear n3
            rcases HF.out with ⟨rfl, h⟩ | ⟨z, h1, rfl, h3, h4⟩
            · have HN := Lib.hid h
              clear h
              go_wp2
              go_roundw
              case rel => exact ⟨p + 1, p, by omega, by go_num, rfl, HX3.out, .inr ⟨p, by omega, rfl, HYP.out.symm, HN.out⟩⟩
              case measure => simp [intOf]; omega
            · have HN := Lib.hid h4
              clear h4
              go_wp2
              go_roundw
              case rel => exact ⟨p + 1, z, by omega, by go_num, rfl, HX3.out, .inr ⟨z, by omega, rfl, h3, HN.out⟩⟩
              case measure => simp [intOf]; omega
        · have hex2 : ¬ p < K ∨ (p < K ∧ ¬ p < x1.length) := by omega
          clear hex
          rcases HF.out with ⟨rfl, h⟩ | ⟨z, h1, rfl, h3, h4⟩
          · obtain ⟨e1, e2, e3, e4⟩ := eld_full (K := K) h
            have HKL : Hid ((keysL (lstE K fr p)).length = K) := by show _ = _; rw [keysL_len, lstE_len]
            rw [← HYN.out] at e1 e2 e3 e4
            have E1 := Lib.hid e1
            have E2 := Lib.hid e2
            have E3 := Lib.hid e3
            have E4 := Lib.hid e4
            clear h e1 e2 e3 e4
            rcases hex2 with h1 | ⟨h1, h2⟩
            all_goals
              go_wp2_with fail
              rw [← HY.out]
              refine (hUseN_any Y HX.out).mono ?_
              rintro e w2 ⟨rfl, v2, n2, _⟩
              rw [E1.out, E2.out]
              rw [E3.out] at n2
              have N2 := Lib.hid n2
              clear n2
              go_wp2_with fail
              rw [← HY.out]
              refine (hHasN_any Y N2.out).mono ?_
              rintro e w3 ⟨rfl, n3, _⟩
              rw [E4.out]
              have N3 := Lib.hid n3
              clear n3
              go_wp2_with fail
              refine (hKeys_any g K v2 _ w3 N3.out.t).mono ?_
              rintro e w4 ⟨u, rfl, hr4, ho4⟩
              obtain ⟨A4, cap4, e4, _⟩ := hr4.view
              rw [HKL.out] at e4
              subst e4
              have N4 := Lib.hid (N3.out.old ho4)
              clear hr4 ho4
              go_wp2_with fail
              refine (awake12_any _).mono ?_
              rintro e w' ⟨rfl, hb⟩
              have HE := Lib.hid (N4.out.b.trans (hb.mono N4.out.b.size))
              clear hb
              go_wp2
              go_ret
              exact ⟨rfl, HE.out⟩
          · have hzK : z < K := by omega
            obtain ⟨e1, e2, e3, e4, e5⟩ := eld_gone (K := K) hK32 hzK h1 h3 h4
            have e6 := eld_len (i := p) (fr := fr) hzK
            rw [← HYN.out] at e1 e2 e3 e4 e5 e6
            obtain ⟨L2, hL2⟩ : ∃ L2, L2 = (lstE K fr p).eraseIdx z ++ [(Y, 1)] := ⟨_, rfl⟩
            rw [← hL2] at e3 e4 e5 e6
            have HKL : Hid ((keysL L2).length = K) := by show _ = _; rw [keysL_len]; exact e6
            obtain ⟨X, hX⟩ : ∃ X, X = nmE z := ⟨_, rfl⟩
            have HXE := Lib.hid hX
            rw [← hX] at e1 e4
            have E1 := Lib.hid e1
            have E2 := Lib.hid e2
            have E3 := Lib.hid e3
            have E4 := Lib.hid e4
            have E5 := Lib.hid e5
            clear h3 h4 e1 e2 e3 e4 e5 e6 hL2 hX h1
            rcases hex2 with h1 | ⟨h1, h2⟩
            all_goals
              go_wp2_with fail
              rw [← HY.out]
              refine (hUseN_any Y HX.out).mono ?_
              rintro e w2 ⟨rfl, v2, n2, _⟩
              rw [E1.out, E2.out]
              rw [E3.out] at n2
              have N2 := Lib.hid n2
              clear n2
              go_wp2_with fail
              refine (name_any z (by omega) w2).mono ?_
              rintro e w3 ⟨rfl, ho⟩
              rw [← HXE.out]
              have N3 := Lib.hid (N2.out.old ho)
              clear ho
              go_wp2_with fail
              refine (hHasN_any X N3.out).mono ?_
              rintro e w4 ⟨rfl, n4, _⟩
              rw [E4.out]
              have N4 := Lib.hid n4
              clear n4
              go_wp2_with fail
              rw [← HY.out]
              refine (hUsedN_any Y N4.out).mono ?_
              rintro e w5 ⟨rfl, n5, _⟩
              rw [E5.out]
              have N5 := Lib.hid n5
              clear n5
              go_wp2_with fail
              refine (hKeys_any g K v2 _ w5 N5.out.t).mono ?_
              rintro e w6 ⟨u, rfl, hr6, ho6⟩
              obtain ⟨A4, cap4, e4, _⟩ := hr6.view
              rw [HKL.out] at e4
              subst e4
              have N6 := Lib.hid (N5.out.old ho6)
              clear hr6 ho6
              go_wp2_with fail
              refine (awake12_any _).mono ?_
              rintro e w' ⟨rfl, hb⟩
              have HE := Lib.hid (N6.out.b.trans (hb.mono N6.out.b.size))
              clear hb
              go_wp2
              go_ret
              exact ⟨rfl, HE.out⟩
end Go.Proofs.Ytmpaopfjpigneaa
