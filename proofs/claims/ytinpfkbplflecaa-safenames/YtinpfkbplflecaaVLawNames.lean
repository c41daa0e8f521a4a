/-
  The walk of the law SafeNames: whatever the input, it returns true, and nothing that was there has turned. Conditions: the arguments are such as any that come in.
-/
import Derived.Test.YtinpfkbplflecaaVAwake
import Derived.Sort.Walk0
namespace Go.Proofs.Ytinpfkbplflecaa
open Go.RowKit

def ownT : List UInt8 := [120, 45, 111, 119, 110]
theorem safe_own {F : List UInt8} (h : Lk.lower F = ownT) : safeH (F, [49]) = false := by
  unfold safeH
  show (decide ((Lk.trimL [49]).length ≤ 128) && kindOk (Lk.lower F) (Lk.trimL [49])) = false
  rw [h]; decide
theorem up_at {l : List Tx} (h : Up l) {i j : Nat} (hi : i < j) (hj : j < l.length) : l[i]'(by omega) < l[j] := List.pairwise_iff_getElem.1 h i j (by omega) hj hi
theorem up_lt {l : List Tx} (h : Up l) {i j : Nat} (hi : i < l.length) (hj : j < l.length) (hlt : l[i] < l[j]) : i < j := by
  rcases Nat.lt_trichotomy i j with h1 | rfl | h1
  · exact h1
  · exact absurd hlt (tx_lt_irrefl _)
  · exact absurd (tx_lt_trans hlt (up_at h h1 hi)) (tx_lt_irrefl _)
/-- the place where the next one is looked for -/
def Ahead (all nl : List Tx) (k i : Nat) : Prop := ∀ h : i < nl.length, ∃ p, k ≤ p ∧ ∃ hp : p < all.length, all[p] = nl[i]
theorem ahead_start {all nl : List Tx} (hs : ∀ x ∈ nl, x ∈ all) : Ahead all nl 0 0 := by
  intro h
  obtain ⟨p, hp, e⟩ := List.mem_iff_getElem.1 (hs nl[0] (List.getElem_mem h))
  exact ⟨p, Nat.zero_le _, hp, e⟩
theorem ahead_next {all nl : List Tx} (ha : Up all) (hn : Up nl) (hs : ∀ x ∈ nl, x ∈ all) {k i : Nat} (hi : i < nl.length) (hk : k < all.length) (e : all[k] = nl[i]) : Ahead all nl k (i + 1) := by
  intro h
  obtain ⟨p, hp, ep⟩ := List.mem_iff_getElem.1 (hs nl[i + 1] (List.getElem_mem h))
  refine ⟨p, ?_, hp, ep⟩
  have : all[k] < all[p] := by rw [e, ep]; exact up_at hn (by omega) h
  exact Nat.le_of_lt (up_lt ha hk hp this)
theorem mk_inj {a b : List UInt8} (h : (mk a).toList == (mk b).toList) : a = b := by
  rw [ByteArray.toList_eq, ByteArray.toList_eq, mk_data, mk_data] at h
  simpa using h

set_option maxRecDepth 100000 in
set_option maxHeartbeats 8000000 in
theorem walk_SafeNames (a0 : Option Addr) (c0 : Nat) (xs : List (ByteArray × ByteArray)) (bits : Int) (w : World) (h0 : HArg w a0 c0 xs) (h1 : (Lit.int .u64 bits).wf = true) :
    Calls Try.prog 8 #[.slice a0 xs.length c0, .int .u64 bits] w fun e w' => e = .returned (.bool true) ∧ Below w.heap.size w w' := by
  have b1 := wfU h1
  clear h1
  have HL0 : Hid (xs.length ≤ maxLen) := Nat.le_trans h0.2.2.1 h0.2.2.2.1
  have HN0 := Lib.hid h0.2.2.2.2
  have HX0 := Lib.hid h0.1
  have HS0 := Lib.hid h0.2.1
  clear h0
  cases hg : greatB xs
  case true =>
    have HG := Lib.hid hg
    clear hg
    go_enter Try.func8, Try.ntmps8
    go_wp2_with fail
    refine (Great_any a0 _ c0 w.heap.size xs _ rfl HX0.out HL0.out HS0.out).mono ?_
    rintro e w' ⟨rfl, rfl⟩
    rw [show (decide (40 < xs.length) || greatGo 0 xs) = true from HG.out]
    go_wp2_with fail
    refine (awake7_any _).mono ?_
    rintro e w1 ⟨rfl, hb⟩
    go_wp2
    go_ret
    exact ⟨rfl, hb⟩
  have HG := Lib.hid hg
  have HD0 := Lib.hid (great_bd hg)
  clear hg
  have HM : Hid (Sm (xs.map hd)) := HD0.out.sm (by omega) (by omega) (by omega)
  have hl0 : xs.length ≤ 40 := by have := HD0.out.1; simpa using this
  obtain ⟨nl, hnl⟩ : ∃ nl, nl = safeNames (xs.map hd) := ⟨_, rfl⟩
  obtain ⟨al, hal⟩ : ∃ al, al = namesH (xs.map hd) := ⟨_, rfl⟩
  have hnz : nl.length ≤ 40 := by have := safeNames_len (xs.map hd); rw [← hnl] at this; simp at this; omega
  have haz : al.length ≤ 40 := by have := names_len (xs.map hd); rw [← hal] at this; simp at this; omega
  have HUN : Hid (Up nl) := by rw [hnl]; exact safeNames_up _
  have HUA : Hid (Up al) := by rw [hal]; exact ris_up _
  have HSUB : Hid (∀ x ∈ nl, x ∈ al) := by rw [hnl, hal]; exact fun x hx => safeNames_lows hx
  have HNL := Lib.hid hnl
  have HAL := Lib.hid hal
  clear hnl hal
  go_enter Try.func8, Try.ntmps8
  go_wp2_with fail
  refine (Great_any a0 _ c0 w.heap.size xs _ rfl HX0.out HL0.out HS0.out).mono ?_
  rintro e w' ⟨rfl, rfl⟩
  rw [show (decide (40 < xs.length) || greatGo 0 xs) = false from HG.out]
  go_wp2_with fail
  refine (Names7_any a0 _ c0 w.heap.size xs _ rfl (Nat.le_refl _) HX0.out HM.out).mono ?_
  rintro e w1 ⟨v, rfl, hr, hb⟩
  rw [← HNL.out] at hr
  obtain ⟨A, cA, hv, hcA, hpA⟩ := trow_of hr
  subst hv
  have HPA := Lib.hid hpA
  have HB1 : Hid (Below w.heap.size w w1) := hb
  clear hr hb hpA
  go_wp2_with fail
  refine (Names_any a0 _ c0 w.heap.size xs _ rfl HB1.out.size (HX0.out.below HB1.out) HM.out).mono ?_
  rintro e w2 ⟨v, rfl, hr, hb⟩
  rw [← HAL.out] at hr
  obtain ⟨E, cE, hv, hcE, hpE⟩ := trow_of hr
  subst hv
  have HPE := Lib.hid hpE
  have HPA2 : Hid (SRow w2 w1.heap.size A (nl.map mk)) := HPA.out.below hb
  have HB2 : Hid (Below w.heap.size w w2) := HB1.out.trans (hb.mono HB1.out.size)
  clear hr hb hpE
  go_wp2_with fail
  go_loopw [7, 8] (fun q r wr => ∃ k i n : Nat, k ≤ al.length ∧ i ≤ nl.length ∧ q = .int .i64 k ∧ r = .int .i64 i ∧ wr = w2.drewN n ∧ Ahead al nl k i) (fun _ r _ => nl.length - (intOf r).toNat)
  case atStart => exact ⟨0, 0, 0, Nat.zero_le _, Nat.zero_le _, rfl, rfl, rfl, ahead_start HSUB.out⟩
  case round =>
    obtain ⟨k, i, n, hk, hin, rfl, rfl, hw, hah⟩ := hrel
    have HAH := Lib.hid hah
    have HW := Lib.hid hw
    clear hah hw
    by_cases hlt : i < nl.length
    · obtain ⟨p, hkp, hpl, hpe⟩ := HAH.out hlt
      obtain ⟨a1, eA, _, d1⟩ := HPA2.out i (mk nl[i]) (by simp [hlt])
      have HC1 : Hid (∀ m, (w2.drewN m).cell? (a1.add i) = some (.string (mk nl[i]))) := fun m => d1
      have HPE' := Lib.hid hpe
      have HAN : Hid (∀ k (h : k < al.length), al[k] = nl[i] → Ahead al nl k (i + 1)) := fun k h e => ahead_next HUA.out HUN.out HSUB.out hlt h e
      have HDN : Hid (∀ j (hj : j + 1 = i), ∃ y : ByteArray, (∀ m, (w2.drewN m).cell? (a1.add j) = some (.string y)) ∧ Op.bytesLess y.toList (mk nl[i]).toList = true) := by
        intro j hj
        subst hj
        obtain ⟨a1', eA', _, d1'⟩ := HPA2.out j (mk (nl[j]'(by omega))) (by simp [show j < nl.length by omega])
        rw [eA] at eA'
        obtain rfl : a1 = a1' := by simpa using eA'
        refine ⟨_, fun m => d1', ?_⟩
        rw [bytesLess_eq, ByteArray.toList_eq, ByteArray.toList_eq, mk_data, mk_data]
        exact decide_eq_true (up_at HUN.out (by omega) hlt)
      have HMI : Hid (∀ b : List UInt8, ((mk b).toList == (mk nl[i]).toList) = true → b = nl[i]) := fun b h => mk_inj h
      have HMJ : Hid (∀ b : List UInt8, ((mk b).toList == (mk nl[i]).toList) = false → b ≠ nl[i]) := by
        intro b h e
        rw [e] at h; simp at h
      generalize nl[i] = ni at *
      subst eA
      clear d1 hpe
      obtain ⟨W0, hW0⟩ : ∃ W0, W0 = wr := ⟨_, rfl⟩
      have HW0 : Hid (W0 = w2.drewN n) := by rw [hW0]; exact HW.out
      go_wp2_with fail
      go_loopw [7] (fun q wr2 => ∃ k m : Nat, k ≤ p ∧ q = .int .i64 k ∧ wr2 = w2.drewN m) (fun q _ => p - (intOf q).toNat)
      case atStart => exact ⟨k, n, hkp, rfl, HW.out⟩
      case round =>
        obtain ⟨k, m, hkp, rfl, hwm⟩ := hrel
        have HWM := Lib.hid hwm
        clear hwm hW0
        have hkl : k < al.length := by omega
        obtain ⟨a2, eE, _, d2⟩ := HPE.out k (mk al[k]) (by simp [hkl])
        have y1 : wr.cell? (a2.add k) = some (.string (mk al[k])) := by rw [HWM.out]; exact d2
        have y2 : wr.cell? (a1.add i) = some (.string (mk ni)) := by rw [HWM.out]; exact HC1.out m
        have hkl2 : ((k : Int) < (al.length : Int)) := by omega
        have hil2 : ((i : Int) < (nl.length : Int)) := by omega
        have HST : Hid (al[k] = ni → Ahead al nl k (i + 1)) := fun e => HAN.out k hkl e
        have HNX : Hid (al[k] ≠ ni → k + 1 ≤ p) := by
          intro hne
          rcases (by omega : k < p ∨ k = p) with h | rfl
          · exact h
          · exact absurd HPE'.out hne
        have HMI2 := Lib.hid (HMI.out al[k])
        have HMJ2 := Lib.hid (HMJ.out al[k])
        generalize al[k] = ak at *
        subst eE
        clear d2
        cases hq : (mk ak).toList == (mk ni).toList
        · have HNE := Lib.hid (HNX.out (HMJ2.out hq))
          have hq2 : ((mk ak).toList != (mk ni).toList) = true := by simp only [bne, hq]; rfl
          generalize mk ak = yk at *
          generalize mk ni = yi at *
          go_wp2_with fail
          go_quiet (fail)
          go_wp2
          go_roundw
          case rel => exact ⟨k + 1, _, HNE.out, by go_num, by rw [HWM.out, World.drewN_drewN]⟩
          case measure => have := HNE.out; simp [intOf]; omega
        · have HAD := Lib.hid (HST.out (HMI2.out hq))
          have hq2 : ((mk ak).toList != (mk ni).toList) = false := by simp only [bne, hq]; rfl
          by_cases hi0 : i = 0
          · generalize mk ak = yk at *
            generalize mk ni = yi at *
            have HI0 := Lib.hid hi0
            clear hi0
            go_wp2_with fail
            go_quiet (fail)
            go_wp2_with fail
            obtain ⟨wq, hwq⟩ : ∃ wq, wq = wr.drewN nq := ⟨_, rfl⟩
            have HWQ : Hid (∃ n, wq = w2.drewN n) := by rw [hwq, HWM.out, World.drewN_drewN]; exact ⟨_, rfl⟩
            rw [← hwq]
            clear hwq y1 y2
            have hke : ((k : Int) == (al.length : Int)) = false := by rw [beq_eq_false_iff_ne]; omega
            have hi2 : decide (0 < i) = false := by have := HI0.out; rw [decide_eq_false_iff_not]; omega
            go_quiet (fail)
            go_wp2
            go_roundw
            case rel =>
              obtain ⟨n9, hn9⟩ := HWQ.out
              exact ⟨k, i + 1, _, by omega, by omega, rfl, by go_num, by rw [hn9, World.drewN_drewN], HAD.out⟩
            case measure => simp [intOf]; omega
          · obtain ⟨j, hj⟩ : ∃ j, i = j + 1 := ⟨i - 1, by omega⟩
            obtain ⟨yj, hyj, hless⟩ := HDN.out j hj.symm
            have HYJ := Lib.hid hyj
            have HJ := Lib.hid hj
            have HLE := Lib.hid hless
            clear hj hyj hless
            generalize mk ak = yk at *
            generalize mk ni = yi at *
            go_wp2_with fail
            go_quiet (fail)
            go_wp2_with fail
            obtain ⟨wq, hwq⟩ : ∃ wq, wq = wr.drewN nq := ⟨_, rfl⟩
            have HWQ : Hid (∃ n, wq = w2.drewN n) := by rw [hwq, HWM.out, World.drewN_drewN]; exact ⟨_, rfl⟩
            have y3 : wq.cell? (a1.add i) = some (.string yi) := by rw [hwq]; exact y2
            have y4 : wq.cell? (a1.add j) = some (.string yj) := by obtain ⟨n9, hn9⟩ := HWQ.out; rw [hn9]; exact HYJ.out n9
            rw [← hwq]
            clear hwq y1 y2
            have hke : ((k : Int) == (al.length : Int)) = false := by rw [beq_eq_false_iff_ne]; omega
            have hi1 : decide (0 < i) = true := by have := HJ.out; rw [decide_eq_true_eq]; omega
            have hwi : IntKind.i64.wrap ((i : Int) - 1) = (j : Int) := by have := HJ.out; rw [IntKind.wrap_i64]; first | omega | (unfold wrap64; omega)
            have hjl2 : ((j : Int) < (nl.length : Int)) := by have := HJ.out; omega
            have hless := HLE.out
            go_quiet (fail)
            go_wp2
            go_roundw
            case rel =>
              obtain ⟨n9, hn9⟩ := HWQ.out
              exact ⟨k, i + 1, _, by omega, by omega, rfl, by go_num, by rw [hn9, World.drewN_drewN], HAD.out⟩
            case measure => simp [intOf]; omega
    · have HBR : Hid (Below w.heap.size w wr) := by rw [HW.out]; exact below_drewN HB2.out n
      obtain ⟨i0, hi, hz0, hz1, hz2⟩ := info_parts infoH
      obtain ⟨F, hF⟩ : ∃ F : ByteArray, F = mk (flipL bits (⟨#[120, 45, 111, 119, 110]⟩ : ByteArray).data.toList) := ⟨_, rfl⟩
      have hFz : F.size ≤ 5 := by rw [hF, mk_size, flip_len]; decide
      have hFl : Lk.lower F.data.toList = ownT := by rw [hF, mk_data, flip_low]; decide
      have HSO := Lib.hid (safe_more (xs.map hd) (F.data.toList, [49]) (safe_own hFl))
      have HFE : Hid (mk (flipL bits (⟨#[120, 45, 111, 119, 110]⟩ : ByteArray).data.toList) = F) := hF.symm
      have HFL := Lib.hid hFl
      have HSM5 : Hid (Sm (xs.map hd ++ [(F.data.toList, [49])])) := by
        refine ⟨by simp; omega, fun h hh => ?_⟩
        rcases List.mem_append.1 hh with hh | hh
        · exact HM.out.2 h hh
        · obtain rfl : h = (F.data.toList, [49]) := by simpa using hh
          exact ⟨by simp; omega, by simp⟩
      clear hF hFl
      go_wp2_with (at_builtin; refine wpList_append_heads rfl (.const (.slice none 0 0)) (.tmp 62) rfl wr.heap.size _ [] rfl (HdRow.nil _ _) a0 c0 w.heap.size xs rfl (HX0.out.below HBR.out) HN0.out ?c1 (Nat.le_refl _) ?_)
      case c1 => first | omega | (simp; omega)
      intro v3 w3 hr3 hg3
      have hb3 : Below wr.heap.size wr w3 := (Below.refl _ _).grown hg3 (Nat.le_refl _) (by intro k hk; cases hk)
      have HR3 : Hid (HdRow w3 wr.heap.size v3 (xs.map hd)) := by show HdRow _ _ _ _; simpa using hr3
      have HB3 := Lib.hid hb3
      clear hr3 hg3 hb3
      go_wp2_with fail
      refine (FlipF_any ⟨#[120, 45, 111, 119, 110]⟩ bits _ (by unfold maxLen; decide) b1.1 b1.2).mono ?_
      rintro e w4 ⟨rfl, hb4⟩
      rw [HFE.out]
      have HR4 : Hid (w4.ownsRow wr.heap.size 41 2 v3 (xs.map hd).length (hcs (xs.map hd))) := HR3.out.below hb4
      have HB4 : Hid (Below wr.heap.size wr w4) := HB3.out.trans (hb4.mono HB3.out.size)
      clear hb4
      go_wp2_with (at_builtin; refine wpList_append_own _ rfl (.tmp 63) (.tmp 67) 22 rfl wr.heap.size 41 i0 (.agg #[.string ⟨#[]⟩, .string ⟨#[]⟩]) 2 32 Try.underlying22 hi hz0 hz1 hz2 rfl (by decide) _ _ _ rfl (World.ownsRow.alloc (w := w4) HR4.out _) ⟨w4.heap.size, 0, none⟩ 1 1 [.string F, .string ⟨#[49]⟩] rfl rfl ?d1 ?d2 ?d3 ?d4 ?d5 ?_)
      case d1 => exact cells_two_new _ _ _ _
      case d2 => intro u hu; simp at hu; rcases hu with rfl | rfl <;> rfl
      case d3 => simp; unfold maxLen; omega
      case d4 => simp; omega
      case d5 => have := HB4.out.size; simp; omega
      intro v5 w5 hown' hgrow _
      have hr5 : HdRow w5 wr.heap.size v5 (xs.map hd ++ [(F.data.toList, [49])]) := HdRow.more (a := F) (b := ⟨#[49]⟩) (l := xs.map hd) (by first | exact hown' | (rw [List.length_map]; exact hown'))
      have hb5 : Below wr.heap.size wr w5 := (HB4.out.alloc HB4.out.size _).grown hgrow (by have := HB4.out.size; simp; omega) (fun b hb => (HR4.out.lt b hb).1)
      have HB5 : Hid (Below w.heap.size w w5) := HBR.out.trans (hb5.mono HBR.out.size)
      clear hown' hgrow hb5
      obtain ⟨M, nM, cM, yM, rfl, hnM, hyM, _, hpM⟩ := hr5.row
      have HNM := Lib.hid hnM
      have HYM : Hid (yM.map hd = xs.map hd ++ [(F.data.toList, [49])]) := hyM
      have HPM := Lib.hid hpM
      clear hr5 hnM hyM hpM
      go_wp2_with fail
      refine (Names7_any M _ cM w5.heap.size yM _ HNM.out (Nat.le_refl _) HPM.out (by rw [HYM.out]; exact HSM5.out)).mono ?_
      rintro e w6 ⟨v6, rfl, hr6, hb6⟩
      rw [HYM.out] at hr6
      have HB6 : Hid (Below w.heap.size w w6) := HB5.out.trans (hb6.mono HB5.out.size)
      obtain ⟨ml, hml⟩ : ∃ ml, ml = safeNames (xs.map hd ++ [(F.data.toList, [49])]) := ⟨_, rfl⟩
      rw [← hml] at hr6
      have hmz : ml.length ≤ 41 := by rw [hml]; have := safeNames_len (xs.map hd ++ [(F.data.toList, [49])]); simp at this; omega
      have HIN : Hid (ml.any (fun x => x == ownT) = true) := by
        show _ = _
        have h := HSO.out.1
        rw [show Lk.lower ((F.data.toList, [49]) : Hd).1 = ownT from HFL.out, ← hml] at h
        exact List.any_eq_true.2 ⟨ownT, h, by simp⟩
      have hnm : nl.length ≤ ml.length := by
        have h := HSO.out.2
        rw [← hml, ← HNL.out] at h
        exact h
      clear hml hb6
      obtain ⟨A6, c6, hv, hc6, hp6⟩ := trow_of hr6
      subst hv
      have HP6 := Lib.hid hp6
      clear hr6 hp6
      go_wp2_with fail
      go_loop [10, 11] (fun o r => ∃ (j : Nat) (ob : Bool), j ≤ ml.length ∧ r = .int .i64 j ∧ o = .bool ob ∧ ob = (ml.take j).any (fun x => x == ownT)) (fun _ r => ml.length - (intOf r).toNat)
      case atStart => exact ⟨0, false, Nat.zero_le _, rfl, rfl, rfl⟩
      case round =>
        obtain ⟨j, ob, hj, rfl, rfl, hob⟩ := hrel
        have HOB := Lib.hid hob
        clear hob
        by_cases hjl : j < ml.length
        · have HNX : Hid ((ml.take (j + 1)).any (fun x => x == ownT) = (ob || (ml[j] == ownT))) := by
            show _ = _
            rw [List.take_succ_eq_append_getElem hjl, List.any_append, ← HOB.out]; simp
          cases ob
          · obtain ⟨a6, eA6, _, d6⟩ := HP6.out j (mk ml[j]) (by simp [hjl])
            have HEQ : Hid (((mk ml[j]).toList == [120, 45, 111, 119, 110]) = (ml[j] == ownT)) := by show _ = _; rw [ByteArray.toList_eq, mk_data]; rfl
            generalize ml[j] = mj at *
            subst eA6
            cases hq : (mk mj).toList == [120, 45, 111, 119, 110]
            · have HQ := Lib.hid hq
              generalize mk mj = ym at *
              go_wp2
              go_round
              case rel => exact ⟨j + 1, false, by omega, by go_num, rfl, by rw [HNX.out, ← HEQ.out, HQ.out]; rfl⟩
              case measure => simp [intOf]; omega
            · have HQ := Lib.hid hq
              generalize mk mj = ym at *
              go_wp2
              go_round
              case rel => exact ⟨j + 1, true, by omega, by go_num, rfl, by rw [HNX.out, ← HEQ.out, HQ.out]; rfl⟩
              case measure => simp [intOf]; omega
          · go_wp2
            go_round
            case rel => exact ⟨j + 1, true, by omega, by go_num, rfl, by rw [HNX.out]; rfl⟩
            case measure => simp [intOf]; omega
        · have HOT : Hid (ob = true) := by
            show _ = _
            rw [HOB.out, List.take_of_length_le (by omega)]; exact HIN.out
          have hot := HOT.out
          subst hot
          have hnm2 : ((nl.length : Int) ≤ (ml.length : Int)) := by omega
          go_wp2_with fail
          refine (awake7_any _).mono ?_
          rintro e w7 ⟨rfl, hb⟩
          go_wp2
          go_ret
          exact ⟨rfl, HB6.out.trans (hb.mono HB6.out.size)⟩
end Go.Proofs.Ytinpfkbplflecaa
