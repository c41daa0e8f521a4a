/-
  The walk of the law HeaderNorms: whatever the input, it returns true, and nothing that was there has turned. Conditions: the arguments are such as any that come in.
-/
import Derived.Test.YtoiahjcnofhnlaaDWords
namespace Go.Proofs.Ytoiahjcnofhnlaa
open Go.RowKit

set_option maxRecDepth 100000 in
set_option maxHeartbeats 4000000 in
theorem walk_HeaderNorms (a0 : Option Addr) (c0 : Nat) (xs : List (ByteArray × ByteArray)) (name : ByteArray) (w : World) (h0 : HArg w a0 c0 xs) (t0 : name.size ≤ maxLen) :
    Calls Try.prog 5 #[.slice a0 xs.length c0, .string name] w fun e w' => e = .returned (.bool true) ∧ Below w.heap.size w w' := by
  have HL0 : Hid (xs.length ≤ maxLen) := Nat.le_trans h0.2.2.1 h0.2.2.2.1
  have HN0 := Lib.hid h0.2.2.2.2
  have HX0 := Lib.hid h0.1
  have HS0 := Lib.hid h0.2.1
  clear h0
  have HT0 := Lib.hid t0
  clear t0
  cases hg0 : greatB xs
  case true =>
    have HG0 := Lib.hid hg0
    clear hg0
    go_enter Try.func5, Try.ntmps5
    go_wp2_with fail
    refine (Great_any a0 _ c0 w.heap.size xs _ rfl HX0.out HL0.out HS0.out).mono ?_
    rintro e w' ⟨rfl, rfl⟩
    rw [show (decide (40 < xs.length) || greatGo 0 xs) = true from HG0.out]
    go_wp2_with fail
    refine (awake6_any _).mono ?_
    rintro e w1 ⟨rfl, hb⟩
    go_wp2
    go_ret
    exact ⟨rfl, hb⟩
  have HG0 := Lib.hid hg0
  have HD0 := Lib.hid (great_bd hg0)
  clear hg0
  cases hz : Lk.longL 600 ([name].map ByteArray.size)
  case true =>
    have HZ := Lib.hid hz
    clear hz
    go_enter Try.func5, Try.ntmps5
    go_wp2_with fail
    refine (Great_any a0 _ c0 w.heap.size xs _ rfl HX0.out HL0.out HS0.out).mono ?_
    rintro e w' ⟨rfl, rfl⟩
    rw [show (decide (40 < xs.length) || greatGo 0 xs) = false from HG0.out]
    go_wp2_with fail
    refine (Long_any 600 _ 1 1 [name] _ (w.heap.size + 1) (by omega) (by omega) rfl (SRow.one_at _ _ _ _ rfl) (by unfold maxLen; simp) (by intro x hx; simp at hx; subst hx; exact HT0.out)).mono ?_
    rintro e w1 ⟨rfl, hwn⟩
    have HB1 : Hid (Below w.heap.size w w1) := by show Below _ _ _; rw [← hwn]; exact (Below.refl _ _).alloc (Nat.le_refl _) _
    clear hwn
    rw [show Lk.longL (600 : Int).toNat ([name].map ByteArray.size) = true from HZ.out]
    go_wp2_with fail
    refine (awake6_any _).mono ?_
    rintro e w2 ⟨rfl, hb⟩
    go_wp2
    go_ret
    exact ⟨rfl, HB1.out.trans (hb.mono HB1.out.size)⟩
  have HZ := Lib.hid hz
  have hsz := Lk.long_no _ _ hz
  simp at hsz
  clear hz
  go_enter Try.func5, Try.ntmps5
  go_wp2_with fail
  refine (Great_any a0 _ c0 w.heap.size xs _ rfl HX0.out HL0.out HS0.out).mono ?_
  rintro e w' ⟨rfl, rfl⟩
  rw [show (decide (40 < xs.length) || greatGo 0 xs) = false from HG0.out]
  have HB0 : Hid (Below w.heap.size w w) := Below.refl _ _
  go_wp2_with fail
  refine (Long_any 600 _ 1 1 [name] _ (w.heap.size + 1) (by omega) (by omega) rfl (SRow.one_at _ _ _ _ rfl) (by unfold maxLen; simp) (by intro x hx; simp at hx; subst hx; exact HT0.out)).mono ?_
  rintro e w1 ⟨rfl, hwn⟩
  have hb : Below w.heap.size w w1 := by rw [← hwn]; exact (Below.refl _ _).alloc (Nat.le_refl _) _
  have HB1 : Hid (Below w.heap.size w w1) := HB0.out.trans (hb.mono HB0.out.size)
  clear hb hwn
  rw [show Lk.longL (600 : Int).toNat ([name].map ByteArray.size) = false from HZ.out]
  have HM : Hid (Sm (xs.map hd)) := HD0.out.sm (by omega) (by omega) (by omega)
  have HMN : Hid (Sm (normL (xs.map hd))) := HD0.out.norm.sm (by omega) (by omega) (by omega)
  have hl0 := HM.out.sizes.1
  go_wp2_with fail
  refine (Norm_any a0 _ c0 w.heap.size xs _ rfl HB1.out.size (HX0.out.below HB1.out) (by omega) HS0.out).mono ?_
  rintro e w2 ⟨v, rfl, hr, hb⟩
  have HB2 : Hid (Below w.heap.size w w2) := HB1.out.trans (hb.mono HB1.out.size)
  clear hb
  obtain ⟨A, nA, cA, yA, rfl, hnA, hyA, hcA, hpA⟩ := hr.row
  have HNA := Lib.hid hnA
  have HYA : Hid (yA.map hd = normL (xs.map hd)) := hyA
  have HPA := Lib.hid hpA
  clear hr hnA hyA hpA
  have HC2 : Hid (Below w2.heap.size w2 w2) := Below.refl _ _
  obtain ⟨t, ht⟩ : ∃ t, t = mk (getH (xs.map hd) name.data.toList) := ⟨_, rfl⟩
  obtain ⟨b, hbq⟩ : ∃ b, b = gotH (xs.map hd) name.data.toList := ⟨_, rfl⟩
  have HTT := Lib.hid ht
  have HBQ := Lib.hid hbq
  clear ht hbq
  go_wp2_with fail
  refine (Get_any a0 _ c0 w.heap.size xs name _ rfl HB2.out.size (HX0.out.below HB2.out) HM.out (by unfold maxLen; omega)).mono ?_
  rintro e w3 ⟨rfl, hb⟩
  have HB3 : Hid (Below w.heap.size w w3) := HB2.out.trans (hb.mono HB2.out.size)
  have HC3 : Hid (Below w2.heap.size w2 w3) := HC2.out.trans (hb.mono HC2.out.size)
  clear hb
  rw [← HTT.out, ← HBQ.out]
  go_wp2_with fail
  refine (Get_any A _ cA w2.heap.size yA name _ HNA.out HC3.out.size (HPA.out.below HC3.out) (by rw [HYA.out]; exact HMN.out) (by unfold maxLen; omega)).mono ?_
  rintro e w4 ⟨rfl, hb⟩
  have HB4 : Hid (Below w.heap.size w w4) := HB3.out.trans (hb.mono HB3.out.size)
  have HC4 : Hid (Below w2.heap.size w2 w4) := HC3.out.trans (hb.mono HC3.out.size)
  clear hb
  rw [HYA.out, get_norm, got_norm, ← HTT.out, ← HBQ.out]
  go_wp2_with fail
  refine (Norm_any A _ cA w2.heap.size yA _ HNA.out HC4.out.size (HPA.out.below HC4.out) (by have := HMN.out.1; rw [← HYA.out] at this; simp at this; omega) (by intro x hx; have := (show Sm (yA.map hd) by rw [HYA.out]; exact HMN.out).sizes.2 x hx; unfold maxLen; omega)).mono ?_
  rintro e w5 ⟨v, rfl, hr, hb⟩
  have HB5 : Hid (Below w.heap.size w w5) := HB4.out.trans (hb.mono HB4.out.size)
  have HC5 : Hid (Below w2.heap.size w2 w5) := HC4.out.trans (hb.mono HC4.out.size)
  clear hb
  rw [HYA.out, norm_norm] at hr
  obtain ⟨E, nE, cE, yE, rfl, hnE, hyE, hcE, hpE⟩ := hr.row
  have HNE := Lib.hid hnE
  have HYE : Hid (yE.map hd = normL (xs.map hd)) := hyE
  have HPE := Lib.hid hpE
  clear hr hnE hyE hpE
  have HE5 : Hid (Below w5.heap.size w5 w5) := Below.refl _ _
  have HQ : Hid (yA = yE) := row_alike (HYA.out.trans HYE.out.symm)
  have hq := HQ.out
  subst hq
  go_wp2_with fail
  refine (Headers_same E A _ _ cE cA w5.heap.size w2.heap.size yA _ HNE.out HNA.out (by have := HMN.out.1; rw [← HYA.out] at this; simp at this; unfold maxLen; omega) (HPE.out.below HE5.out) (HPA.out.below HC5.out)).mono ?_
  rintro e w6 ⟨rfl, n6, hwn⟩
  have hb : Below w5.heap.size w5 w6 := by rw [hwn]; exact below_drewN (Below.refl _ _) _
  have HB6 : Hid (Below w.heap.size w w6) := HB5.out.trans (hb.mono HB5.out.size)
  have HC6 : Hid (Below w2.heap.size w2 w6) := HC5.out.trans (hb.mono HC5.out.size)
  have HE6 : Hid (Below w5.heap.size w5 w6) := HE5.out.trans (hb.mono HE5.out.size)
  clear hb hwn
  go_wp2_with fail
  refine (Same_any a0 A _ _ c0 cA w2.heap.size xs yA _ rfl HNA.out HC6.out.size ((HX0.out.below HB6.out).mono HB2.out.size) (HPA.out.below HC6.out) HM.out (by rw [HYA.out]; exact HMN.out)).mono ?_
  rintro e w7 ⟨rfl, hb⟩
  have HB7 : Hid (Below w.heap.size w w7) := HB6.out.trans (hb.mono HB6.out.size)
  have HC7 : Hid (Below w2.heap.size w2 w7) := HC6.out.trans (hb.mono HC6.out.size)
  have HE7 : Hid (Below w5.heap.size w5 w7) := HE6.out.trans (hb.mono HE6.out.size)
  clear hb
  rw [HYA.out, same_norm]
  go_wp2_with fail
  refine (Check6_any a0 _ c0 w.heap.size xs _ rfl HB7.out.size (HX0.out.below HB7.out) HL0.out HS0.out).mono ?_
  rintro e w8 ⟨rfl, hb⟩
  have HB8 : Hid (Below w.heap.size w w8) := HB7.out.trans (hb.mono HB7.out.size)
  have HC8 : Hid (Below w2.heap.size w2 w8) := HC7.out.trans (hb.mono HC7.out.size)
  have HE8 : Hid (Below w5.heap.size w5 w8) := HE7.out.trans (hb.mono HE7.out.size)
  clear hb
  go_wp2_with fail
  refine (Check6_any A _ cA w2.heap.size yA _ HNA.out HC8.out.size (HPA.out.below HC8.out) (by have := HMN.out.1; rw [← HYA.out] at this; simp at this; unfold maxLen; omega) (by intro x hx; have := (show Sm (yA.map hd) by rw [HYA.out]; exact HMN.out).sizes.2 x hx; unfold maxLen; omega)).mono ?_
  rintro e w9 ⟨rfl, hb⟩
  have HB9 : Hid (Below w.heap.size w w9) := HB8.out.trans (hb.mono HB8.out.size)
  have HC9 : Hid (Below w2.heap.size w2 w9) := HC8.out.trans (hb.mono HC8.out.size)
  have HE9 : Hid (Below w5.heap.size w5 w9) := HE8.out.trans (hb.mono HE8.out.size)
  clear hb
  rw [HYA.out, check_norm]
  go_wp2_with fail
  refine (Names_any a0 _ c0 w.heap.size xs _ rfl HB9.out.size (HX0.out.below HB9.out) HM.out).mono ?_
  rintro e w10 ⟨v, rfl, hr, hb⟩
  have HB10 : Hid (Below w.heap.size w w10) := HB9.out.trans (hb.mono HB9.out.size)
  have HC10 : Hid (Below w2.heap.size w2 w10) := HC9.out.trans (hb.mono HC9.out.size)
  have HE10 : Hid (Below w5.heap.size w5 w10) := HE9.out.trans (hb.mono HE9.out.size)
  clear hb
  obtain ⟨N, nN, cN, rfl, hnN, hpN⟩ := trow_row hr
  have HNN := Lib.hid hnN
  have HPN := Lib.hid hpN
  clear hr hnN hpN
  have HF10 : Hid (Below w10.heap.size w10 w10) := Below.refl _ _
  go_wp2_with fail
  refine (Names_any A _ cA w2.heap.size yA _ HNA.out HC10.out.size (HPA.out.below HC10.out) (by rw [HYA.out]; exact HMN.out)).mono ?_
  rintro e w11 ⟨v, rfl, hr, hb⟩
  have HB11 : Hid (Below w.heap.size w w11) := HB10.out.trans (hb.mono HB10.out.size)
  have HC11 : Hid (Below w2.heap.size w2 w11) := HC10.out.trans (hb.mono HC10.out.size)
  have HE11 : Hid (Below w5.heap.size w5 w11) := HE10.out.trans (hb.mono HE10.out.size)
  have HF11 : Hid (Below w10.heap.size w10 w11) := HF10.out.trans (hb.mono HF10.out.size)
  clear hb
  rw [HYA.out, names_norm] at hr
  obtain ⟨M, nM, cM, rfl, hnM, hpM⟩ := trow_row hr
  have HNM := Lib.hid hnM
  have HPM := Lib.hid hpM
  clear hr hnM hpM
  have HG11 : Hid (Below w11.heap.size w11 w11) := Below.refl _ _
  go_wp2_with fail
  refine (Texts_same N M _ _ cN cM w10.heap.size w11.heap.size _ _ HNN.out HNM.out (by have h1 := names_len (xs.map hd); simp at h1 ⊢; unfold maxLen; omega) (HPN.out.below HF11.out) (HPM.out.below HG11.out)).mono ?_
  rintro e w12 ⟨rfl, n12, hwn⟩
  have hb : Below w11.heap.size w11 w12 := by rw [hwn]; exact below_drewN (Below.refl _ _) _
  have HB12 : Hid (Below w.heap.size w w12) := HB11.out.trans (hb.mono HB11.out.size)
  have HC12 : Hid (Below w2.heap.size w2 w12) := HC11.out.trans (hb.mono HC11.out.size)
  have HE12 : Hid (Below w5.heap.size w5 w12) := HE11.out.trans (hb.mono HE11.out.size)
  have HF12 : Hid (Below w10.heap.size w10 w12) := HF11.out.trans (hb.mono HF11.out.size)
  have HG12 : Hid (Below w11.heap.size w11 w12) := HG11.out.trans (hb.mono HG11.out.size)
  clear hb hwn
  go_wp2_with fail
  refine (awake6_any _).mono ?_
  rintro e w13 ⟨rfl, hb⟩
  have HB13 : Hid (Below w.heap.size w w13) := HB12.out.trans (hb.mono HB12.out.size)
  have HC13 : Hid (Below w2.heap.size w2 w13) := HC12.out.trans (hb.mono HC12.out.size)
  have HE13 : Hid (Below w5.heap.size w5 w13) := HE12.out.trans (hb.mono HE12.out.size)
  have HF13 : Hid (Below w10.heap.size w10 w13) := HF12.out.trans (hb.mono HF12.out.size)
  have HG13 : Hid (Below w11.heap.size w11 w13) := HG12.out.trans (hb.mono HG12.out.size)
  clear hb
  go_wp2
  go_ret
  exact ⟨rfl, HB13.out⟩
end Go.Proofs.Ytoiahjcnofhnlaa
