/-
  The walk of the law HeaderAll: whatever the input, it returns true, and nothing that was there has turned. Conditions: the arguments are such as any that come in.
-/
import Derived.Test.YtinpfkbplflecaaDRef3
import Derived.Test.YtinpfkbplflecaaDRef5
namespace Go.Proofs.Ytinpfkbplflecaa
open Go.RowKit

set_option maxRecDepth 100000 in
set_option maxHeartbeats 4000000 in
theorem walk_HeaderAll (a0 : Option Addr) (c0 : Nat) (xs : List (ByteArray × ByteArray)) (a1 : Option Addr) (c1 : Nat) (ys : List (ByteArray × ByteArray)) (name value : ByteArray) (w : World) (h0 : HArg w a0 c0 xs) (h1 : HArg w a1 c1 ys) (t0 : name.size ≤ maxLen) (t1 : value.size ≤ maxLen) :
    Calls Try.prog 3 #[.slice a0 xs.length c0, .slice a1 ys.length c1, .string name, .string value] w fun e w' => e = .returned (.bool true) ∧ Below w.heap.size w w' := by
  have HL0 : Hid (xs.length ≤ maxLen) := Nat.le_trans h0.2.2.1 h0.2.2.2.1
  have HN0 := Lib.hid h0.2.2.2.2
  have HX0 := Lib.hid h0.1
  have HS0 := Lib.hid h0.2.1
  clear h0
  have HL1 : Hid (ys.length ≤ maxLen) := Nat.le_trans h1.2.2.1 h1.2.2.2.1
  have HN1 := Lib.hid h1.2.2.2.2
  have HX1 := Lib.hid h1.1
  have HS1 := Lib.hid h1.2.1
  clear h1
  have HT0 := Lib.hid t0
  clear t0
  have HT1 := Lib.hid t1
  clear t1
  cases hg0 : greatB xs
  case true =>
    have HG0 := Lib.hid hg0
    clear hg0
    go_enter Try.func3, Try.ntmps3
    go_wp2_with fail
    refine (Great_any a0 _ c0 w.heap.size xs _ rfl HX0.out HL0.out HS0.out).mono ?_
    rintro e w' ⟨rfl, rfl⟩
    rw [show (decide (40 < xs.length) || greatGo 0 xs) = true from HG0.out]
    go_wp2_with fail
    refine (awake6_any _).mono ?_
    rintro e w1 ⟨rfl, hb⟩
    go_wp2
    go_ret
    exact ⟨rfl, hb⟩
  have HG0 := Lib.hid hg0
  have HD0 := Lib.hid (great_bd hg0)
  clear hg0
  cases hg1 : greatB ys
  case true =>
    have HG1 := Lib.hid hg1
    clear hg1
    go_enter Try.func3, Try.ntmps3
    go_wp2_with fail
    refine (Great_any a0 _ c0 w.heap.size xs _ rfl HX0.out HL0.out HS0.out).mono ?_
    rintro e w' ⟨rfl, rfl⟩
    rw [show (decide (40 < xs.length) || greatGo 0 xs) = false from HG0.out]
    go_wp2_with fail
    refine (Great_any a1 _ c1 w.heap.size ys _ rfl HX1.out HL1.out HS1.out).mono ?_
    rintro e w' ⟨rfl, rfl⟩
    rw [show (decide (40 < ys.length) || greatGo 0 ys) = true from HG1.out]
    go_wp2_with fail
    refine (awake6_any _).mono ?_
    rintro e w1 ⟨rfl, hb⟩
    go_wp2
    go_ret
    exact ⟨rfl, hb⟩
  have HG1 := Lib.hid hg1
  have HD1 := Lib.hid (great_bd hg1)
  clear hg1
  cases hz : Lk.longL 600 ([name, value].map ByteArray.size)
  case true =>
    have HZ := Lib.hid hz
    clear hz
    go_enter Try.func3, Try.ntmps3
    go_wp2_with fail
    refine (Great_any a0 _ c0 w.heap.size xs _ rfl HX0.out HL0.out HS0.out).mono ?_
    rintro e w' ⟨rfl, rfl⟩
    rw [show (decide (40 < xs.length) || greatGo 0 xs) = false from HG0.out]
    go_wp2_with fail
    refine (Great_any a1 _ c1 w.heap.size ys _ rfl HX1.out HL1.out HS1.out).mono ?_
    rintro e w' ⟨rfl, rfl⟩
    rw [show (decide (40 < ys.length) || greatGo 0 ys) = false from HG1.out]
    go_wp2_with fail
    refine (Long_any 600 _ 2 2 [name, value] _ (w.heap.size + 1) (by omega) (by omega) rfl (SRow.two_at _ _ _ _ _ rfl) (by unfold maxLen; simp) (by intro x hx; simp at hx; rcases hx with rfl | rfl <;> first | exact HT0.out | exact HT1.out)).mono ?_
    rintro e w1 ⟨rfl, hwn⟩
    have HB1 : Hid (Below w.heap.size w w1) := by show Below _ _ _; rw [← hwn]; exact (Below.refl _ _).alloc (Nat.le_refl _) _
    clear hwn
    rw [show Lk.longL (600 : Int).toNat ([name, value].map ByteArray.size) = true from HZ.out]
    go_wp2_with fail
    refine (awake6_any _).mono ?_
    rintro e w2 ⟨rfl, hb⟩
    go_wp2
    go_ret
    exact ⟨rfl, HB1.out.trans (hb.mono HB1.out.size)⟩
  have HZ := Lib.hid hz
  have hsz := Lk.long_no _ _ hz
  simp at hsz
  clear hz
  go_enter Try.func3, Try.ntmps3
  go_wp2_with fail
  refine (Great_any a0 _ c0 w.heap.size xs _ rfl HX0.out HL0.out HS0.out).mono ?_
  rintro e w' ⟨rfl, rfl⟩
  rw [show (decide (40 < xs.length) || greatGo 0 xs) = false from HG0.out]
  go_wp2_with fail
  refine (Great_any a1 _ c1 w.heap.size ys _ rfl HX1.out HL1.out HS1.out).mono ?_
  rintro e w' ⟨rfl, rfl⟩
  rw [show (decide (40 < ys.length) || greatGo 0 ys) = false from HG1.out]
  have HB0 : Hid (Below w.heap.size w w) := Below.refl _ _
  go_wp2_with fail
  refine (Long_any 600 _ 2 2 [name, value] _ (w.heap.size + 1) (by omega) (by omega) rfl (SRow.two_at _ _ _ _ _ rfl) (by unfold maxLen; simp) (by intro x hx; simp at hx; rcases hx with rfl | rfl <;> first | exact HT0.out | exact HT1.out)).mono ?_
  rintro e w1 ⟨rfl, hwn⟩
  have hb : Below w.heap.size w w1 := by rw [← hwn]; exact (Below.refl _ _).alloc (Nat.le_refl _) _
  have HB1 : Hid (Below w.heap.size w w1) := HB0.out.trans (hb.mono HB0.out.size)
  clear hb hwn
  rw [show Lk.longL (600 : Int).toNat ([name, value].map ByteArray.size) = false from HZ.out]
  have HM : Hid (Sm (xs.map hd)) := HD0.out.sm (by omega) (by omega) (by omega)
  have HM1 : Hid (Sm (ys.map hd)) := HD1.out.sm (by omega) (by omega) (by omega)
  have hl0 : xs.length ≤ 40 := by have := HD0.out.1; simpa using this
  obtain ⟨t, ht⟩ : ∃ t, t = mk (getH (xs.map hd) name.data.toList) := ⟨_, rfl⟩
  obtain ⟨b, hbq⟩ : ∃ b, b = gotH (xs.map hd) name.data.toList := ⟨_, rfl⟩
  obtain ⟨z, hzz⟩ : ∃ z, z = checkH (xs.map hd) := ⟨_, rfl⟩
  obtain ⟨sb, hsb⟩ : ∃ sb, sb = sameH (xs.map hd) (ys.map hd) := ⟨_, rfl⟩
  have HTT := Lib.hid ht
  have HBQ := Lib.hid hbq
  have HZZ := Lib.hid hzz
  have HSB := Lib.hid hsb
  clear ht hbq hzz hsb
  go_wp2_with fail
  refine (Get_any a0 _ c0 w.heap.size xs name _ rfl HB1.out.size (HX0.out.below HB1.out) HM.out (by unfold maxLen; omega)).mono ?_
  rintro e w2 ⟨rfl, hb⟩
  have HB2 : Hid (Below w.heap.size w w2) := HB1.out.trans (hb.mono HB1.out.size)
  clear hb
  rw [← HTT.out, ← HBQ.out]
  go_wp2_with fail
  refine (refGet_any a0 _ c0 w.heap.size xs name _ rfl HB2.out.size (HX0.out.below HB2.out) HM.out (by unfold maxLen; omega)).mono ?_
  rintro e w3 ⟨rfl, hb⟩
  have HB3 : Hid (Below w.heap.size w w3) := HB2.out.trans (hb.mono HB2.out.size)
  clear hb
  rw [← HTT.out, ← HBQ.out]
  go_wp2_with fail
  refine (Check6_any a0 _ c0 w.heap.size xs _ rfl HB3.out.size (HX0.out.below HB3.out) HL0.out HS0.out).mono ?_
  rintro e w4 ⟨rfl, hb⟩
  have HB4 : Hid (Below w.heap.size w w4) := HB3.out.trans (hb.mono HB3.out.size)
  clear hb
  rw [← HZZ.out]
  go_wp2_with fail
  refine (refCheck_any a0 _ c0 w.heap.size xs _ rfl (HX0.out.below HB4.out) HM.out).mono ?_
  rintro e w' ⟨rfl, rfl⟩
  rw [← HZZ.out]
  go_wp2_with fail
  refine (Norm_any a0 _ c0 w.heap.size xs _ rfl HB4.out.size (HX0.out.below HB4.out) (by omega) HS0.out).mono ?_
  rintro e w5 ⟨v, rfl, hr, hb⟩
  have HB5 : Hid (Below w.heap.size w w5) := HB4.out.trans (hb.mono HB4.out.size)
  clear hb
  obtain ⟨A, nA, cA, yA, rfl, hnA, hyA, hcA, hpA⟩ := hr.row
  have HNA := Lib.hid hnA
  have HYA : Hid (yA.map hd = normL (xs.map hd)) := hyA
  have HPA := Lib.hid hpA
  clear hr hnA hyA hpA
  have HC5 : Hid (Below w5.heap.size w5 w5) := Below.refl _ _
  go_wp2_with fail
  refine (refNorm_any a0 _ c0 w.heap.size xs _ rfl HB5.out.size (HX0.out.below HB5.out) HM.out).mono ?_
  rintro e w6 ⟨v, rfl, hr, hb⟩
  have HB6 : Hid (Below w.heap.size w w6) := HB5.out.trans (hb.mono HB5.out.size)
  have HC6 : Hid (Below w5.heap.size w5 w6) := HC5.out.trans (hb.mono HC5.out.size)
  clear hb
  obtain ⟨E, nE, cE, yE, rfl, hnE, hyE, hcE, hpE⟩ := hr.row
  have HNE := Lib.hid hnE
  have HYE : Hid (yE.map hd = normL (xs.map hd)) := hyE
  have HPE := Lib.hid hpE
  clear hr hnE hyE hpE
  have HE6 : Hid (Below w6.heap.size w6 w6) := Below.refl _ _
  have HQA : Hid (yA = yE) := row_alike (HYA.out.trans HYE.out.symm)
  have hq := HQA.out
  subst hq
  go_wp2_with fail
  refine (Headers_same A E _ _ cA cE w5.heap.size w6.heap.size yA _ HNA.out HNE.out (by have h := congrArg List.length HYA.out; simp [normL] at h; unfold maxLen; omega) (HPA.out.below HC6.out) (HPE.out.below HE6.out)).mono ?_
  rintro e w7 ⟨rfl, n7, hwn⟩
  have hb : Below w6.heap.size w6 w7 := by rw [hwn]; exact below_drewN (Below.refl _ _) _
  have HB7 : Hid (Below w.heap.size w w7) := HB6.out.trans (hb.mono HB6.out.size)
  have HC7 : Hid (Below w5.heap.size w5 w7) := HC6.out.trans (hb.mono HC6.out.size)
  have HE7 : Hid (Below w6.heap.size w6 w7) := HE6.out.trans (hb.mono HE6.out.size)
  clear hb hwn
  go_wp2_with fail
  refine (Same_any a0 a1 _ _ c0 c1 w.heap.size xs ys _ rfl rfl HB7.out.size (HX0.out.below HB7.out) (HX1.out.below HB7.out) HM.out HM1.out).mono ?_
  rintro e w8 ⟨rfl, hb⟩
  have HB8 : Hid (Below w.heap.size w w8) := HB7.out.trans (hb.mono HB7.out.size)
  have HC8 : Hid (Below w5.heap.size w5 w8) := HC7.out.trans (hb.mono HC7.out.size)
  have HE8 : Hid (Below w6.heap.size w6 w8) := HE7.out.trans (hb.mono HE7.out.size)
  clear hb
  rw [← HSB.out]
  go_wp2_with fail
  refine (refSame_any a0 a1 _ _ c0 c1 w.heap.size xs ys _ rfl rfl HB8.out.size (HX0.out.below HB8.out) (HX1.out.below HB8.out) HM.out HM1.out).mono ?_
  rintro e w9 ⟨rfl, hb⟩
  have HB9 : Hid (Below w.heap.size w w9) := HB8.out.trans (hb.mono HB8.out.size)
  have HC9 : Hid (Below w5.heap.size w5 w9) := HC8.out.trans (hb.mono HC8.out.size)
  have HE9 : Hid (Below w6.heap.size w6 w9) := HE8.out.trans (hb.mono HE8.out.size)
  clear hb
  rw [← HSB.out]
  go_wp2_with fail
  refine (Set_any a0 _ c0 w.heap.size xs name value _ rfl HB9.out.size (HX0.out.below HB9.out) HM.out (by unfold maxLen; omega)).mono ?_
  rintro e w10 ⟨v, rfl, hr, hb⟩
  have HB10 : Hid (Below w.heap.size w w10) := HB9.out.trans (hb.mono HB9.out.size)
  have HC10 : Hid (Below w5.heap.size w5 w10) := HC9.out.trans (hb.mono HC9.out.size)
  have HE10 : Hid (Below w6.heap.size w6 w10) := HE9.out.trans (hb.mono HE9.out.size)
  clear hb
  obtain ⟨P, nP, cP, yP, rfl, hnP, hyP, hcP, hpP⟩ := hr.row
  have HNP := Lib.hid hnP
  have HYP : Hid (yP.map hd = setH (xs.map hd) name.data.toList value.data.toList) := hyP
  have HPP := Lib.hid hpP
  clear hr hnP hyP hpP
  have HI10 : Hid (Below w10.heap.size w10 w10) := Below.refl _ _
  go_wp2_with fail
  refine (refSet_any a0 _ c0 w.heap.size xs name value _ rfl HB10.out.size (HX0.out.below HB10.out) HM.out (by unfold maxLen; omega)).mono ?_
  rintro e w11 ⟨v, rfl, hr, hb⟩
  have HB11 : Hid (Below w.heap.size w w11) := HB10.out.trans (hb.mono HB10.out.size)
  have HC11 : Hid (Below w5.heap.size w5 w11) := HC10.out.trans (hb.mono HC10.out.size)
  have HE11 : Hid (Below w6.heap.size w6 w11) := HE10.out.trans (hb.mono HE10.out.size)
  have HI11 : Hid (Below w10.heap.size w10 w11) := HI10.out.trans (hb.mono HI10.out.size)
  clear hb
  obtain ⟨Q, nQ, cQ, yQ, rfl, hnQ, hyQ, hcQ, hpQ⟩ := hr.row
  have HNQ := Lib.hid hnQ
  have HYQ : Hid (yQ.map hd = setH (xs.map hd) name.data.toList value.data.toList) := hyQ
  have HPQ := Lib.hid hpQ
  clear hr hnQ hyQ hpQ
  have HJ11 : Hid (Below w11.heap.size w11 w11) := Below.refl _ _
  have HQP : Hid (yP = yQ) := row_alike (HYP.out.trans HYQ.out.symm)
  have hq := HQP.out
  subst hq
  go_wp2_with fail
  refine (Headers_same P Q _ _ cP cQ w10.heap.size w11.heap.size yP _ HNP.out HNQ.out (by have h := congrArg List.length HYP.out; have h2 := set_len (xs.map hd) name.data.toList value.data.toList; simp at h h2; unfold maxLen; omega) (HPP.out.below HI11.out) (HPQ.out.below HJ11.out)).mono ?_
  rintro e w12 ⟨rfl, n12, hwn⟩
  have hb : Below w11.heap.size w11 w12 := by rw [hwn]; exact below_drewN (Below.refl _ _) _
  have HB12 : Hid (Below w.heap.size w w12) := HB11.out.trans (hb.mono HB11.out.size)
  have HC12 : Hid (Below w5.heap.size w5 w12) := HC11.out.trans (hb.mono HC11.out.size)
  have HE12 : Hid (Below w6.heap.size w6 w12) := HE11.out.trans (hb.mono HE11.out.size)
  have HI12 : Hid (Below w10.heap.size w10 w12) := HI11.out.trans (hb.mono HI11.out.size)
  have HJ12 : Hid (Below w11.heap.size w11 w12) := HJ11.out.trans (hb.mono HJ11.out.size)
  clear hb hwn
  go_wp2_with fail
  refine (Names_any a0 _ c0 w.heap.size xs _ rfl HB12.out.size (HX0.out.below HB12.out) HM.out).mono ?_
  rintro e w13 ⟨v, rfl, hr, hb⟩
  have HB13 : Hid (Below w.heap.size w w13) := HB12.out.trans (hb.mono HB12.out.size)
  have HC13 : Hid (Below w5.heap.size w5 w13) := HC12.out.trans (hb.mono HC12.out.size)
  have HE13 : Hid (Below w6.heap.size w6 w13) := HE12.out.trans (hb.mono HE12.out.size)
  have HI13 : Hid (Below w10.heap.size w10 w13) := HI12.out.trans (hb.mono HI12.out.size)
  have HJ13 : Hid (Below w11.heap.size w11 w13) := HJ12.out.trans (hb.mono HJ12.out.size)
  clear hb
  obtain ⟨N, nN, cN, rfl, hnN, hpN⟩ := trow_row hr
  have HNN := Lib.hid hnN
  have HPN := Lib.hid hpN
  clear hr hnN hpN
  have HF13 : Hid (Below w13.heap.size w13 w13) := Below.refl _ _
  go_wp2_with fail
  refine (refNames_any a0 _ c0 w.heap.size xs _ rfl HB13.out.size (HX0.out.below HB13.out) HM.out).mono ?_
  rintro e w14 ⟨v, rfl, hr, hb⟩
  have HB14 : Hid (Below w.heap.size w w14) := HB13.out.trans (hb.mono HB13.out.size)
  have HC14 : Hid (Below w5.heap.size w5 w14) := HC13.out.trans (hb.mono HC13.out.size)
  have HE14 : Hid (Below w6.heap.size w6 w14) := HE13.out.trans (hb.mono HE13.out.size)
  have HI14 : Hid (Below w10.heap.size w10 w14) := HI13.out.trans (hb.mono HI13.out.size)
  have HJ14 : Hid (Below w11.heap.size w11 w14) := HJ13.out.trans (hb.mono HJ13.out.size)
  have HF14 : Hid (Below w13.heap.size w13 w14) := HF13.out.trans (hb.mono HF13.out.size)
  clear hb
  obtain ⟨M, nM, cM, rfl, hnM, hpM⟩ := trow_row hr
  have HNM := Lib.hid hnM
  have HPM := Lib.hid hpM
  clear hr hnM hpM
  have HG14 : Hid (Below w14.heap.size w14 w14) := Below.refl _ _
  go_wp2_with fail
  refine (Texts_same N M _ _ cN cM w13.heap.size w14.heap.size _ _ HNN.out HNM.out (by have h1 := names_len (xs.map hd); simp at h1 ⊢; unfold maxLen; omega) (HPN.out.below HF14.out) (HPM.out.below HG14.out)).mono ?_
  rintro e w15 ⟨rfl, n15, hwn⟩
  have hb : Below w14.heap.size w14 w15 := by rw [hwn]; exact below_drewN (Below.refl _ _) _
  have HB15 : Hid (Below w.heap.size w w15) := HB14.out.trans (hb.mono HB14.out.size)
  have HC15 : Hid (Below w5.heap.size w5 w15) := HC14.out.trans (hb.mono HC14.out.size)
  have HE15 : Hid (Below w6.heap.size w6 w15) := HE14.out.trans (hb.mono HE14.out.size)
  have HI15 : Hid (Below w10.heap.size w10 w15) := HI14.out.trans (hb.mono HI14.out.size)
  have HJ15 : Hid (Below w11.heap.size w11 w15) := HJ14.out.trans (hb.mono HJ14.out.size)
  have HF15 : Hid (Below w13.heap.size w13 w15) := HF14.out.trans (hb.mono HF14.out.size)
  have HG15 : Hid (Below w14.heap.size w14 w15) := HG14.out.trans (hb.mono HG14.out.size)
  clear hb hwn
  go_wp2_with fail
  refine (awake6_any _).mono ?_
  rintro e w16 ⟨rfl, hb⟩
  have HB16 : Hid (Below w.heap.size w w16) := HB15.out.trans (hb.mono HB15.out.size)
  have HC16 : Hid (Below w5.heap.size w5 w16) := HC15.out.trans (hb.mono HC15.out.size)
  have HE16 : Hid (Below w6.heap.size w6 w16) := HE15.out.trans (hb.mono HE15.out.size)
  have HI16 : Hid (Below w10.heap.size w10 w16) := HI15.out.trans (hb.mono HI15.out.size)
  have HJ16 : Hid (Below w11.heap.size w11 w16) := HJ15.out.trans (hb.mono HJ15.out.size)
  have HF16 : Hid (Below w13.heap.size w13 w16) := HF15.out.trans (hb.mono HF15.out.size)
  have HG16 : Hid (Below w14.heap.size w14 w16) := HG15.out.trans (hb.mono HG15.out.size)
  clear hb
  go_wp2
  go_ret
  exact ⟨rfl, HB16.out⟩
end Go.Proofs.Ytinpfkbplflecaa
