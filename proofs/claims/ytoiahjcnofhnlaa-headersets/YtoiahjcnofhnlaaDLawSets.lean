/-
  The walk of the law HeaderSets: whatever the input, it returns true, and nothing that was there has turned. Conditions: the arguments are such as any that come in.
-/
import Derived.Test.YtoiahjcnofhnlaaDWords
namespace Go.Proofs.Ytoiahjcnofhnlaa
open Go.RowKit

theorem set_get_other (l : List Hd) (n v o : List UInt8) (ho : Lk.foldL n o = false) : getH (setH l n v) o = getH l o := by unfold getH; rw [set_other l n v o ho]
theorem set_got_other (l : List Hd) (n v o : List UInt8) (ho : Lk.foldL n o = false) : gotH (setH l n v) o = gotH l o := by rw [got_vals, got_vals, set_other l n v o ho]

set_option maxRecDepth 100000 in
set_option maxHeartbeats 4000000 in
theorem walk_HeaderSets (a0 : Option Addr) (c0 : Nat) (xs : List (ByteArray × ByteArray)) (name value other : ByteArray) (w : World) (h0 : HArg w a0 c0 xs) (t0 : name.size ≤ maxLen) (t1 : value.size ≤ maxLen) (t2 : other.size ≤ maxLen) :
    Calls Try.prog 4 #[.slice a0 xs.length c0, .string name, .string value, .string other] w fun e w' => e = .returned (.bool true) ∧ Below w.heap.size w w' := by
  have HL0 : Hid (xs.length ≤ maxLen) := Nat.le_trans h0.2.2.1 h0.2.2.2.1
  have HN0 := Lib.hid h0.2.2.2.2
  have HX0 := Lib.hid h0.1
  have HS0 := Lib.hid h0.2.1
  clear h0
  have HT0 := Lib.hid t0
  clear t0
  have HT1 := Lib.hid t1
  clear t1
  have HT2 := Lib.hid t2
  clear t2
  cases hg0 : greatB xs
  case true =>
    have HG0 := Lib.hid hg0
    clear hg0
    go_enter Try.func4, Try.ntmps4
    go_wp2_with fail
    refine (Great_any a0 _ c0 w.heap.size xs _ rfl HX0.out HL0.out HS0.out).mono ?_
    rintro e w' ⟨rfl, rfl⟩
    rw [show (decide (40 < xs.length) || greatGo 0 xs) = true from HG0.out]
    go_wp2_with fail
    refine (awake6_any _).mono ?_
    rintro e w1 ⟨rfl, hb⟩
    go_wp2
    go_ret
    exact ⟨rfl, hb⟩
  have HG0 := Lib.hid hg0
  have HD0 := Lib.hid (great_bd hg0)
  clear hg0
  cases hz : Lk.longL 600 ([name, value, other].map ByteArray.size)
  case true =>
    have HZ := Lib.hid hz
    clear hz
    go_enter Try.func4, Try.ntmps4
    go_wp2_with fail
    refine (Great_any a0 _ c0 w.heap.size xs _ rfl HX0.out HL0.out HS0.out).mono ?_
    rintro e w' ⟨rfl, rfl⟩
    rw [show (decide (40 < xs.length) || greatGo 0 xs) = false from HG0.out]
    go_wp2_with fail
    refine (Long_any 600 _ 3 3 [name, value, other] _ (w.heap.size + 1) (by omega) (by omega) rfl (SRow.three_at _ _ _ _ _ _ rfl) (by unfold maxLen; simp) (by intro x hx; simp at hx; rcases hx with rfl | rfl | rfl <;> first | exact HT0.out | exact HT1.out | exact HT2.out)).mono ?_
    rintro e w1 ⟨rfl, hwn⟩
    have HB1 : Hid (Below w.heap.size w w1) := by show Below _ _ _; rw [← hwn]; exact (Below.refl _ _).alloc (Nat.le_refl _) _
    clear hwn
    rw [show Lk.longL (600 : Int).toNat ([name, value, other].map ByteArray.size) = true from HZ.out]
    go_wp2_with fail
    refine (awake6_any _).mono ?_
    rintro e w2 ⟨rfl, hb⟩
    go_wp2
    go_ret
    exact ⟨rfl, HB1.out.trans (hb.mono HB1.out.size)⟩
  have HZ := Lib.hid hz
  have hsz := Lk.long_no _ _ hz
  simp at hsz
  clear hz
  go_enter Try.func4, Try.ntmps4
  go_wp2_with fail
  refine (Great_any a0 _ c0 w.heap.size xs _ rfl HX0.out HL0.out HS0.out).mono ?_
  rintro e w' ⟨rfl, rfl⟩
  rw [show (decide (40 < xs.length) || greatGo 0 xs) = false from HG0.out]
  have HB0 : Hid (Below w.heap.size w w) := Below.refl _ _
  go_wp2_with fail
  refine (Long_any 600 _ 3 3 [name, value, other] _ (w.heap.size + 1) (by omega) (by omega) rfl (SRow.three_at _ _ _ _ _ _ rfl) (by unfold maxLen; simp) (by intro x hx; simp at hx; rcases hx with rfl | rfl | rfl <;> first | exact HT0.out | exact HT1.out | exact HT2.out)).mono ?_
  rintro e w1 ⟨rfl, hwn⟩
  have hb : Below w.heap.size w w1 := by rw [← hwn]; exact (Below.refl _ _).alloc (Nat.le_refl _) _
  have HB1 : Hid (Below w.heap.size w w1) := HB0.out.trans (hb.mono HB0.out.size)
  clear hb hwn
  rw [show Lk.longL (600 : Int).toNat ([name, value, other].map ByteArray.size) = false from HZ.out]
  have HM : Hid (Sm (xs.map hd)) := HD0.out.sm (by omega) (by omega) (by omega)
  have HMN : Hid (Sm (setH (xs.map hd) name.data.toList value.data.toList)) := (HD0.out.set (a' := 600) (b' := 5000) (by omega) (by omega) (by simp; omega) (by simp; omega)).sm (by omega) (by omega) (by omega)
  have hl0 := HM.out.sizes.1
  go_wp2_with fail
  refine (Set_any a0 _ c0 w.heap.size xs name value _ rfl HB1.out.size (HX0.out.below HB1.out) HM.out (by unfold maxLen; omega)).mono ?_
  rintro e w2 ⟨v, rfl, hr, hb⟩
  have HB2 : Hid (Below w.heap.size w w2) := HB1.out.trans (hb.mono HB1.out.size)
  clear hb
  obtain ⟨A, nA, cA, yA, rfl, hnA, hyA, hcA, hpA⟩ := hr.row
  have HNA := Lib.hid hnA
  have HYA : Hid (yA.map hd = setH (xs.map hd) name.data.toList value.data.toList) := hyA
  have HPA := Lib.hid hpA
  clear hr hnA hyA hpA
  have HC2 : Hid (Below w2.heap.size w2 w2) := Below.refl _ _
  obtain ⟨t, ht⟩ : ∃ t, t = mk (Lk.trimL value.data.toList) := ⟨_, rfl⟩
  have HTT := Lib.hid ht
  clear ht
  go_wp2_with fail
  refine (Get_any A _ cA w2.heap.size yA name _ HNA.out HC2.out.size (HPA.out.below HC2.out) (by rw [HYA.out]; exact HMN.out) (by unfold maxLen; omega)).mono ?_
  rintro e w3 ⟨rfl, hb⟩
  have HB3 : Hid (Below w.heap.size w w3) := HB2.out.trans (hb.mono HB2.out.size)
  have HC3 : Hid (Below w2.heap.size w2 w3) := HC2.out.trans (hb.mono HC2.out.size)
  clear hb
  rw [HYA.out, set_get, set_got, ← HTT.out]
  go_wp2_with fail
  refine (Trim_as value t _ (by unfold maxLen; omega) HTT.out).mono ?_
  rintro e w' ⟨rfl, rfl⟩
  go_wp2_with fail
  refine (Set_any A _ cA w2.heap.size yA name value _ HNA.out HC3.out.size (HPA.out.below HC3.out) (by rw [HYA.out]; exact HMN.out) (by unfold maxLen; omega)).mono ?_
  rintro e w4 ⟨v, rfl, hr, hb⟩
  have HB4 : Hid (Below w.heap.size w w4) := HB3.out.trans (hb.mono HB3.out.size)
  have HC4 : Hid (Below w2.heap.size w2 w4) := HC3.out.trans (hb.mono HC3.out.size)
  clear hb
  rw [HYA.out, set_set] at hr
  obtain ⟨E, nE, cE, yE, rfl, hnE, hyE, hcE, hpE⟩ := hr.row
  have HNE := Lib.hid hnE
  have HYE : Hid (yE.map hd = setH (xs.map hd) name.data.toList value.data.toList) := hyE
  have HPE := Lib.hid hpE
  clear hr hnE hyE hpE
  have HE4 : Hid (Below w4.heap.size w4 w4) := Below.refl _ _
  have HQ : Hid (yA = yE) := row_alike (HYA.out.trans HYE.out.symm)
  have hq := HQ.out
  subst hq
  go_wp2_with fail
  refine (Headers_same E A _ _ cE cA w4.heap.size w2.heap.size yA _ HNE.out HNA.out (by have := HMN.out.1; rw [← HYA.out] at this; simp at this; unfold maxLen; omega) (HPE.out.below HE4.out) (HPA.out.below HC4.out)).mono ?_
  rintro e w5 ⟨rfl, n5, hwn⟩
  have hb : Below w4.heap.size w4 w5 := by rw [hwn]; exact below_drewN (Below.refl _ _) _
  have HB5 : Hid (Below w.heap.size w w5) := HB4.out.trans (hb.mono HB4.out.size)
  have HC5 : Hid (Below w2.heap.size w2 w5) := HC4.out.trans (hb.mono HC4.out.size)
  have HE5 : Hid (Below w4.heap.size w4 w5) := HE4.out.trans (hb.mono HE4.out.size)
  clear hb hwn
  go_wp2_with fail
  refine (Fold_any name other _ (by unfold maxLen; omega) (by unfold maxLen; omega)).mono ?_
  rintro e w6 ⟨rfl, n6, hwn⟩
  have hb : Below w5.heap.size w5 w6 := by rw [hwn]; exact below_drewN (Below.refl _ _) _
  have HB6 : Hid (Below w.heap.size w w6) := HB5.out.trans (hb.mono HB5.out.size)
  have HC6 : Hid (Below w2.heap.size w2 w6) := HC5.out.trans (hb.mono HC5.out.size)
  have HE6 : Hid (Below w4.heap.size w4 w6) := HE5.out.trans (hb.mono HE5.out.size)
  clear hb hwn
  cases hf : Lk.foldL name.data.toList other.data.toList
  case true =>
    have HF := Lib.hid hf
    clear hf
    go_wp2_with fail
    refine (awake6_any _).mono ?_
    rintro e w7 ⟨rfl, hb⟩
    have HB7 : Hid (Below w.heap.size w w7) := HB6.out.trans (hb.mono HB6.out.size)
    have HC7 : Hid (Below w2.heap.size w2 w7) := HC6.out.trans (hb.mono HC6.out.size)
    have HE7 : Hid (Below w4.heap.size w4 w7) := HE6.out.trans (hb.mono HE6.out.size)
    clear hb
    go_wp2
    go_ret
    exact ⟨rfl, HB7.out⟩
  have HF := Lib.hid hf
  clear hf
  obtain ⟨u, hu⟩ : ∃ u, u = mk (getH (xs.map hd) other.data.toList) := ⟨_, rfl⟩
  obtain ⟨b, hbq⟩ : ∃ b, b = gotH (xs.map hd) other.data.toList := ⟨_, rfl⟩
  have HUU := Lib.hid hu
  have HBQ := Lib.hid hbq
  clear hu hbq
  go_wp2_with fail
  refine (Get_any a0 _ c0 w.heap.size xs other _ rfl HB6.out.size (HX0.out.below HB6.out) HM.out (by unfold maxLen; omega)).mono ?_
  rintro e w7 ⟨rfl, hb⟩
  have HB7 : Hid (Below w.heap.size w w7) := HB6.out.trans (hb.mono HB6.out.size)
  have HC7 : Hid (Below w2.heap.size w2 w7) := HC6.out.trans (hb.mono HC6.out.size)
  have HE7 : Hid (Below w4.heap.size w4 w7) := HE6.out.trans (hb.mono HE6.out.size)
  clear hb
  rw [← HUU.out, ← HBQ.out]
  go_wp2_with fail
  refine (Get_any A _ cA w2.heap.size yA other _ HNA.out HC7.out.size (HPA.out.below HC7.out) (by rw [HYA.out]; exact HMN.out) (by unfold maxLen; omega)).mono ?_
  rintro e w8 ⟨rfl, hb⟩
  have HB8 : Hid (Below w.heap.size w w8) := HB7.out.trans (hb.mono HB7.out.size)
  have HC8 : Hid (Below w2.heap.size w2 w8) := HC7.out.trans (hb.mono HC7.out.size)
  have HE8 : Hid (Below w4.heap.size w4 w8) := HE7.out.trans (hb.mono HE7.out.size)
  clear hb
  rw [HYA.out, set_get_other _ _ _ _ HF.out, set_got_other _ _ _ _ HF.out, ← HUU.out, ← HBQ.out]
  go_wp2_with fail
  refine (awake6_any _).mono ?_
  rintro e w9 ⟨rfl, hb⟩
  have HB9 : Hid (Below w.heap.size w w9) := HB8.out.trans (hb.mono HB8.out.size)
  have HC9 : Hid (Below w2.heap.size w2 w9) := HC8.out.trans (hb.mono HC8.out.size)
  have HE9 : Hid (Below w4.heap.size w4 w9) := HE8.out.trans (hb.mono HE8.out.size)
  clear hb
  go_wp2
  go_ret
  exact ⟨rfl, HB9.out⟩
end Go.Proofs.Ytoiahjcnofhnlaa
