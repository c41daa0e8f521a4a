/-
  Contracts of the document's own Header and Names of layer 7, over this seat's program, by the same plain mathematics as safe's. Conditions: for Names at most a thousand headers, each text of at most 100,000 bytes.
-/
import Derived.Test.YtinpfkbplflecaaVRef2
import Derived.Test.YtinpfkbplflecaaDRef4
namespace Go.Proofs.Ytinpfkbplflecaa
open Go.RowKit

/-- two cells side by side -/
def PairAt (W : World) (p q : Addr) (x1 x2 : ByteArray) : Prop := W.cell? p = some (.string x1) ∧ W.cell? q = some (.string x2)

set_option maxHeartbeats 2000000 in
theorem refHeader_any (x1 x2 : ByteArray) (w : World) (h1 : x1.size ≤ maxLen) (h2 : x2.size ≤ maxLen) :
    Calls Try.prog 35 #[.agg #[.string x1, .string x2]] w fun e w' => e = .returned (.bool (safeH (hd (x1, x2)))) ∧ Below w.heap.size w w' := by
  obtain ⟨t, ht⟩ : ∃ t : ByteArray, t = ⟨(Lk.trimL x2.data.toList).toArray⟩ := ⟨_, rfl⟩
  obtain ⟨a, ha⟩ : ∃ a : ByteArray, a = ⟨(Lk.lower x1.data.toList).toArray⟩ := ⟨_, rfl⟩
  have htz : t.size = (Lk.trimL x2.data.toList).length := by rw [ht]; show (Lk.trimL x2.data.toList).toArray.size = _; simp
  have htm : t.size ≤ maxLen := by have := Lk.trim_len x2.data.toList; simp at this; omega
  have HTD : Hid (Lk.trimL x2.data.toList = t.data.toList) := by show _ = _; rw [ht]
  have HAD : Hid (Lk.lower x1.data.toList = a.data.toList) := by show _ = _; rw [ha]
  have HT := Lib.hid ht
  have HA := Lib.hid ha
  clear ha
  by_cases h128 : 128 < t.size
  · have HE : Hid (safeH (hd (x1, x2)) = false) := safe_long (h := hd (x1, x2)) (by show 128 < (Lk.trimL x2.data.toList).length; omega)
    clear htz ht
    go_enter Try.func35, Try.ntmps35
    go_wp2_with fail
    refine (refTrim_any x2 _ h2).mono ?_
    rintro e w1 ⟨rfl, hw⟩
    rw [← HT.out]
    have HB : Hid (Below w.heap.size w w1) := by rw [← hw]; exact (Below.refl _ _).alloc (Nat.le_refl _) _
    clear hw
    go_wp2
    go_ret
    exact ⟨ret_bool HE.out.symm, HB.out⟩
  have HE : Hid (safeH (hd (x1, x2)) = kindOk a.data.toList t.data.toList) := by
    show _ = _
    rw [safe_short (h := hd (x1, x2)) (by show ¬ 128 < (Lk.trimL x2.data.toList).length; omega), ← HTD.out, ← HAD.out]; rfl
  clear htz ht
  have HK := Lib.hid (kind_eq a t.data.toList)
  unfold acceptT alangT clangT ctypeT rangeT at HK
  go_enter Try.func35, Try.ntmps35
  go_wp2_with fail
  refine (refTrim_any x2 _ h2).mono ?_
  rintro e w1 ⟨rfl, hw⟩
  rw [← HT.out]
  have c1 : w1.cell? ⟨w.heap.size, 0, none⟩ = some (.string x1) := by rw [← hw]; simp
  have HB : Hid (Below w.heap.size w w1) := by rw [← hw]; exact (Below.refl _ _).alloc (Nat.le_refl _) _
  clear hw
  go_wp2_with fail
  refine (refLower_any x1 _ h1).mono ?_
  rintro e w2 ⟨rfl, hb2⟩
  rw [← HA.out]
  have HB2 : Hid (Below w.heap.size w w2) := HB.out.trans (hb2.mono HB.out.size)
  clear hb2 c1
  cases q1 : a.toList == [97, 99, 99, 101, 112, 116]
  case true =>
    have Q1 := Lib.hid q1
    go_wp2_with fail
    refine (eachB_any t _ htm).mono ?_
    rintro e w' ⟨rfl, rfl⟩
    go_wp2
    go_ret
    exact ⟨ret_bool (by rw [HE.out, HK.out, Q1.out]; rfl), HB2.out⟩
  have Q1 := Lib.hid q1
  cases q2 : a.toList == [97, 99, 99, 101, 112, 116, 45, 108, 97, 110, 103, 117, 97, 103, 101]
  case true =>
    have Q2 := Lib.hid q2
    go_wp2_with fail
    refine (eachL_any t _ htm).mono ?_
    rintro e w' ⟨rfl, rfl⟩
    go_wp2
    go_ret
    exact ⟨ret_bool (by rw [HE.out, HK.out, Q1.out, Q2.out]; rfl), HB2.out⟩
  have Q2 := Lib.hid q2
  cases q3 : a.toList == [99, 111, 110, 116, 101, 110, 116, 45, 108, 97, 110, 103, 117, 97, 103, 101]
  case true =>
    have Q3 := Lib.hid q3
    go_wp2_with fail
    refine (eachL_any t _ htm).mono ?_
    rintro e w' ⟨rfl, rfl⟩
    go_wp2
    go_ret
    exact ⟨ret_bool (by rw [HE.out, HK.out, Q1.out, Q2.out, Q3.out]; rfl), HB2.out⟩
  have Q3 := Lib.hid q3
  cases q4 : a.toList == [99, 111, 110, 116, 101, 110, 116, 45, 116, 121, 112, 101]
  case true =>
    have Q4 := Lib.hid q4
    have HF := Lib.hid (form_cases t.data.toList)
    obtain ⟨y, hy⟩ : ∃ y : ByteArray, y = mk (essT t.data.toList) := ⟨_, rfl⟩
    rw [← hy] at HF
    have HEV : Hid (essV t.data.toList = .tuple #[.string y, .bool (essL t.data.toList).isSome]) := by show _ = _; rw [hy]; rfl
    clear hy
    unfold formT1 formT2 formT3 at HF
    go_wp2_with fail
    refine (refEssence_any t _ htm).mono ?_
    rintro e w3 ⟨rfl, hb3⟩
    rw [HEV.out]
    have HB3 : Hid (Below w.heap.size w w3) := HB2.out.trans (hb3.mono HB2.out.size)
    clear hb3
    go_wp2_with fail
    refine (eachB_any t _ htm).mono ?_
    rintro e w' ⟨rfl, rfl⟩
    cases hall : bytesOk t.data.toList
    · have HALL := Lib.hid hall
      go_wp2
      go_ret
      exact ⟨ret_bool (by rw [HE.out, HK.out, Q1.out, Q2.out, Q3.out, Q4.out, HALL.out]; rfl), HB3.out⟩
    have HALL := Lib.hid hall
    have HX : Hid (safeH (hd (x1, x2)) = formL t.data.toList) := by show _ = _; rw [HE.out, HK.out, Q1.out, Q2.out, Q3.out, Q4.out, HALL.out]; rfl
    cases f1 : y.toList == [97, 112, 112, 108, 105, 99, 97, 116, 105, 111, 110, 47, 120, 45, 119, 119, 119, 45, 102, 111, 114, 109, 45, 117, 114, 108, 101, 110, 99, 111, 100, 101, 100]
    case true =>
      have F1 := Lib.hid f1
      go_wp2
      go_ret
      exact ⟨ret_bool (by rw [HX.out, HF.out, F1.out]; rfl), HB3.out⟩
    have F1 := Lib.hid f1
    cases f2 : y.toList == [109, 117, 108, 116, 105, 112, 97, 114, 116, 47, 102, 111, 114, 109, 45, 100, 97, 116, 97]
    case true =>
      have F2 := Lib.hid f2
      go_wp2
      go_ret
      exact ⟨ret_bool (by rw [HX.out, HF.out, F1.out, F2.out]; rfl), HB3.out⟩
    have F2 := Lib.hid f2
    cases f3 : y.toList == [116, 101, 120, 116, 47, 112, 108, 97, 105, 110]
    · have F3 := Lib.hid f3
      go_wp2
      go_ret
      exact ⟨ret_bool (by rw [HX.out, HF.out, F1.out, F2.out, F3.out]; rfl), HB3.out⟩
    · have F3 := Lib.hid f3
      go_wp2
      go_ret
      exact ⟨ret_bool (by rw [HX.out, HF.out, F1.out, F2.out, F3.out]; rfl), HB3.out⟩
  have Q4 := Lib.hid q4
  cases q5 : a.toList == [114, 97, 110, 103, 101]
  case true =>
    have Q5 := Lib.hid q5
    go_wp2_with fail
    refine (refRange_any t _ htm).mono ?_
    rintro e w' ⟨rfl, rfl⟩
    go_wp2
    go_ret
    exact ⟨ret_bool (by rw [HE.out, HK.out, Q1.out, Q2.out, Q3.out, Q4.out, Q5.out]; rfl), HB2.out⟩
  have Q5 := Lib.hid q5
  go_wp2
  go_ret
  exact ⟨ret_bool (by rw [HE.out, HK.out, Q1.out, Q2.out, Q3.out, Q4.out, Q5.out]; rfl), HB2.out⟩

set_option maxRecDepth 100000 in
set_option maxHeartbeats 4000000 in
theorem refNames7_any (A : Option Addr) (len c B : Nat) (xs : List (ByteArray × ByteArray)) (w : World) (hlen : len = xs.length) (hB : B ≤ w.heap.size) (hx : PRow w B A xs) (hsm : Sm (xs.map hd)) :
    Calls Try.prog 37 #[.slice A len c] w fun e w' => ∃ v, e = .returned v ∧ sown w' w.heap.size v (safeNames (xs.map hd)) ∧ Below w.heap.size w w' := by
  subst hlen
  obtain ⟨hl, hs⟩ := hsm.sizes
  have HX := Lib.hid hx
  have HS := Lib.hid hs
  clear hx hs hsm
  go_enter Try.func37, Try.ntmps37
  go_wp2_with fail
  go_loopw [3, 4, 5, 6] (fun u v n i wr => ∃ (k : Nat) (dl : List Hd), k ≤ xs.length ∧ i = .int .i64 k ∧ n = .int .i64 (safeSum dl : Int) ∧ dl = (xs.take k).map hd ∧ Two wr w.heap.size v u (lowsL dl) (askedL dl) ∧ Below w.heap.size w wr) (fun _ _ _ i _ => xs.length - (intOf i).toNat)
  case atStart => exact ⟨0, [], Nat.zero_le _, rfl, rfl, rfl, Two.none_ _ _, Below.refl _ _⟩
  case round =>
    obtain ⟨k, dl, hk, rfl, rfl, hdl, hr, hb⟩ := hrel
    have hdk : dl.length = k := by rw [hdl]; simp; omega
    have hsk : safeSum dl ≤ 128 * k := by have := sum_bd dl; rw [hdk] at this; exact this
    have HLL : Hid ((lowsL dl).length = k) := by show _ = _; rw [lows_len, hdk]
    have HAL : Hid ((askedL dl).length ≤ k) := by show _ ≤ _; have := asked_len dl; omega
    have HDL := Lib.hid hdl
    have HRR := Lib.hid hr
    have HBB := Lib.hid hb
    clear hr hb hdl hdk
    by_cases hlt : k < xs.length
    · obtain ⟨ad, hA, _, hc1, hc2⟩ := ((HX.out.mono hB).below HBB.out) k xs[k] (List.getElem?_eq_getElem hlt)
      have hz := HS.out xs[k] (List.getElem_mem hlt)
      have HD := Lib.hid (take_hd (List.take_succ_eq_append_getElem hlt))
      have HXC : Hid (∀ W, Below w.heap.size w W → PairAt W (ad.add (k * 2)) ⟨(ad.add (k * 2)).block, (ad.add (k * 2)).off + 1, none⟩ xs[k].1 xs[k].2) := by
        intro W hW
        obtain ⟨ad', hA', _, h1, h2⟩ := ((HX.out.mono hB).below hW) k xs[k] (List.getElem?_eq_getElem hlt)
        rw [hA] at hA'
        obtain rfl : ad = ad' := by simpa using hA'
        exact ⟨h1, h2⟩
      generalize xs[k] = x at *
      obtain ⟨x1, x2⟩ := x
      subst hA
      obtain ⟨a, ha⟩ : ∃ a : ByteArray, a = ⟨(Lk.lower x1.data.toList).toArray⟩ := ⟨_, rfl⟩
      have HLA := Lib.hid ha
      have HAD : Hid (a.data.toList = Lk.lower (hd (x1, x2)).1) := by show _ = _; rw [ha]; rfl
      obtain ⟨t, ht⟩ : ∃ t : ByteArray, t = ⟨(Lk.trimL x2.data.toList).toArray⟩ := ⟨_, rfl⟩
      have HTA := Lib.hid ht
      have HTZ : Hid (t.size = (Lk.trimL (hd (x1, x2)).2).length) := by show _ = _; rw [ht]; show (Lk.trimL x2.data.toList).toArray.size = _; simp [hd]
      have htz : t.size ≤ 100000 := by
        have h1 := HTZ.out
        have h2 := Lk.trim_len x2.data.toList
        have h3 := hz.2
        simp [hd] at h1 h2 h3; omega
      clear ha ht
      go_wp2_with fail
      refine (refLower_any x1 _ (by unfold maxLen; omega)).mono ?_
      rintro e w3 ⟨rfl, hb3⟩
      rw [← HLA.out]
      have HR3 : Hid (Two w3 w.heap.size u4 u3 (lowsL dl) (askedL dl)) := HRR.out.below hb3
      have HB3 : Hid (Below w.heap.size w w3) := HBB.out.trans (hb3.mono HBB.out.size)
      clear hb3 hc1 hc2
      go_wp2_with (at_builtin; refine wpList_append_beside rfl (.tmp 20) (.tmp 22) rfl w.heap.size u4 u3 (lowsL dl) (askedL dl) rfl (HR3.out.below ((Below.refl _ _).alloc (Nat.le_refl _) _)) ⟨w3.heap.size, 0, none⟩ a rfl ?c1 ?c2 w (HB3.out.alloc HB3.out.size _) ?c3 ?_)
      case c1 => simp
      case c2 => have := HLL.out; omega
      case c3 => have := HB3.out.size; simp; omega
      intro v3 w4 hr4 hb4 _
      have HR4 := Lib.hid hr4
      have HB4 := Lib.hid hb4
      obtain ⟨e1, e2⟩ := HXC.out w4 hb4
      clear hr4 hb4
      go_wp2_with fail
      refine (refHeader_any x1 x2 _ (by unfold maxLen; omega) (by unfold maxLen; omega)).mono ?_
      rintro e w5 ⟨rfl, hb5⟩
      have HR5 : Hid (Two w5 w.heap.size v3 u3 (lowsL dl ++ [a.data.toList]) (askedL dl)) := HR4.out.below hb5
      have HB5 : Hid (Below w.heap.size w w5) := HB4.out.trans (hb5.mono HB4.out.size)
      clear hb5 e1 e2
      have HL6 : Hid (lowsL (dl ++ [hd (x1, x2)]) = lowsL dl ++ [a.data.toList]) := by show _ = _; rw [lows_append, lows_one, HAD.out]
      cases hsf : safeH (hd (x1, x2))
      · have HA6 : Hid (askedL (dl ++ [hd (x1, x2)]) = askedL dl ++ [a.data.toList]) := by show _ = _; rw [asked_append, asked_no hsf, HAD.out]
        have HS6 : Hid (safeSum (dl ++ [hd (x1, x2)]) = safeSum dl) := by show _ = _; rw [sum_append, sum_no hsf, Nat.add_zero]
        clear hsf
        go_wp2_with (at_builtin; refine wpList_append_beside rfl (.tmp 30) (.tmp 32) rfl w.heap.size u3 v3 (askedL dl) (lowsL dl ++ [a.data.toList]) rfl (HR5.out.symm.below ((Below.refl _ _).alloc (Nat.le_refl _) _)) ⟨w5.heap.size, 0, none⟩ a rfl ?d1 ?d2 w (HB5.out.alloc HB5.out.size _) ?d3 ?_)
        case d1 => simp
        case d2 => have := HAL.out; omega
        case d3 => have := HB5.out.size; simp; omega
        intro v6 w6 hr6 hb6 _
        have HR6 := Lib.hid hr6.symm
        have HB6 := Lib.hid hb6
        clear hr6 hb6
        go_wp2
        go_roundw
        case rel => exact ⟨k + 1, dl ++ [hd (x1, x2)], by omega, by go_num, by rw [HS6.out], by rw [HD.out, HDL.out], by rw [HL6.out, HA6.out]; exact HR6.out, HB6.out⟩
        case measure => simp [intOf]; omega
      · have HA6 : Hid (askedL (dl ++ [hd (x1, x2)]) = askedL dl) := by show _ = _; rw [asked_append, asked_yes hsf, List.append_nil]
        have HS6 : Hid (safeSum (dl ++ [hd (x1, x2)]) = safeSum dl + t.size) := by show _ = _; rw [sum_append, sum_yes hsf, HTZ.out]
        clear hsf
        obtain ⟨e1, e2⟩ := HXC.out w5 HB5.out
        go_wp2_with fail
        refine (refTrim_any x2 _ (by unfold maxLen; omega)).mono ?_
        rintro e w' ⟨rfl, rfl⟩
        rw [← HTA.out]
        go_wp2
        go_roundw
        case rel => exact ⟨k + 1, dl ++ [hd (x1, x2)], by omega, by go_num, by rw [HS6.out]; go_num, by rw [HD.out, HDL.out], by rw [HL6.out, HA6.out]; exact HR5.out, HB5.out⟩
        case measure => simp [intOf]; omega
    · obtain rfl : k = xs.length := by omega
      have HE : Hid (dl = xs.map hd) := by show _ = _; rw [HDL.out, List.take_length]
      have hde := HE.out
      subst hde
      obtain ⟨sm, hsm⟩ : ∃ sm, sm = safeSum (xs.map hd) := ⟨_, rfl⟩
      rw [← hsm] at hsk ⊢
      have HSM := Lib.hid hsm
      clear hsm
      by_cases hsum : 1024 < sm
      · have hsum2 : (1024 : Int) < (sm : Int) := by omega
        have HNM : Hid (risL (lowsL (xs.map hd)) = safeNames (xs.map hd)) := by show _ = _; rw [safe_many (by rw [← HSM.out]; exact hsum)]; rfl
        have h4 := HRR.out.1
        obtain ⟨A2, c2, e2, hc2, hsr⟩ := trow_of h4
        have HSR := Lib.hid hsr
        clear hsr h4
        subst e2
        go_wp2_with fail
        refine (refRising_any A2 _ c2 wr.heap.size ((lowsL (xs.map hd)).map mk) _ (by simp) (Nat.le_refl _) HSR.out (by have h1 := HLL.out; have h2 := HAL.out; simp at h1 h2 ⊢; omega)).mono ?_
        rintro e w2 ⟨v, rfl, hr2, hb2⟩
        rw [dat_mk, HNM.out] at hr2
        have HR2 : Hid (sown w2 w.heap.size v (safeNames (xs.map hd))) := ownsRow_base hr2 HBB.out.size
        have HB2 : Hid (Below w.heap.size w w2) := HBB.out.trans (hb2.mono HBB.out.size)
        clear hr2 hb2
        go_wp2
        go_ret
        exact ⟨_, rfl, HR2.out, HB2.out⟩
      · have hsum2 : ¬ (1024 : Int) < (sm : Int) := by omega
        have HNM : Hid (risL (askedL (xs.map hd)) = safeNames (xs.map hd)) := by show _ = _; rw [safe_few (by rw [← HSM.out]; exact hsum)]
        have h4 := HRR.out.2.1
        obtain ⟨A2, c2, e2, hc2, hsr⟩ := trow_of h4
        have HSR := Lib.hid hsr
        clear hsr h4
        subst e2
        go_wp2_with fail
        refine (refRising_any A2 _ c2 wr.heap.size ((askedL (xs.map hd)).map mk) _ (by simp) (Nat.le_refl _) HSR.out (by have h1 := HLL.out; have h2 := HAL.out; simp at h1 h2 ⊢; omega)).mono ?_
        rintro e w2 ⟨v, rfl, hr2, hb2⟩
        rw [dat_mk, HNM.out] at hr2
        have HR2 : Hid (sown w2 w.heap.size v (safeNames (xs.map hd))) := ownsRow_base hr2 HBB.out.size
        have HB2 : Hid (Below w.heap.size w w2) := HBB.out.trans (hb2.mono HBB.out.size)
        clear hr2 hb2
        go_wp2
        go_ret
        exact ⟨_, rfl, HR2.out, HB2.out⟩
end Go.Proofs.Ytinpfkbplflecaa
