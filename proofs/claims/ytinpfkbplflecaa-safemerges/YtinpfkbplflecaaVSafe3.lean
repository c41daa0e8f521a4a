/-
  The contract of safe's Names, and what the chapter tells by example, over this seat's program. Conditions: at most a thousand headers, each text of at most 100,000 bytes.
-/
import Derived.Test.YtinpfkbplflecaaVSafe2
import Derived.Test.YtinpfkbplflecaaVRows
namespace Go.Proofs.Ytinpfkbplflecaa
open Go.RowKit

set_option maxRecDepth 100000 in
set_option maxHeartbeats 4000000 in
theorem Names7_any (A : Option Addr) (len c B : Nat) (xs : List (ByteArray × ByteArray)) (w : World) (hlen : len = xs.length) (hB : B ≤ w.heap.size) (hx : PRow w B A xs) (hsm : Sm (xs.map hd)) :
    Calls Try.prog 36 #[.slice A len c] w fun e w' => ∃ v, e = .returned v ∧ sown w' w.heap.size v (safeNames (xs.map hd)) ∧ Below w.heap.size w w' := by
  subst hlen
  obtain ⟨hl, hs⟩ := hsm.sizes
  have HX := Lib.hid hx
  have HS := Lib.hid hs
  clear hx hs hsm
  go_enter Try.func36, Try.ntmps36
  go_wp2_with fail
  go_loopw [3, 4, 5, 11] (fun v u n i wr => ∃ (k : Nat) (dl : List Hd), k ≤ xs.length ∧ i = .int .i64 k ∧ n = .int .i64 (safeSum dl : Int) ∧ dl = (xs.take k).map hd ∧ Two wr w.heap.size v u (lowsL dl) (askedL dl) ∧ Below w.heap.size w wr) (fun _ _ _ i _ => xs.length - (intOf i).toNat)
  case atStart => exact ⟨0, [], Nat.zero_le _, rfl, rfl, rfl, Two.none_ _ _, Below.refl _ _⟩
  case round =>
    obtain ⟨k, dl, hk, rfl, rfl, hdl, hr, hb⟩ := hrel
    have hdk : dl.length = k := by rw [hdl]; simp; omega
    have hsk : safeSum dl ≤ 128 * k := by have := sum_bd dl; rw [hdk] at this; exact this
    have HLL : Hid ((lowsL dl).length = k) := by show _ = _; rw [lows_len, hdk]
    have HAL : Hid ((askedL dl).length ≤ k) := by show _ ≤ _; have := asked_len dl; omega
    have HDL := Lib.hid hdl
    have HRR := Lib.hid hr
    have HBB := Lib.hid hb
    clear hr hb hdl hdk
    by_cases hlt : k < xs.length
    · obtain ⟨ad, hA, _, hc1, hc2⟩ := ((HX.out.mono hB).below HBB.out) k xs[k] (List.getElem?_eq_getElem hlt)
      have hz := HS.out xs[k] (List.getElem_mem hlt)
      have HD := Lib.hid (take_hd (List.take_succ_eq_append_getElem hlt))
      generalize xs[k] = x at *
      obtain ⟨x1, x2⟩ := x
      subst hA
      obtain ⟨a, ha⟩ : ∃ a : ByteArray, a = ⟨(Lk.lower x1.data.toList).toArray⟩ := ⟨_, rfl⟩
      have HLA := Lib.hid ha
      have HAD : Hid (a.data.toList = Lk.lower (hd (x1, x2)).1) := by show _ = _; rw [ha]; rfl
      obtain ⟨t, ht⟩ : ∃ t : ByteArray, t = ⟨(Lk.trimL x2.data.toList).toArray⟩ := ⟨_, rfl⟩
      have HTA := Lib.hid ht
      have HTZ : Hid (t.size = (Lk.trimL (hd (x1, x2)).2).length) := by show _ = _; rw [ht]; show (Lk.trimL x2.data.toList).toArray.size = _; simp [hd]
      have htz : t.size ≤ 100000 := by
        have h1 := HTZ.out
        have h2 := Lk.trim_len x2.data.toList
        have h3 := hz.2
        simp [hd] at h1 h2 h3; omega
      clear ha ht
      go_wp2_with fail
      refine (Lower_any x1 _ (by unfold maxLen; omega)).mono ?_
      rintro e w3 ⟨rfl, hb3⟩
      rw [← HLA.out]
      have hb4 : Below wr.heap.size wr w3 := ((Below.refl _ _).alloc (Nat.le_refl _) _).trans (hb3.mono (by simp))
      have hh0 : HdAt (wr.alloc (Obj.cells #[.string x1, .string x2] 41)) wr.heap.size x1 x2 := HdAt.new wr x1 x2 _
      have HH3 : Hid (HdAt w3 wr.heap.size x1 x2) := hh0.below hb3 hh0.lt
      have HR3 : Hid (Two w3 w.heap.size u3 u4 (lowsL dl) (askedL dl)) := HRR.out.below hb4
      have HB3 : Hid (Below w.heap.size w w3) := HBB.out.trans (hb4.mono HBB.out.size)
      have HGE : Hid (w.heap.size ≤ wr.heap.size) := HBB.out.size
      clear hb3 hb4 hc1 hc2 hh0
      go_wp2_with (at_builtin; refine wpList_append_beside rfl (.tmp 18) (.tmp 20) rfl w.heap.size u3 u4 (lowsL dl) (askedL dl) rfl (HR3.out.below ((Below.refl _ _).alloc (Nat.le_refl _) _)) ⟨w3.heap.size, 0, none⟩ a rfl ?c1 ?c2 w (HB3.out.alloc HB3.out.size _) ?c3 ?_)
      case c1 => simp
      case c2 => have := HLL.out; omega
      case c3 => have := HB3.out.size; simp; omega
      intro v3 w4 hr4 hb4 hg4
      have HR4 := Lib.hid hr4
      have HB4 := Lib.hid hb4
      have hh3' : HdAt (w3.alloc (Obj.cells #[.string a] 9)) wr.heap.size x1 x2 := HH3.out.below ((Below.refl _ _).alloc (Nat.le_refl _) _) HH3.out.lt
      have hh4 : HdAt w4 wr.heap.size x1 x2 := hh3'.grown hg4 (HRR.out.new (Nat.le_refl _))
      have HH4 := Lib.hid hh4
      have HNV : Hid (Apart v3 u4) := hr4.2.2
      clear hr4 hb4 hg4 hh3'
      obtain ⟨e1, e2⟩ := hh4
      go_wp2_with fail
      refine (Header_any x1 x2 _ (by unfold maxLen; omega) (by unfold maxLen; omega)).mono ?_
      rintro e w5 ⟨rfl, hb5⟩
      have HH5 : Hid (HdAt w5 wr.heap.size x1 x2) := HH4.out.below hb5 HH4.out.lt
      have HR5 : Hid (Two w5 w.heap.size v3 u4 (lowsL dl ++ [a.data.toList]) (askedL dl)) := HR4.out.below hb5
      have HB5 : Hid (Below w.heap.size w w5) := HB4.out.trans (hb5.mono HB4.out.size)
      clear hb5 e1 e2
      have HL6 : Hid (lowsL (dl ++ [hd (x1, x2)]) = lowsL dl ++ [a.data.toList]) := by show _ = _; rw [lows_append, lows_one, HAD.out]
      cases hsf : safeH (hd (x1, x2))
      · have HSF := Lib.hid hsf
        have HA6 : Hid (askedL (dl ++ [hd (x1, x2)]) = askedL dl ++ [a.data.toList]) := by show _ = _; rw [asked_append, asked_no hsf, HAD.out]
        have HS6 : Hid (safeSum (dl ++ [hd (x1, x2)]) = safeSum dl) := by show _ = _; rw [sum_append, sum_no hsf, Nat.add_zero]
        clear hsf
        go_wp2_with (at_builtin; refine wpList_append_beside rfl (.tmp 30) (.tmp 32) rfl w.heap.size u4 v3 (askedL dl) (lowsL dl ++ [a.data.toList]) rfl (HR5.out.symm.below ((Below.refl _ _).alloc (Nat.le_refl _) _)) ⟨w5.heap.size, 0, none⟩ a rfl ?d1 ?d2 w (HB5.out.alloc HB5.out.size _) ?d3 ?_)
        case d1 => simp
        case d2 => have := HAL.out; omega
        case d3 => have := HB5.out.size; simp; omega
        intro v6 w6 hr6 hb6 _
        have HR6 := Lib.hid hr6.symm
        have HB6 := Lib.hid hb6
        clear hr6 hb6
        go_wp2
        go_roundw
        case rel => exact ⟨k + 1, dl ++ [hd (x1, x2)], by omega, by go_num, by rw [HS6.out], by rw [HD.out, HDL.out], by rw [HL6.out, HA6.out]; exact HR6.out, HB6.out⟩
        case measure => simp [intOf]; omega
      · have HSF := Lib.hid hsf
        have HA6 : Hid (askedL (dl ++ [hd (x1, x2)]) = askedL dl) := by show _ = _; rw [asked_append, asked_yes hsf, List.append_nil]
        have HS6 : Hid (safeSum (dl ++ [hd (x1, x2)]) = safeSum dl + t.size) := by show _ = _; rw [sum_append, sum_yes hsf, HTZ.out]
        clear hsf
        obtain ⟨e1, e2⟩ := HH5.out
        go_wp2_with fail
        refine (Trim_any x2 _ (by unfold maxLen; omega)).mono ?_
        rintro e w' ⟨rfl, rfl⟩
        rw [← HTA.out]
        go_wp2
        go_roundw
        case rel => exact ⟨k + 1, dl ++ [hd (x1, x2)], by omega, by go_num, by rw [HS6.out]; go_num, by rw [HD.out, HDL.out], by rw [HL6.out, HA6.out]; exact HR5.out, HB5.out⟩
        case measure => simp [intOf]; omega
    · obtain rfl : k = xs.length := by omega
      have HE : Hid (dl = xs.map hd) := by show _ = _; rw [HDL.out, List.take_length]
      have hde := HE.out
      subst hde
      obtain ⟨sm, hsm⟩ : ∃ sm, sm = safeSum (xs.map hd) := ⟨_, rfl⟩
      rw [← hsm] at hsk ⊢
      have HSM := Lib.hid hsm
      clear hsm
      by_cases hsum : 1024 < sm
      · have hsum2 : (1024 : Int) < (sm : Int) := by omega
        have HNM : Hid (Lib.compact (sortT (lowsL (xs.map hd))) = safeNames (xs.map hd)) := by
          show _ = _; rw [compact_sort, safe_many (by rw [← HSM.out]; exact hsum)]; rfl
        go_wp2_with fail
        refine (Sort_own w _ w.heap.size u3 (lowsL (xs.map hd)) HRR.out.1 HBB.out HBB.out.size (by have := HLL.out; omega)).mono ?_
        rintro e w3 ⟨rfl, hr3, hb3⟩
        have HR3 := Lib.hid hr3
        have HB3 := Lib.hid hb3
        clear hr3 hb3
        go_wp2_with fail
        refine (Compact_own w _ w.heap.size u3 _ HR3.out HB3.out (by rw [sort_len]; have := HLL.out; omega) (compact_len _)).mono ?_
        rintro e w4 ⟨v, rfl, hr4, hb4⟩
        rw [HNM.out] at hr4
        have HR4 := Lib.hid hr4
        have HB4 := Lib.hid hb4
        clear hr4 hb4
        go_wp2
        go_ret
        exact ⟨_, rfl, HR4.out, HB4.out⟩
      · have hsum2 : ¬ (1024 : Int) < (sm : Int) := by omega
        have HNM : Hid (Lib.compact (sortT (askedL (xs.map hd))) = safeNames (xs.map hd)) := by
          show _ = _; rw [compact_sort, safe_few (by rw [← HSM.out]; exact hsum)]
        go_wp2_with fail
        refine (Sort_own w _ w.heap.size u4 (askedL (xs.map hd)) HRR.out.2.1 HBB.out HBB.out.size (by have := HAL.out; omega)).mono ?_
        rintro e w3 ⟨rfl, hr3, hb3⟩
        have HR3 := Lib.hid hr3
        have HB3 := Lib.hid hb3
        clear hr3 hb3
        go_wp2_with fail
        refine (Compact_own w _ w.heap.size u4 _ HR3.out HB3.out (by rw [sort_len]; have := HAL.out; omega) (compact_len _)).mono ?_
        rintro e w4 ⟨v, rfl, hr4, hb4⟩
        rw [HNM.out] at hr4
        have HR4 := Lib.hid hr4
        have HB4 := Lib.hid hb4
        clear hr4 hb4
        go_wp2
        go_ret
        exact ⟨_, rfl, HR4.out, HB4.out⟩
end Go.Proofs.Ytinpfkbplflecaa
