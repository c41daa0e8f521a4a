/-
  Contracts of the document's own answer of layer 6 (Get, Set, Check), over this seat's program, by the same plain mathematics as header's. Conditions: at most a thousand headers, each text of at most 100,000 bytes.
-/
import Derived.Test.YtinpfkbplflecaaDWords
import Derived.Test.YtinpfkbplflecaaLRef1
import Derived.Test.YtinpfkbplflecaaLJoin
namespace Go.Proofs.Ytinpfkbplflecaa
open Go.RowKit

theorem vals_sum {l : List Hd} (h : Sm l) (n : List UInt8) : (((valsH l n).map mk).map ByteArray.size).sum + 2 * ((valsH l n).map mk).length ≤ 1099511627776 := by
  have e : ((valsH l n).map mk).map ByteArray.size = (valsH l n).map List.length := by
    rw [List.map_map]
    apply List.map_congr_left
    intro x _
    exact mk_size x
  have h2 := sum_le _ (vals_small h n)
  have h3 := vals_len l n
  have h4 := h.1
  have h5 : 100000 * (valsH l n).length ≤ 100000 * 1000 := Nat.mul_le_mul_left _ (by omega)
  rw [e, List.length_map]
  omega

set_option maxHeartbeats 2000000 in
theorem refGet_any (A : Option Addr) (len c B : Nat) (xs : List (ByteArray × ByteArray)) (name : ByteArray) (w : World) (hlen : len = xs.length) (hB : B ≤ w.heap.size) (hx : PRow w B A xs) (hsm : Sm (xs.map hd)) (hname : name.size ≤ maxLen) :
    Calls Try.prog 14 #[.slice A len c, .string name] w fun e w' => e = .returned (.tuple #[.string (mk (getH (xs.map hd) name.data.toList)), .bool (gotH (xs.map hd) name.data.toList)]) ∧ Below w.heap.size w w' := by
  subst hlen
  obtain ⟨hl, hs⟩ := hsm.sizes
  have HG := Lib.hid (get_len hsm name.data.toList)
  have HSU := Lib.hid (vals_sum hsm name.data.toList)
  have HVL := Lib.hid (vals_len (xs.map hd) name.data.toList)
  have HX := Lib.hid hx
  have HS := Lib.hid hs
  clear hx hs hsm
  obtain ⟨i0, hi, hz0, hz1, hz2⟩ := info_parts infoS
  go_enter Try.func14, Try.ntmps14
  go_wp2_with fail
  go_loopw [6, 7] (fun v i wr => ∃ (k : Nat) (dl : List Hd), k ≤ xs.length ∧ i = .int .i64 k ∧ dl = (xs.take k).map hd ∧ wr.ownsRow w.heap.size 9 1 v (valsH dl name.data.toList).length ((valsH dl name.data.toList).map sv) ∧ Below w.heap.size w wr) (fun _ i _ => xs.length - (intOf i).toNat)
  case atStart => exact ⟨0, [], Nat.zero_le _, rfl, rfl, World.ownsRow_nil _ _ _ _, Below.refl _ _⟩
  case round =>
    obtain ⟨k, dl, hk, rfl, hdl, hr, hb⟩ := hrel
    have HDL := Lib.hid hdl
    have HRR := Lib.hid hr
    have HBB := Lib.hid hb
    clear hr hb hdl
    by_cases hlt : k < xs.length
    · obtain ⟨ad, hA, _, hc1, hc2⟩ := ((HX.out.mono hB).below HBB.out) k xs[k] (List.getElem?_eq_getElem hlt)
      have hz := HS.out xs[k] (List.getElem_mem hlt)
      have HD := Lib.hid (take_hd (List.take_succ_eq_append_getElem hlt))
      have HVK : Hid ((valsH dl name.data.toList).length ≤ k) := by
        show _ ≤ _
        have h1 := vals_len dl name.data.toList
        have h2 : dl.length = k := by rw [HDL.out]; simp; omega
        omega
      generalize xs[k] = x at *
      obtain ⟨x1, x2⟩ := x
      subst hA
      obtain ⟨t, ht⟩ : ∃ t : ByteArray, t = ⟨(Lk.trimL x2.data.toList).toArray⟩ := ⟨_, rfl⟩
      have HT := Lib.hid ht
      have HTL : Hid (sv (Lk.trimL x2.data.toList) = .string t) := by show _ = _; rw [ht]; rfl
      clear ht
      go_wp2_with fail
      refine (refFold_any x1 name _ (by unfold maxLen; omega) hname).mono ?_
      rintro e w2 ⟨rfl, hb2⟩
      have HB2 : Hid (Below w.heap.size w w2) := HBB.out.trans (hb2.mono HBB.out.size)
      have HR2 : Hid (w2.ownsRow w.heap.size 9 1 u6 (valsH dl name.data.toList).length ((valsH dl name.data.toList).map sv)) := ownsRow_below HRR.out hb2
      have hbc : w2.cell? ⟨(ad.add (k * 2)).block, (ad.add (k * 2)).off + 1, none⟩ = some (.string x2) := (hb2.cell (p := ⟨(ad.add (k * 2)).block, (ad.add (k * 2)).off + 1, none⟩) (block_of_cell hc2)).trans hc2
      clear hb2 hc1 hc2
      cases hf : Lk.foldL x1.data.toList name.data.toList
      · have HF := Lib.hid hf
        clear hf
        go_wp2
        go_roundw
        case rel =>
          refine ⟨k + 1, dl ++ [hd (x1, x2)], by omega, by go_num, by rw [HD.out, HDL.out], ?_, HB2.out⟩
          rw [vals_snoc, show Lk.foldL (hd (x1, x2)).1 name.data.toList = false from HF.out]
          simpa using HR2.out
        case measure => simp [intOf]; omega
      · have HF := Lib.hid hf
        clear hf
        go_wp2_with fail
        refine (refTrim_as x2 t _ (by unfold maxLen; omega) HT.out).mono ?_
        rintro e w' ⟨rfl, rfl⟩
        go_wp2_with (at_builtin; refine wpList_append_own _ rfl (.tmp 21) (.tmp 28) 36 rfl w.heap.size 9 i0 (.string ⟨#[]⟩) 1 16 Try.underlying36 hi hz0 hz1 hz2 rfl (by decide) _ _ _ rfl (World.ownsRow.alloc (w := w2) HR2.out _) ⟨w2.heap.size, 0, none⟩ 1 1 [.string t] rfl rfl ?c1 ?c2 ?c3 ?c4 ?c5 ?_)
        case c1 => exact cell_one_new _ _ _
        case c2 => intro u hu; simp at hu; subst hu; rfl
        case c3 => have := HVK.out; unfold maxLen; omega
        case c4 => have := HVK.out; omega
        case c5 => have := HB2.out.size; simp; omega
        intro v' w3 hown' hgrow _
        have HR3 := Lib.hid hown'
        have HB3 : Hid (Below w.heap.size w w3) := (HB2.out.alloc HB2.out.size _).grown hgrow (by have := HB2.out.size; simp; omega) (fun b hb => (HR2.out.lt b hb).1)
        clear hown' hgrow
        go_wp2
        go_roundw
        case rel =>
          refine ⟨k + 1, dl ++ [hd (x1, x2)], by omega, by go_num, by rw [HD.out, HDL.out], ?_, HB3.out⟩
          rw [vals_snoc, show Lk.foldL (hd (x1, x2)).1 name.data.toList = true from HF.out, if_pos rfl, List.length_append, List.map_append, List.map_cons, List.map_nil, show sv (Lk.trimL (hd (x1, x2)).2) = .string t from HTL.out]
          exact HR3.out
        case measure => simp [intOf]; omega
    · obtain rfl : k = xs.length := by omega
      have hr := HRR.out
      rw [HDL.out, List.take_length] at hr
      obtain ⟨A2, c2, e2, hc2, hsr⟩ := trow_of hr
      have HSR := Lib.hid hsr
      clear hr hsr
      subst e2
      have HJ : Hid (Lk.joinL (dat ((valsH (xs.map hd) name.data.toList).map mk)) = getH (xs.map hd) name.data.toList) := by show _ = _; rw [dat_mk]; rfl
      have HO : Hid (gotH (xs.map hd) name.data.toList = decide (0 < (valsH (xs.map hd) name.data.toList).length)) := got_vals _ _
      go_wp2_with fail
      refine (refJoin_any A2 _ c2 wr.heap.size ((valsH (xs.map hd) name.data.toList).map mk) _ (by simp) HSR.out HSU.out).mono ?_
      rintro e w' ⟨rfl, rfl⟩
      rw [HJ.out]
      go_wp2
      go_ret2
      exact ⟨by rw [HO.out]; rfl, HBB.out⟩


set_option maxHeartbeats 2000000 in
theorem refSet_any (A : Option Addr) (len c B : Nat) (xs : List (ByteArray × ByteArray)) (name value : ByteArray) (w : World) (hlen : len = xs.length) (hB : B ≤ w.heap.size) (hx : PRow w B A xs) (hsm : Sm (xs.map hd)) (hname : name.size ≤ maxLen) :
    Calls Try.prog 23 #[.slice A len c, .string name, .string value] w fun e w' => ∃ v, e = .returned v ∧ HdRow w' w.heap.size v (setH (xs.map hd) name.data.toList value.data.toList) ∧ Below w.heap.size w w' := by
  subst hlen
  obtain ⟨hl, hs⟩ := hsm.sizes
  have HX := Lib.hid hx
  have HS := Lib.hid hs
  clear hx hs hsm
  obtain ⟨i0, hi, hz0, hz1, hz2⟩ := info_parts infoH
  go_enter Try.func23, Try.ntmps23
  go_wp2_with fail
  go_loopw [7, 8, 9] (fun v f i wr => ∃ (k : Nat) (pl dl : List Hd) (b : Bool), k ≤ xs.length ∧ i = .int .i64 k ∧ f = .bool b ∧ pl = (xs.take k).map hd ∧ dl = setR name.data.toList value.data.toList false pl ∧ b = gotH pl name.data.toList ∧ wr.ownsRow w.heap.size 41 2 v dl.length (hcs dl) ∧ Below w.heap.size w wr) (fun _ _ i _ => xs.length - (intOf i).toNat)
  case atStart => exact ⟨0, [], [], false, Nat.zero_le _, rfl, rfl, rfl, rfl, rfl, World.ownsRow_nil _ _ _ _, Below.refl _ _⟩
  case round =>
    obtain ⟨k, pl, dl, b, hk, rfl, rfl, hpl, hdl, hbg, hr, hb⟩ := hrel
    have hdk : dl.length ≤ k := by
      have h1 := setR_len name.data.toList value.data.toList false pl
      have h2 : pl.length = k := by rw [hpl]; simp; omega
      rw [← hdl] at h1; omega
    have HPL := Lib.hid hpl
    have HDL := Lib.hid hdl
    have HBG := Lib.hid hbg
    have HRR := Lib.hid hr
    have HBB := Lib.hid hb
    clear hr hb hpl hdl hbg
    by_cases hlt : k < xs.length
    · obtain ⟨ad, hA, _, hc1, hc2⟩ := ((HX.out.mono hB).below HBB.out) k xs[k] (List.getElem?_eq_getElem hlt)
      have hz := HS.out xs[k] (List.getElem_mem hlt)
      have HD := Lib.hid (take_hd (List.take_succ_eq_append_getElem hlt))
      generalize xs[k] = x at *
      obtain ⟨x1, x2⟩ := x
      subst hA
      go_wp2_with fail
      refine (refFold_any x1 name _ (by unfold maxLen; omega) hname).mono ?_
      rintro e w2 ⟨rfl, hb2⟩
      have HB2 : Hid (Below w.heap.size w w2) := HBB.out.trans (hb2.mono HBB.out.size)
      have HR2 : Hid (w2.ownsRow w.heap.size 41 2 u7 dl.length (hcs dl)) := ownsRow_below HRR.out hb2
      have b0 : w2.cell? (ad.add (k * 2)) = some (.string x1) := (hb2.cell (p := ad.add (k * 2)) (block_of_cell hc1)).trans hc1
      have b1 : w2.cell? ⟨(ad.add (k * 2)).block, (ad.add (k * 2)).off + 1, none⟩ = some (.string x2) := (hb2.cell (p := ⟨(ad.add (k * 2)).block, (ad.add (k * 2)).off + 1, none⟩) (block_of_cell hc2)).trans hc2
      clear hb2 hc1 hc2
      cases hf : Lk.foldL x1.data.toList name.data.toList
      · have HF := Lib.hid hf
        clear hf
        go_wp2_with (at_builtin; refine wpList_append_own _ rfl (.tmp 24) (.tmp 29) 22 rfl w.heap.size 41 i0 (.agg #[.string ⟨#[]⟩, .string ⟨#[]⟩]) 2 32 Try.underlying22 hi hz0 hz1 hz2 rfl (by decide) _ _ _ rfl (World.ownsRow.alloc (w := w2) HR2.out _) ⟨w2.heap.size, 0, none⟩ 1 1 [.string x1, .string x2] rfl rfl ?c1 ?c2 ?c3 ?c4 ?c5 ?_)
        case c1 => exact cells_two_new _ _ _ _
        case c2 => intro u hu; simp at hu; rcases hu with rfl | rfl <;> rfl
        case c3 => unfold maxLen; omega
        case c4 => omega
        case c5 => have := HB2.out.size; simp; omega
        intro v' w3 hown' hgrow _
        have HR3 := Lib.hid hown'
        have HB3 : Hid (Below w.heap.size w w3) := (HB2.out.alloc HB2.out.size _).grown hgrow (by have := HB2.out.size; simp; omega) (fun b hb => (HR2.out.lt b hb).1)
        clear hown' hgrow
        go_wp2
        go_roundw
        case rel =>
          refine ⟨k + 1, pl ++ [hd (x1, x2)], dl ++ [hd (x1, x2)], b, by omega, by go_num, rfl, by rw [HD.out, HPL.out], by rw [HDL.out, setR_no HF.out], by rw [got_snoc HF.out, HBG.out]; simp, HdRow.more HR3.out, HB3.out⟩
        case measure => simp [intOf]; omega
      · have HF := Lib.hid hf
        clear hf
        cases b
        · go_wp2_with (at_builtin; refine wpList_append_own _ rfl (.tmp 33) (.tmp 41) 22 rfl w.heap.size 41 i0 (.agg #[.string ⟨#[]⟩, .string ⟨#[]⟩]) 2 32 Try.underlying22 hi hz0 hz1 hz2 rfl (by decide) _ _ _ rfl (World.ownsRow.alloc (w := w2) HR2.out _) ⟨w2.heap.size, 0, none⟩ 1 1 [.string x1, .string value] rfl rfl ?d1 ?d2 ?d3 ?d4 ?d5 ?_)
          case d1 => exact cells_two_new _ _ _ _
          case d2 => intro u hu; simp at hu; rcases hu with rfl | rfl <;> rfl
          case d3 => unfold maxLen; omega
          case d4 => omega
          case d5 => have := HB2.out.size; simp; omega
          intro v' w3 hown' hgrow _
          have HR3 := Lib.hid hown'
          have HB3 : Hid (Below w.heap.size w w3) := (HB2.out.alloc HB2.out.size _).grown hgrow (by have := HB2.out.size; simp; omega) (fun b hb => (HR2.out.lt b hb).1)
          clear hown' hgrow
          go_wp2
          go_roundw
          case rel =>
            refine ⟨k + 1, pl ++ [hd (x1, x2)], dl ++ [(x1.data.toList, value.data.toList)], true, by omega, by go_num, rfl, by rw [HD.out, HPL.out], by rw [HDL.out, setR_first HF.out HBG.out.symm]; rfl, by rw [got_snoc HF.out]; simp, HdRow.more HR3.out, HB3.out⟩
          case measure => simp [intOf]; omega
        · go_wp2
          go_roundw
          case rel =>
            refine ⟨k + 1, pl ++ [hd (x1, x2)], dl, true, by omega, by go_num, rfl, by rw [HD.out, HPL.out], by rw [HDL.out, setR_yes HF.out HBG.out.symm], by rw [got_snoc HF.out]; simp, HR2.out, HB2.out⟩
          case measure => simp [intOf]; omega
    · obtain rfl : k = xs.length := by omega
      have HP2 : Hid (pl = xs.map hd) := by show _ = _; rw [HPL.out, List.take_length]
      cases b
      · go_wp2_with (at_builtin; refine wpList_append_own _ rfl (.tmp 45) (.tmp 49) 22 rfl w.heap.size 41 i0 (.agg #[.string ⟨#[]⟩, .string ⟨#[]⟩]) 2 32 Try.underlying22 hi hz0 hz1 hz2 rfl (by decide) _ _ _ rfl (World.ownsRow.alloc (w := wr) HRR.out _) ⟨wr.heap.size, 0, none⟩ 1 1 [.string name, .string value] rfl rfl ?e1 ?e2 ?e3 ?e4 ?e5 ?_)
        case e1 => exact cells_two_new _ _ _ _
        case e2 => intro u hu; simp at hu; rcases hu with rfl | rfl <;> rfl
        case e3 => unfold maxLen; omega
        case e4 => omega
        case e5 => have := HBB.out.size; simp; omega
        intro v' w3 hown' hgrow _
        have HR3 := Lib.hid hown'
        have HB3 : Hid (Below w.heap.size w w3) := (HBB.out.alloc HBB.out.size _).grown hgrow (by have := HBB.out.size; simp; omega) (fun b hb => (HRR.out.lt b hb).1)
        clear hown' hgrow
        go_wp2
        go_ret
        refine ⟨_, rfl, ?_, HB3.out⟩
        rw [← HP2.out, set_of HDL.out HBG.out]
        exact HdRow.more HR3.out
      · go_wp2
        go_ret
        refine ⟨_, rfl, ?_, HBB.out⟩
        rw [← HP2.out, set_of HDL.out HBG.out]
        rw [if_pos rfl, List.append_nil]
        exact HRR.out
end Go.Proofs.Ytinpfkbplflecaa
