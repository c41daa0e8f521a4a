/-
  Contracts of the document's own answer of layer 6 over this seat's program. Conditions: those of each statement.
-/
import Derived.Test.YtlkneapidmdpbaaGreatDoorLHdr
import Derived.Test.YtlkneapidmdpbaaGreatDoorLRef1
import Derived.Test.YtlkneapidmdpbaaGreatDoorLJoin
import Derived.Laws.CopyOwn
import Derived.Sort.Walk0
namespace Go.Proofs.YtlkneapidmdpbaaGreatDoor
open Go.RowKit

theorem vals_sum {l : List Hd} (h : Sm l) (n : List UInt8) : (((valsH l n).map mk).map ByteArray.size).sum + 2 * ((valsH l n).map mk).length ≤ 1099511627776 := by
  have e : ((valsH l n).map mk).map ByteArray.size = (valsH l n).map List.length := by
    rw [List.map_map]
    apply List.map_congr_left
    intro x _
    exact mk_size x
  have h2 := sum_le _ (vals_small h n)
  have h3 := vals_len l n
  have h4 := h.1
  have h5 : 100000 * (valsH l n).length ≤ 100000 * 1000 := Nat.mul_le_mul_left _ (by omega)
  rw [e, List.length_map]
  omega

set_option maxHeartbeats 2000000 in
theorem refGet_any (A : Option Addr) (len c B : Nat) (xs : List (ByteArray × ByteArray)) (name : ByteArray) (w : World) (hlen : len = xs.length) (hB : B ≤ w.heap.size) (hx : PRow w B A xs) (hsm : Sm (xs.map hd)) (hname : name.size ≤ maxLen) :
    Calls Tryz.prog 91 #[.slice A len c, .string name] w fun e w' => e = .returned (.tuple #[.string (mk (getH (xs.map hd) name.data.toList)), .bool (gotH (xs.map hd) name.data.toList)]) ∧ Below w.heap.size w w' := by
  subst hlen
  obtain ⟨hl, hs⟩ := hsm.sizes
  have HG := Lib.hid (get_len hsm name.data.toList)
  have HSU := Lib.hid (vals_sum hsm name.data.toList)
  have HVL := Lib.hid (vals_len (xs.map hd) name.data.toList)
  have HX := Lib.hid hx
  have HS := Lib.hid hs
  clear hx hs hsm
  obtain ⟨i0, hi, hz0, hz1, hz2⟩ := info_parts infoS
  go_enter Tryz.func91, Tryz.ntmps91
  go_wp2_with fail
  go_loopw [6, 7] (fun v i wr => ∃ (k : Nat) (dl : List Hd), k ≤ xs.length ∧ i = .int .i64 k ∧ dl = (xs.take k).map hd ∧ wr.ownsRow w.heap.size 9 1 v (valsH dl name.data.toList).length ((valsH dl name.data.toList).map sv) ∧ Below w.heap.size w wr) (fun _ i _ => xs.length - (intOf i).toNat)
  case atStart => exact ⟨0, [], Nat.zero_le _, rfl, rfl, World.ownsRow_nil _ _ _ _, Below.refl _ _⟩
  case round =>
    obtain ⟨k, dl, hk, rfl, hdl, hr, hb⟩ := hrel
    have HDL := Lib.hid hdl
    have HRR := Lib.hid hr
    have HBB := Lib.hid hb
    clear hr hb hdl
    by_cases hlt : k < xs.length
    · obtain ⟨ad, hA, _, hc1, hc2⟩ := ((HX.out.mono hB).below HBB.out) k xs[k] (List.getElem?_eq_getElem hlt)
      have hz := HS.out xs[k] (List.getElem_mem hlt)
      have HD := Lib.hid (take_hd (List.take_succ_eq_append_getElem hlt))
      have HVK : Hid ((valsH dl name.data.toList).length ≤ k) := by
        show _ ≤ _
        have h1 := vals_len dl name.data.toList
        have h2 : dl.length = k := by rw [HDL.out]; simp; omega
        omega
      generalize xs[k] = x at *
      obtain ⟨x1, x2⟩ := x
      subst hA
      obtain ⟨t, ht⟩ : ∃ t : ByteArray, t = ⟨(Lk.trimL x2.data.toList).toArray⟩ := ⟨_, rfl⟩
      have HT := Lib.hid ht
      have HTL : Hid (sv (Lk.trimL x2.data.toList) = .string t) := by show _ = _; rw [ht]; rfl
      clear ht
      go_wp2_with fail
      refine (refFold_any x1 name _ (by unfold maxLen; omega) hname).mono ?_
      rintro e w2 ⟨rfl, hb2⟩
      have HB2 : Hid (Below w.heap.size w w2) := HBB.out.trans (hb2.mono HBB.out.size)
      have HR2 : Hid (w2.ownsRow w.heap.size 9 1 u6 (valsH dl name.data.toList).length ((valsH dl name.data.toList).map sv)) := ownsRow_below HRR.out hb2
      have hbc : w2.cell? ⟨(ad.add (k * 2)).block, (ad.add (k * 2)).off + 1, none⟩ = some (.string x2) := (hb2.cell (p := ⟨(ad.add (k * 2)).block, (ad.add (k * 2)).off + 1, none⟩) (block_of_cell hc2)).trans hc2
      clear hb2 hc1 hc2
      cases hf : Lk.foldL x1.data.toList name.data.toList
      · have HF := Lib.hid hf
        clear hf
        go_wp2
        go_roundw
        case rel =>
          refine ⟨k + 1, dl ++ [hd (x1, x2)], by omega, by go_num, by rw [HD.out, HDL.out], ?_, HB2.out⟩
          rw [vals_snoc, show Lk.foldL (hd (x1, x2)).1 name.data.toList = false from HF.out]
          simpa using HR2.out
        case measure => simp [intOf]; omega
      · have HF := Lib.hid hf
        clear hf
        go_wp2_with fail
        refine (refTrim_as x2 t _ (by unfold maxLen; omega) HT.out).mono ?_
        rintro e w' ⟨rfl, rfl⟩
        go_wp2_with (at_builtin; refine wpList_append_own _ rfl (.tmp 21) (.tmp 28) 26 rfl w.heap.size 9 i0 (.string ⟨#[]⟩) 1 16 Tryz.underlying26 hi hz0 hz1 hz2 rfl (by decide) _ _ _ rfl (World.ownsRow.alloc (w := w2) HR2.out _) ⟨w2.heap.size, 0, none⟩ 1 1 [.string t] rfl rfl ?c1 ?c2 ?c3 ?c4 ?c5 ?_)
        case c1 => exact cell_one_new _ _ _
        case c2 => intro u hu; simp at hu; subst hu; rfl
        case c3 => have := HVK.out; unfold maxLen; omega
        case c4 => have := HVK.out; omega
        case c5 => have := HB2.out.size; simp; omega
        intro v' w3 hown' hgrow _
        have HR3 := Lib.hid hown'
        have HB3 : Hid (Below w.heap.size w w3) := (HB2.out.alloc HB2.out.size _).grown hgrow (by have := HB2.out.size; simp; omega) (fun b hb => (HR2.out.lt b hb).1)
        clear hown' hgrow
        go_wp2
        go_roundw
        case rel =>
          refine ⟨k + 1, dl ++ [hd (x1, x2)], by omega, by go_num, by rw [HD.out, HDL.out], ?_, HB3.out⟩
          rw [vals_snoc, show Lk.foldL (hd (x1, x2)).1 name.data.toList = true from HF.out, if_pos rfl, List.length_append, List.map_append, List.map_cons, List.map_nil, show sv (Lk.trimL (hd (x1, x2)).2) = .string t from HTL.out]
          exact HR3.out
        case measure => simp [intOf]; omega
    · obtain rfl : k = xs.length := by omega
      have hr := HRR.out
      rw [HDL.out, List.take_length] at hr
      obtain ⟨A2, c2, e2, hc2, hsr⟩ := trow_of hr
      have HSR := Lib.hid hsr
      clear hr hsr
      subst e2
      have HJ : Hid (Lk.joinL (dat ((valsH (xs.map hd) name.data.toList).map mk)) = getH (xs.map hd) name.data.toList) := by show _ = _; rw [dat_mk]; rfl
      have HO : Hid (gotH (xs.map hd) name.data.toList = decide (0 < (valsH (xs.map hd) name.data.toList).length)) := got_vals _ _
      go_wp2_with fail
      refine (refJoin_any A2 _ c2 wr.heap.size ((valsH (xs.map hd) name.data.toList).map mk) _ (by simp) HSR.out HSU.out).mono ?_
      rintro e w' ⟨rfl, rfl⟩
      rw [HJ.out]
      go_wp2
      go_ret2
      exact ⟨by rw [HO.out]; rfl, HBB.out⟩


end Go.Proofs.YtlkneapidmdpbaaGreatDoor

namespace Go.Proofs.YtlkneapidmdpbaaGreatDoor
open Go.RowKit

theorem okH_eq (x1 x2 : ByteArray) (t : List UInt8) (ht : t = Lk.trimL x2.data.toList) : okH (hd (x1, x2)) = (decide (x1.size ≤ 64) && Lk.tokL x1.data.toList && (decide (t.length ≤ 4096) && !(Lk.inL 0 t || Lk.inL 10 t || Lk.inL 13 t))) := by
  unfold okH nameOk valOk badB
  rw [ht]; rfl
theorem chk_bad {xs : List (ByteArray × ByteArray)} {x : ByteArray × ByteArray} (h32 : ¬ 32 < xs.length) (hm : x ∈ xs) (h : okH (hd x) = false) : checkH (xs.map hd) = 6 := by
  unfold checkH
  rw [if_neg (by simpa using h32), if_neg]
  intro hall
  have := List.all_eq_true.1 hall _ (List.mem_map_of_mem hm)
  rw [h] at this; cases this

set_option maxHeartbeats 2000000 in
theorem refHCheck_any (A : Option Addr) (len c B : Nat) (xs : List (ByteArray × ByteArray)) (w : World) (hlen : len = xs.length) (hx : PRow w B A xs) (hsm : Sm (xs.map hd)) :
    Calls Tryz.prog 127 #[.slice A len c] w fun e w' => e = .returned (.int .i64 (checkH (xs.map hd))) ∧ w = w' := by
  subst hlen
  obtain ⟨hl, hs⟩ := hsm.sizes
  have HX := Lib.hid hx
  have HS := Lib.hid hs
  clear hx hs hsm
  by_cases h32 : 32 < xs.length
  · have HE : Hid (checkH (xs.map hd) = 4) := by show _ = _; unfold checkH; rw [if_pos (by simpa using h32)]
    go_enter Tryz.func127, Tryz.ntmps127
    go_wp2
    go_ret
    exact ⟨ret_int HE.out.symm, rfl⟩
  have H32 := Lib.hid h32
  go_enter Tryz.func127, Tryz.ntmps127
  go_wp2_with fail
  go_loop [3, 4] (fun i _ => ∃ k : Nat, k ≤ xs.length ∧ i = .int .i64 k ∧ (((xs.take k).map hd).all okH = true)) (fun i _ => xs.length - (intOf i).toNat)
  case atStart => exact ⟨0, Nat.zero_le _, rfl, rfl⟩
  case round =>
    obtain ⟨k, hk, rfl, hall⟩ := hrel
    have HAL := Lib.hid hall
    clear hall
    by_cases hlt : k < xs.length
    · obtain ⟨ad, hA, _, hc1, hc2⟩ := HX.out k xs[k] (List.getElem?_eq_getElem hlt)
      have hz := HS.out xs[k] (List.getElem_mem hlt)
      have HD : Hid (xs.take (k + 1) = xs.take k ++ [xs[k]]) := List.take_succ_eq_append_getElem hlt
      have HM : Hid (xs[k] ∈ xs) := List.getElem_mem hlt
      generalize xs[k] = x at *
      obtain ⟨x1, x2⟩ := x
      subst hA
      obtain ⟨t, ht⟩ : ∃ t : ByteArray, t = ⟨(Lk.trimL x2.data.toList).toArray⟩ := ⟨_, rfl⟩
      have HOK : Hid (okH (hd (x1, x2)) = (decide (x1.size ≤ 64) && Lk.tokL x1.data.toList && (decide (t.size ≤ 4096) && !(Lk.inL 0 t.data.toList || Lk.inL 10 t.data.toList || Lk.inL 13 t.data.toList)))) := okH_eq x1 x2 t.data.toList (by rw [ht])
      have htz : t.size ≤ 100000 := by
        have h1 : t.size = (Lk.trimL x2.data.toList).length := by rw [ht]; show (Lk.trimL x2.data.toList).toArray.size = _; simp
        have h2 := Lk.trim_len x2.data.toList
        have h3 : x2.data.toList.length = x2.size := by simp
        have h4 : x2.size ≤ 100000 := hz.2
        omega
      have HT := Lib.hid ht
      clear ht
      go_wp2_with fail
      refine (refTrim_as x2 t _ (by unfold maxLen; omega) HT.out).mono ?_
      rintro e w' ⟨rfl, rfl⟩
      by_cases h1 : 64 < x1.size
      · go_wp2
        go_ret
        exact ⟨ret_int (chk_bad H32.out HM.out (by rw [HOK.out]; simp [show ¬ x1.size ≤ 64 by omega])).symm, rfl⟩
      have h1' : ¬ ((64 : Int) < (x1.size : Int)) := by omega
      have g1 : x1.size ≤ 64 := by omega
      go_wp2_with fail
      refine (refToken_any x1 _ (by unfold maxLen; omega)).mono ?_
      rintro e w' ⟨rfl, rfl⟩
      cases h2 : Lk.tokL x1.data.toList
      · have H2 := Lib.hid h2
        clear h2
        go_wp2
        go_ret
        exact ⟨ret_int (chk_bad H32.out HM.out (by rw [HOK.out]; simp [H2.out])).symm, rfl⟩
      have H2 := Lib.hid h2
      clear h2
      by_cases h3 : 4096 < t.size
      · go_wp2
        go_ret
        exact ⟨ret_int (chk_bad H32.out HM.out (by rw [HOK.out]; simp [show ¬ t.size ≤ 4096 by omega])).symm, rfl⟩
      have h3' : ¬ ((4096 : Int) < (t.size : Int)) := by omega
      have g3 : t.size ≤ 4096 := by omega
      go_wp2_with fail
      refine (In_any 0 t _ (by unfold maxLen; omega)).mono ?_
      rintro e w' ⟨rfl, rfl⟩
      cases q0 : Lk.inL 0 t.data.toList
      case true =>
        have Q0 := Lib.hid q0
        clear q0
        go_wp2
        go_ret
        exact ⟨ret_int (chk_bad H32.out HM.out (by rw [HOK.out]; simp [Q0.out])).symm, rfl⟩
      have Q0 := Lib.hid q0
      clear q0
      go_wp2_with fail
      refine (In_any 10 t _ (by unfold maxLen; omega)).mono ?_
      rintro e w' ⟨rfl, rfl⟩
      cases q10 : Lk.inL 10 t.data.toList
      case true =>
        have Q10 := Lib.hid q10
        clear q10
        go_wp2
        go_ret
        exact ⟨ret_int (chk_bad H32.out HM.out (by rw [HOK.out]; simp [Q10.out])).symm, rfl⟩
      have Q10 := Lib.hid q10
      clear q10
      go_wp2_with fail
      refine (In_any 13 t _ (by unfold maxLen; omega)).mono ?_
      rintro e w' ⟨rfl, rfl⟩
      cases q13 : Lk.inL 13 t.data.toList
      case true =>
        have Q13 := Lib.hid q13
        clear q13
        go_wp2
        go_ret
        exact ⟨ret_int (chk_bad H32.out HM.out (by rw [HOK.out]; simp [Q13.out])).symm, rfl⟩
      have Q13 := Lib.hid q13
      clear q13
      go_wp2
      go_round
      case rel =>
        refine ⟨k + 1, by omega, by go_num, ?_⟩
        rw [HD.out, List.map_append, List.all_append, HAL.out]
        simp [HOK.out, g1, g3, H2.out, Q0.out, Q10.out, Q13.out]
      case measure => simp [intOf]; omega
    · obtain rfl : k = xs.length := by omega
      have HE : Hid (checkH (xs.map hd) = 0) := by
        have h := HAL.out
        rw [List.take_length] at h
        show _ = _
        unfold checkH
        rw [if_neg (by simpa using H32.out), h]; rfl
      go_wp2
      go_ret
      exact ⟨ret_int HE.out.symm, rfl⟩

def CellsAt (W : World) (p q : Addr) (x1 x2 : ByteArray) : Prop := W.cell? p = some (.string x1) ∧ W.cell? q = some (.string x2)
theorem CellsAt.below {W W' : World} {p q : Addr} {x1 x2 : ByteArray} (h : CellsAt W p q x1 x2) (hb : Below W.heap.size W W') : CellsAt W' p q x1 x2 :=
  ⟨(hb.cell (block_of_cell h.1)).trans h.1, (hb.cell (block_of_cell h.2)).trans h.2⟩

set_option maxHeartbeats 2000000 in
theorem refHNorm_any (A : Option Addr) (len c B : Nat) (xs : List (ByteArray × ByteArray)) (w : World) (hlen : len = xs.length) (hB : B ≤ w.heap.size) (hx : PRow w B A xs) (hsm : Sm (xs.map hd)) :
    Calls Tryz.prog 90 #[.slice A len c] w fun e w' => ∃ v, e = .returned v ∧ HdRow w' w.heap.size v (normL (xs.map hd)) ∧ Below w.heap.size w w' := by
  subst hlen
  obtain ⟨hl, hs⟩ := hsm.sizes
  have HX := Lib.hid hx
  have HS := Lib.hid hs
  clear hx hs hsm
  obtain ⟨i0, hi, hz0, hz1, hz2⟩ := info_parts infoH
  go_enter Tryz.func90, Tryz.ntmps90
  go_wp2_with fail
  go_loopw [3, 4] (fun v i wr => ∃ (k : Nat) (dl : List Hd), k ≤ xs.length ∧ i = .int .i64 k ∧ dl = normL ((xs.take k).map hd) ∧ wr.ownsRow w.heap.size 57 2 v dl.length (hcs dl) ∧ Below w.heap.size w wr) (fun _ i _ => xs.length - (intOf i).toNat)
  case atStart => exact ⟨0, [], Nat.zero_le _, rfl, rfl, World.ownsRow_nil _ _ _ _, Below.refl _ _⟩
  case round =>
    obtain ⟨k, dl, hk, rfl, hdl, hr, hb⟩ := hrel
    have hdk : dl.length ≤ k := by rw [hdl]; simp [normL]; omega
    have HDL := Lib.hid hdl
    have HRR := Lib.hid hr
    have HBB := Lib.hid hb
    clear hr hb hdl
    by_cases hlt : k < xs.length
    · obtain ⟨ad, hA, _, hc1, hc2⟩ := ((HX.out.mono hB).below HBB.out) k xs[k] (List.getElem?_eq_getElem hlt)
      have hz := HS.out xs[k] (List.getElem_mem hlt)
      have HD := Lib.hid (take_hd (List.take_succ_eq_append_getElem hlt))
      have HXK : Hid (xs[k]? = some xs[k]) := List.getElem?_eq_getElem hlt
      generalize hxk : xs[k] = x at *
      clear hxk
      obtain ⟨x1, x2⟩ := x
      subst hA
      have hF : CellsAt wr (ad.add (k * 2)) ⟨(ad.add (k * 2)).block, (ad.add (k * 2)).off + 1, none⟩ x1 x2 := ⟨hc1, hc2⟩
      clear hc1 hc2
      obtain ⟨a, ha⟩ : ∃ a : ByteArray, a = ⟨(Lk.lower x1.data.toList).toArray⟩ := ⟨_, rfl⟩
      obtain ⟨b, hb⟩ : ∃ b : ByteArray, b = ⟨(Lk.trimL x2.data.toList).toArray⟩ := ⟨_, rfl⟩
      have HLA := Lib.hid ha
      have HLB := Lib.hid hb
      have HNE : Hid (normL ((xs.take (k + 1)).map hd) = dl ++ [(a.data.toList, b.data.toList)]) := by
        show _ = _
        rw [HD.out, HDL.out, ha, hb]
        simp [normL, normH, hd]
      clear ha hb
      go_wp2_with fail
      refine mix_start (fun W => CellsAt W (ad.add (k * 2)) ⟨(ad.add (k * 2)).block, (ad.add (k * 2)).off + 1, none⟩ x1 x2) (by kernel_rfl) ?_
      have hne : Nonempty (Held (fun W => CellsAt W (ad.add (k * 2)) ⟨(ad.add (k * 2)).block, (ad.add (k * 2)).off + 1, none⟩ x1 x2)) := ⟨⟨_, hF⟩⟩
      have z0 : ∀ q : Held (fun W => CellsAt W (ad.add (k * 2)) ⟨(ad.add (k * 2)).block, (ad.add (k * 2)).off + 1, none⟩ x1 x2), q.w.cell? (ad.add (k * 2)) = some (.string x1) := fun q => q.h.1
      have z1 : ∀ q : Held (fun W => CellsAt W (ad.add (k * 2)) ⟨(ad.add (k * 2)).block, (ad.add (k * 2)).off + 1, none⟩ x1 x2), q.w.cell? ⟨(ad.add (k * 2)).block, (ad.add (k * 2)).off + 1, none⟩ = some (.string x2) := fun q => q.h.2
      have hlt2 : ((k : Int) < (xs.length : Int)) := by omega
      refine mix_seg [0, 1, 2, 3, 4, 5, 7, 8, 9, 10, 11] (by kernel_rfl) hF ?_
      simp only [segOf, pickOps, pickOp]
      repeat (go_big_quiet_step (fail))
      refine wpQuiet_nil ?_
      refine mix_run 6 (by kernel_rfl) ?_
      simp only [segOf, pickOps, pickOp]
      go_wp2_with fail
      refine (refLower_any x1 _ (by unfold maxLen; omega)).mono ?_
      rintro e w1 ⟨rfl, hb1⟩
      rw [← HLA.out]
      have hb1' : Below wr.heap.size wr w1 := (Below.refl _ _).drew.trans hb1
      have hF1 := hF.below hb1'
      have HR1 : Hid (w1.ownsRow w.heap.size 57 2 u3 dl.length (hcs dl)) := ownsRow_below HRR.out hb1'
      have HB1 : Hid (Below w.heap.size w w1) := HBB.out.trans (hb1'.mono HBB.out.size)
      clear hb1 hb1'
      go_wp2_with fail
      refine MixPost.normal hF1 ?_
      refine mix_run 12 (by kernel_rfl) ?_
      simp only [segOf, pickOps, pickOp]
      go_wp2_with fail
      refine (refTrim_as x2 b _ (by unfold maxLen; omega) HLB.out).mono ?_
      rintro e w' ⟨rfl, rfl⟩
      go_wp2_with fail
      refine MixPost.normal hF1 ?_
      refine mix_run 13 (by kernel_rfl) ?_
      simp only [segOf, pickOps, pickOp]
      go_wp2_with fail
      refine MixPost.normal hF1 ?_
      refine mix_run 14 (by kernel_rfl) ?_
      simp only [segOf, pickOps, pickOp]
      go_wp2_with fail
      refine MixPost.normal (hF1.below ((Below.refl _ _).alloc (Nat.le_refl _) _)) ?_
      refine mix_run 15 (by kernel_rfl) ?_
      simp only [segOf, pickOps, pickOp]
      go_wp2_with (at_builtin; refine wpList_append_own _ rfl (.tmp 11) (.tmp 25) 22 rfl w.heap.size 57 i0 (.agg #[.string ⟨#[]⟩, .string ⟨#[]⟩]) 2 32 Tryz.underlying22 hi hz0 hz1 hz2 rfl (by decide) _ _ _ rfl (World.ownsRow.alloc (w := w1) HR1.out _) ⟨w1.heap.size, 0, none⟩ 1 1 [.string a, .string b] rfl rfl ?c1 ?c2 ?c3 ?c4 ?c5 ?_)
      case c1 => exact cells_two_new _ _ _ _
      case c2 => intro u hu; simp at hu; rcases hu with rfl | rfl <;> rfl
      case c3 => unfold maxLen; omega
      case c4 => omega
      case c5 => have := HB1.out.size; simp; omega
      intro v' w3 hown' hgrow _
      have HR3 := Lib.hid hown'
      have HB3 : Hid (Below w.heap.size w w3) := (HB1.out.alloc HB1.out.size _).grown hgrow (by have := HB1.out.size; simp; omega) (fun b hb => (HR1.out.lt b hb).1)
      have hF3 : CellsAt w3 (ad.add (k * 2)) ⟨(ad.add (k * 2)).block, (ad.add (k * 2)).off + 1, none⟩ x1 x2 := by
        obtain ⟨ad', e', _, h1, h2⟩ := ((HX.out.mono hB).below HB3.out) k (x1, x2) HXK.out
        obtain rfl : ad = ad' := by simpa using e'
        exact ⟨h1, h2⟩
      clear hown' hgrow
      go_wp2_with fail
      refine MixPost.normal hF3 ?_
      refine mix_seg [16] (by kernel_rfl) hF3 ?_
      simp only [segOf, pickOps, pickOp]
      repeat (go_big_quiet_step (fail))
      refine wpQuiet_nil ?_
      refine mix_done (by kernel_rfl) ?_
      go_wp2
      go_roundw
      case rel => exact ⟨k + 1, dl ++ [(a.data.toList, b.data.toList)], by omega, by go_num, HNE.out.symm, HdRow.more HR3.out, HB3.out⟩
      case measure => simp [intOf]; omega
    · obtain rfl : k = xs.length := by omega
      go_wp2
      go_ret
      refine ⟨_, rfl, ?_, HBB.out⟩
      have h := HDL.out
      rw [List.take_length] at h
      rw [← h]
      exact HRR.out
end Go.Proofs.YtlkneapidmdpbaaGreatDoor

namespace Go.Proofs.YtlkneapidmdpbaaGreatDoor
open Go.RowKit

theorem rows_no {xs ys : List (ByteArray × ByteArray)} {k : Nat} {x1 x2 y1 y2 : ByteArray} (hx : xs[k]? = some (x1, x2)) (hy : ys[k]? = some (y1, y2)) (h : (x1.toList == y1.toList) = false ∨ (x2.toList == y2.toList) = false) : xs.map hd ≠ ys.map hd := by
  intro e
  have e1 := row_alike e
  subst e1
  rw [hx] at hy
  simp only [Option.some.injEq, Prod.mk.injEq] at hy
  obtain ⟨rfl, rfl⟩ := hy
  simp at h
theorem rows_step {xs ys : List (ByteArray × ByteArray)} {k : Nat} {x1 x2 y1 y2 : ByteArray} (hx : xs.take (k + 1) = xs.take k ++ [(x1, x2)]) (hy : ys.take (k + 1) = ys.take k ++ [(y1, y2)]) (h0 : xs.take k = ys.take k) (h1 : (x1.toList == y1.toList) = true) (h2 : (x2.toList == y2.toList) = true) : xs.take (k + 1) = ys.take (k + 1) := by
  rw [ba_beq, decide_eq_true_eq] at h1 h2
  have e1 : x1 = y1 := by rw [← mk_eq x1, h1, mk_eq]
  have e2 : x2 = y2 := by rw [← mk_eq x2, h2, mk_eq]
  rw [hx, hy, h0, e1, e2]

end Go.Proofs.YtlkneapidmdpbaaGreatDoor

namespace Go.Proofs.YtlkneapidmdpbaaGreatDoor
open Go.RowKit

theorem SRow.up {w : World} {B B' : Nat} {A : Option Addr} {xs : List ByteArray} (h : SRow w B A xs) (hb : B ≤ B') : SRow w B' A xs := by
  intro j x hj
  obtain ⟨ad, e, hB, hc⟩ := h j x hj
  exact ⟨ad, e, by omega, hc⟩
theorem sown_block {w : World} {base g n cap : Nat} {l : List Tx} (h : sown w base (.slice (some ⟨g, 0, none⟩) n cap) l) : ∃ cur : List Value, w.heap[g]? = some (.cells cur.toArray 9 (0, 0)) ∧ cur.length = cap ∧ cur.take l.length = l.map sv ∧ base ≤ g ∧ n = l.length ∧ n ≤ cap ∧ cap ≤ maxLen := by
  rcases h.2 with ⟨h', _⟩ | ⟨g', cap', cur, h', hb, hg, hnc, hcm, hcs, htake⟩
  · simp at h'
  · simp only [Value.slice.injEq, Option.some.injEq, Addr.mk.injEq, and_true] at h'
    obtain ⟨rfl, rfl, rfl⟩ := h'
    exact ⟨cur.toList, by simpa using hg, by simpa using hcs, by simpa using htake, hb, rfl, hnc, hcm⟩
theorem sown_src {w : World} {base g cap m : Nat} {l : List Tx} (h : sown w base (.slice (some ⟨g, 0, none⟩) (l.length + 1) cap) (l ++ [[]])) : ∀ j v, ((l.drop m).map sv)[j]? = some v → w.cell? ⟨g, m + j, none⟩ = some v := by
  intro j v hj
  rw [List.getElem?_map, List.getElem?_drop] at hj
  cases hx : l[m + j]? with
  | none => rw [hx] at hj; cases hj
  | some y =>
    obtain ⟨hjl, hy⟩ := List.getElem?_eq_some_iff.1 hx
    have h1 := (sown_slot h (by simp) (m + j) (by simp; omega)).1
    rw [hx] at hj
    obtain rfl : sv y = v := by simpa using hj
    rw [h1, List.getElem_append_left hjl, hy]
    rfl
theorem add_off (g m j : Nat) : (⟨g, m, none⟩ : Addr).add j = ⟨g, m + j, none⟩ := by
  unfold Addr.add; split
  · subst_vars; rfl
  · rfl
/-- the row behind the copy: what stood from m on has gone one place up -/
theorem sown_moved {w : World} {base g cap m : Nat} {l : List Tx} {cur : List Value} (hm : m ≤ l.length) (hl : cur.length = cap) (ht : cur.take (l.length + 1) = (l ++ [[]]).map sv) (hbg : base ≤ g) (hc : l.length + 1 ≤ cap) (hcm : cap ≤ maxLen)
    (hg : w.heap[g]? = some (.cells (splice cur (m + 1) ((l.drop m).map sv)).toArray 9 (0, 0))) :
    sown w base (.slice (some ⟨g, 0, none⟩) (l.length + 1) cap) ((l ++ [[]]).take (m + 1) ++ l.drop m) := by
  have hlen : ((l ++ [[]]).take (m + 1) ++ l.drop m).length = l.length + 1 := by simp; omega
  refine ⟨by simp, .inr ⟨g, cap, (splice cur (m + 1) ((l.drop m).map sv)).toArray, by rw [hlen], hbg, hg, by omega, hcm, ?_, ?_⟩⟩
  · rw [List.size_toArray, length_splice _ _ _ (by simp; omega)]; omega
  · rw [hlen, Nat.mul_one]
    unfold splice
    show List.take (l.length + 1) (cur.take (m + 1) ++ ((l.drop m).map sv ++ cur.drop (m + 1 + ((l.drop m).map sv).length))) = _
    have e1 : cur.take (m + 1) = ((l ++ [[]]).take (m + 1)).map sv := by
      have := congrArg (List.take (m + 1)) ht
      rw [List.take_take, Nat.min_eq_left (by omega)] at this
      rw [this, List.map_take]
    have e2 : (cur.take (m + 1) ++ (l.drop m).map sv).length = l.length + 1 := by simp; omega
    rw [← List.append_assoc, List.take_append_of_le_length (by omega), List.take_of_length_le (by omega), e1, List.map_append]
theorem rise_set (l : List Tx) (m : Nat) (x : Tx) (hm : m ≤ l.length) : ((l ++ [[]]).take (m + 1) ++ l.drop m).set m x = l.take m ++ x :: l.drop m := by
  have h1 : (l ++ [[]]).take (m + 1) = l.take m ++ [(l ++ [[]])[m]'(by simp; omega)] := by
    rw [List.take_succ_eq_append_getElem (by simp; omega), List.take_append_of_le_length hm]
  rw [h1, List.append_assoc, List.set_append_right _ _ (by simp; omega)]
  have : m - (l.take m).length = 0 := by simp; omega
  rw [this]; rfl
theorem dat_take (xs : List ByteArray) (k : Nat) (h : k < xs.length) : dat (xs.take (k + 1)) = dat (xs.take k) ++ [xs[k].data.toList] := by
  rw [List.take_succ_eq_append_getElem h, dat_snoc]

set_option maxRecDepth 100000 in
set_option maxHeartbeats 4000000 in
theorem refRising_any (A : Option Addr) (len c B : Nat) (xs : List ByteArray) (w : World) (hlen : len = xs.length) (hB : B ≤ w.heap.size) (hx : SRow w B A xs) (hl : xs.length ≤ 1000) :
    Calls Tryz.prog 143 #[.slice A len c] w fun e w' => ∃ v, e = .returned v ∧ sown w' w.heap.size v (risL (dat xs)) ∧ Below w.heap.size w w' := by
  subst hlen
  have HX : Hid (SRow w w.heap.size A xs) := hx.up hB
  clear hx
  obtain ⟨i0, hi, hz0, hz1, hz2⟩ := info_parts infoS
  go_enter Tryz.func143, Tryz.ntmps143
  go_wp2_with fail
  go_loopw [3, 4] (fun v i wr => ∃ (k : Nat) (dl : List Tx), k ≤ xs.length ∧ i = .int .i64 k ∧ dl = risL (dat (xs.take k)) ∧ sown wr w.heap.size v dl ∧ Below w.heap.size w wr) (fun _ i _ => xs.length - (intOf i).toNat)
  case atStart => exact ⟨0, [], Nat.zero_le _, rfl, rfl, World.ownsRow_nil _ _ _ _, Below.refl _ _⟩
  case round =>
    obtain ⟨k, dl, hk, rfl, hdl, hr, hb⟩ := hrel
    have hdk : dl.length ≤ k := by
      rw [hdl]
      have := ris_len (dat (xs.take k))
      rw [dat_len, List.length_take] at this; omega
    have HDL := Lib.hid hdl
    have HRR := Lib.hid hr
    have HBB := Lib.hid hb
    clear hr hb hdl
    obtain ⟨W0, hW0⟩ : ∃ W0, W0 = wr := ⟨_, rfl⟩
    rw [← hW0] at HRR HBB
    by_cases hlt : k < xs.length
    · obtain ⟨ad, hA, _, hc⟩ := (HX.out.below HBB.out) k xs[k] (List.getElem?_eq_getElem hlt)
      have HSN := Lib.hid (dat_take xs k hlt)
      have HXC : Hid (∀ W, Below w.heap.size w W → W.cell? (ad.add k) = some (.string xs[k])) := by
        intro W hW
        obtain ⟨ad', hA', _, hc'⟩ := (HX.out.below hW) k xs[k] (List.getElem?_eq_getElem hlt)
        rw [hA] at hA'
        obtain rfl : ad = ad' := by simpa using hA'
        exact hc'
      generalize xs[k] = x at *
      subst hA
      obtain ⟨Ao, co, hv, hlc, hsr⟩ := trow_of HRR.out
      subst hv
      have HSR := Lib.hid hsr
      clear hsr hc
      go_wp2_with fail
      go_loopw [5] (fun j wr2 => ∃ m q : Nat, m ≤ dl.length ∧ j = .int .i64 m ∧ wr2 = W0.drewN q ∧ ∀ p (h : p < dl.length), p < m → dl[p] < x.data.toList) (fun j _ => dl.length - (intOf j).toNat)
      case atStart => exact ⟨0, 0, Nat.zero_le _, rfl, hW0.symm, fun p _ h => absurd h (Nat.not_lt_zero p)⟩
      case round =>
        obtain ⟨m, q, hm, rfl, hw2, hless⟩ := hrel
        have HLS := Lib.hid hless
        have HW2 := Lib.hid hw2
        clear hless hw2 hW0
        by_cases hml : m < dl.length
        · have hxc : wr.cell? (ad.add k) = some (.string x) := by rw [HW2.out]; exact HXC.out W0 HBB.out
          obtain ⟨a2, hAo, _, hc2⟩ := HSR.out m (mk dl[m]) (by simp [hml])
          have hyc : wr.cell? (a2.add m) = some (.string (mk dl[m])) := by rw [HW2.out]; exact hc2
          have HY : Hid ((mk dl[m]).data.toList = dl[m]) := mk_data _
          have HLM : Hid ((∀ p (h : p < dl.length), p < m + 1 → dl[p] < x.data.toList) ↔ dl[m] < x.data.toList) := by
            constructor
            · intro h; exact h m hml (by omega)
            · intro h p hp hpm
              rcases (by omega : p < m ∨ p = m) with h1 | rfl
              · exact HLS.out p hp h1
              · exact h
          have HTH : Hid (dl[m] = x.data.toList → insU dl x.data.toList = dl) := fun e => ins_there hml HLS.out e
          have HNW : Hid (¬ dl[m] < x.data.toList → dl[m] ≠ x.data.toList → insU dl x.data.toList = dl.take m ++ x.data.toList :: dl.drop m) := fun h1 h2 => ins_new hm HLS.out (fun _ => ⟨h1, h2⟩)
          generalize mk dl[m] = y at *
          generalize dl[m] = ym at *
          subst hAo
          have hml2 : ((m : Int) < (dl.length : Int)) := by omega
          have hkl2 : ((k : Int) < (xs.length : Int)) := by omega
          cases hls : Op.bytesLess y.toList x.toList
          · have HNL : Hid (¬ ym < x.data.toList) := by
              show ¬ _
              rw [bytesLess_eq, ByteArray.toList_eq, ByteArray.toList_eq, HY.out] at hls
              exact of_decide_eq_false hls
            cases heq : y.toList == x.toList
            · have HNE : Hid (ym ≠ x.data.toList) := by
                show _ ≠ _
                rw [ByteArray.toList_eq, ByteArray.toList_eq, HY.out, beq_eq_false_iff_ne] at heq
                exact heq
              have HINS := Lib.hid (HNW.out HNL.out HNE.out)
              go_wp2_with fail
              go_quiet (fail)
              go_wp2_with fail
              obtain ⟨wq, hwq⟩ : ∃ wq, wq = wr.drewN nq := ⟨_, rfl⟩
              have hxc2 : wq.cell? (ad.add k) = some (.string x) := by rw [hwq]; exact hxc
              have hyc2 : wq.cell? (a2.add m) = some (.string y) := by rw [hwq]; exact hyc
              have HWQ : Hid (∃ n, wq = W0.drewN n) := by rw [hwq, HW2.out, World.drewN_drewN]; exact ⟨_, rfl⟩
              rw [← hwq]
              clear hwq hxc hyc
              go_quiet (fail)
              obtain ⟨W1, hW1⟩ : ∃ W1, W1 = wq.drewN nq := ⟨_, rfl⟩
              rw [← hW1]
              have HW1 : Hid (∃ n, W1 = W0.drewN n) := by obtain ⟨n, hn⟩ := HWQ.out; rw [hW1, hn, World.drewN_drewN]; exact ⟨_, rfl⟩
              clear hW1 hxc2 hyc2
              obtain ⟨n1, hn1⟩ := HW1.out
              have HR1 : Hid (sown W1 w.heap.size (.slice (some a2) dl.length co) dl) := by rw [hn1]; exact ownsRow_drewN HRR.out n1
              have HB1 : Hid (Below w.heap.size w W1) := by rw [hn1]; exact below_drewN HBB.out n1
              clear hn1
              go_wp2_with (at_builtin; refine wpList_append_own _ rfl (.tmp 44) (.tmp 45) 26 rfl w.heap.size 9 i0 (.string ⟨#[]⟩) 1 16 Tryz.underlying26 hi hz0 hz1 hz2 rfl (by decide) _ _ _ rfl (World.ownsRow.alloc (w := W1) HR1.out _) ⟨W1.heap.size, 0, none⟩ 1 1 [.string ⟨#[]⟩] rfl rfl ?cx1 ?cx2 ?cx3 ?cx4 ?cx5 ?_)
              case cx1 => exact cell_one_new _ _ _
              case cx2 => intro u hu; simp at hu; subst hu; rfl
              case cx3 => unfold maxLen; omega
              case cx4 => omega
              case cx5 => have := HB1.out.size; simp; omega
              intro v' w3 hown' hgrow _
              have hr3 : sown w3 w.heap.size v' (dl ++ [[]]) := by
                unfold sown; rw [List.length_append, List.map_append]; exact hown'
              have HB3 : Hid (Below w.heap.size w w3) := (HB1.out.alloc HB1.out.size _).grown hgrow (by have := HB1.out.size; simp; omega) (fun b hb => (HR1.out.lt b hb).1)
              clear hown' hgrow
              rcases sown_form hr3 with ⟨_, hn⟩ | ⟨g, cap, hv, hgb, _, hlc3⟩
              · simp at hn
              simp only [List.length_append, List.length_cons, List.length_nil, Nat.zero_add] at hv hlc3
              subst hv
              obtain ⟨cur, hcur, hcl, hct, k1, k2, k3, hcm⟩ := sown_block hr3
              clear k1 k2 k3
              simp only [List.length_append, List.length_cons, List.length_nil, Nat.zero_add] at hct
              obtain ⟨cs, hcs⟩ : ∃ cs, cs = (dl.drop m).map sv := ⟨_, rfl⟩
              have hcsl : cs.length = dl.length - m := by rw [hcs]; simp
              have HSRC : Hid (∀ j v, cs[j]? = some v → w3.cell? ⟨g, m + j, none⟩ = some v) := by rw [hcs]; exact sown_src hr3
              have HONE : Hid (∀ v ∈ cs, v.oneCell' = true) := by
                intro v hv
                rw [hcs] at hv
                obtain ⟨y0, _, rfl⟩ := List.mem_map.1 hv
                rfl
              have HCUR := Lib.hid hcur
              have HCT := Lib.hid hct
              have HCS := Lib.hid hcs
              have HCL := Lib.hid hcl
              have HCSL := Lib.hid hcsl
              clear hcur hct hcs hr3 hcl hcsl
              go_wp2_with fail
              refine mix_start (fun _ => True) (by kernel_rfl) ?_
              have hne : Nonempty (Held (fun _ : World => True)) := ⟨⟨w3, trivial⟩⟩
              by_cases hcap : m + 1 < cap
              · refine mix_seg [0, 1, 2, 3, 4, 5, 6] (by kernel_rfl) trivial ?_
                simp only [segOf, pickOps, pickOp]
                repeat (go_big_quiet_step (fail))
                refine wpQuiet_nil ?_
                refine mix_run 7 (by kernel_rfl) ?_
                simp only [segOf, pickOps, pickOp]
                refine wpList_copy_splice rfl (.tmp 50) (.tmp 53) 26 26 rfl 9 Tryz.underlying26 (by kernel_rfl) _ _ _ _ _ _ rfl rfl g (m + 1) cur 9 HCUR.out cs ?gx2a ?gx3a (by have h8 := HCL.out; have h9 := HCSL.out; first | omega | (rw [h9]; simp; omega) | (rw [h9, h8]; simp)) HONE.out w.heap.size w HB3.out.drew hgb ?_
                case gx2a =>
                  have h9 := HCSL.out
                  first
                    | (rw [h9]; exact (Nat.min_eq_right (by omega)).symm)
                    | (rw [h9]; rfl)
                    | (simp at h9; rw [h9]; rfl)
                case gx3a =>
                  intro hpos
                  first
                    | exact ⟨rfl, _, rfl, fun j v hj => by rw [add_off]; exact HSRC.out j v hj⟩
                    | (exfalso; have h9 := HCSL.out; rw [h9] at hpos; simp at hpos)
                intro w4 hg4 hb4
                rw [HCS.out] at hg4
                have hr4 := sown_moved (w := w4) (m := m) (by omega) HCL.out HCT.out hgb hlc3 hcm hg4.out
                have HB4 := Lib.hid hb4
                have hxc4 := HXC.out w4 hb4
                obtain ⟨s1, s2⟩ := sown_slot hr4 (by simp <;> omega) m (by simp <;> omega)
                have hset := sown_set hr4 (by simp <;> omega) m x
                rw [rise_set dl m x.data.toList (by omega), ← HINS.out] at hset
                have HSET := Lib.hid hset
                have HNB : Hid (Below w.heap.size w (w4.setCell ⟨g, m, none⟩ (.string x))) := HB4.out.setCell (p := ⟨g, m, none⟩) hgb _
                generalize mk (((dl ++ [[]]).take (m + 1) ++ dl.drop m)[m]'(by simp <;> omega)) = o1 at *
                clear hr4 hg4 hb4 hset
                go_wp2_with fail
                refine MixPost.normal trivial ?_
                refine mix_done (by kernel_rfl) ?_
                go_wp2
                go_roundw
                case rel => exact ⟨k + 1, insU dl x.data.toList, by omega, by go_num, by rw [HSN.out, ris_snoc, ← HDL.out], HSET.out, HNB.out⟩
                case measure => simp [intOf]; omega
              · exfalso; omega
            · have HEQ : Hid (ym = x.data.toList) := by
                show _ = _
                rw [ByteArray.toList_eq, ByteArray.toList_eq, HY.out, beq_iff_eq] at heq
                exact heq
              have HINS := Lib.hid (HTH.out HEQ.out)
              go_wp2_with fail
              go_quiet (fail)
              go_wp2_with fail
              obtain ⟨wq, hwq⟩ : ∃ wq, wq = wr.drewN nq := ⟨_, rfl⟩
              have hxc2 : wq.cell? (ad.add k) = some (.string x) := by rw [hwq]; exact hxc
              have hyc2 : wq.cell? (a2.add m) = some (.string y) := by rw [hwq]; exact hyc
              have HWQ : Hid (∃ n, wq = W0.drewN n) := by rw [hwq, HW2.out, World.drewN_drewN]; exact ⟨_, rfl⟩
              rw [← hwq]
              clear hwq hxc hyc
              go_quiet (fail)
              obtain ⟨W1, hW1⟩ : ∃ W1, W1 = wq.drewN nq := ⟨_, rfl⟩
              rw [← hW1]
              have HW1 : Hid (∃ n, W1 = W0.drewN n) := by obtain ⟨n, hn⟩ := HWQ.out; rw [hW1, hn, World.drewN_drewN]; exact ⟨_, rfl⟩
              clear hW1 hxc2 hyc2
              go_wp2
              go_roundw
              case rel =>
                obtain ⟨n, hn⟩ := HW1.out
                exact ⟨k + 1, dl, by omega, by go_num, by rw [HSN.out, ris_snoc, ← HDL.out, HINS.out], by rw [hn]; exact ownsRow_drewN HRR.out n, by rw [hn]; exact below_drewN HBB.out n⟩
              case measure => simp [intOf]; omega
          · have HL : Hid (ym < x.data.toList) := by
              show _ < _
              rw [bytesLess_eq, ByteArray.toList_eq, ByteArray.toList_eq, HY.out] at hls
              exact of_decide_eq_true hls
            go_wp2_with fail
            go_quiet (fail)
            go_wp2
            go_roundw
            case rel => exact ⟨m + 1, _, by omega, by go_num, by rw [HW2.out, World.drewN_drewN], HLM.out.2 HL.out⟩
            case measure => simp [intOf]; omega
        · obtain rfl : m = dl.length := by omega
          have HINS : Hid (insU dl x.data.toList = dl.take dl.length ++ x.data.toList :: dl.drop dl.length) := ins_new (Nat.le_refl _) HLS.out (fun h => absurd h (Nat.lt_irrefl _))
          go_wp2_with fail
          go_quiet (fail)
          go_wp2_with fail
          obtain ⟨wq, hwq⟩ : ∃ wq, wq = wr.drewN nq := ⟨_, rfl⟩
          have HWQ : Hid (∃ n, wq = W0.drewN n) := by rw [hwq, HW2.out, World.drewN_drewN]; exact ⟨_, rfl⟩
          rw [← hwq]
          clear hwq
          go_quiet (fail)
          obtain ⟨W1, hW1⟩ : ∃ W1, W1 = wq.drewN nq := ⟨_, rfl⟩
          rw [← hW1]
          have HW1 : Hid (∃ n, W1 = W0.drewN n) := by obtain ⟨n, hn⟩ := HWQ.out; rw [hW1, hn, World.drewN_drewN]; exact ⟨_, rfl⟩
          clear hW1
          obtain ⟨n1, hn1⟩ := HW1.out
          have HR1 : Hid (sown W1 w.heap.size (.slice Ao dl.length co) dl) := by rw [hn1]; exact ownsRow_drewN HRR.out n1
          have HB1 : Hid (Below w.heap.size w W1) := by rw [hn1]; exact below_drewN HBB.out n1
          clear hn1
          go_wp2_with (at_builtin; refine wpList_append_own _ rfl (.tmp 44) (.tmp 45) 26 rfl w.heap.size 9 i0 (.string ⟨#[]⟩) 1 16 Tryz.underlying26 hi hz0 hz1 hz2 rfl (by decide) _ _ _ rfl (World.ownsRow.alloc (w := W1) HR1.out _) ⟨W1.heap.size, 0, none⟩ 1 1 [.string ⟨#[]⟩] rfl rfl ?cy1 ?cy2 ?cy3 ?cy4 ?cy5 ?_)
          case cy1 => exact cell_one_new _ _ _
          case cy2 => intro u hu; simp at hu; subst hu; rfl
          case cy3 => unfold maxLen; omega
          case cy4 => omega
          case cy5 => have := HB1.out.size; simp; omega
          intro v' w3 hown' hgrow _
          have hr3 : sown w3 w.heap.size v' (dl ++ [[]]) := by
            unfold sown; rw [List.length_append, List.map_append]; exact hown'
          have HB3 : Hid (Below w.heap.size w w3) := (HB1.out.alloc HB1.out.size _).grown hgrow (by have := HB1.out.size; simp; omega) (fun b hb => (HR1.out.lt b hb).1)
          clear hown' hgrow
          rcases sown_form hr3 with ⟨_, hn⟩ | ⟨g, cap, hv, hgb, _, hlc3⟩
          · simp at hn
          simp only [List.length_append, List.length_cons, List.length_nil, Nat.zero_add] at hv hlc3
          subst hv
          obtain ⟨cur, hcur, hcl, hct, k1, k2, k3, hcm⟩ := sown_block hr3
          clear k1 k2 k3
          simp only [List.length_append, List.length_cons, List.length_nil, Nat.zero_add] at hct
          obtain ⟨cs, hcs⟩ : ∃ cs, cs = (dl.drop dl.length).map sv := ⟨_, rfl⟩
          have hcsl : cs.length = dl.length - dl.length := by rw [hcs]; simp
          have HSRC : Hid (∀ j v, cs[j]? = some v → w3.cell? ⟨g, dl.length + j, none⟩ = some v) := by rw [hcs]; exact sown_src hr3
          have HONE : Hid (∀ v ∈ cs, v.oneCell' = true) := by
            intro v hv
            rw [hcs] at hv
            obtain ⟨y0, _, rfl⟩ := List.mem_map.1 hv
            rfl
          have HCUR := Lib.hid hcur
          have HCT := Lib.hid hct
          have HCS := Lib.hid hcs
          have HCL := Lib.hid hcl
          have HCSL := Lib.hid hcsl
          clear hcur hct hcs hr3 hcl hcsl
          go_wp2_with fail
          refine mix_start (fun _ => True) (by kernel_rfl) ?_
          have hne : Nonempty (Held (fun _ : World => True)) := ⟨⟨w3, trivial⟩⟩
          by_cases hcap : dl.length + 1 < cap
          · refine mix_seg [0, 1, 2, 3, 4, 5, 6] (by kernel_rfl) trivial ?_
            simp only [segOf, pickOps, pickOp]
            repeat (go_big_quiet_step (fail))
            refine wpQuiet_nil ?_
            refine mix_run 7 (by kernel_rfl) ?_
            simp only [segOf, pickOps, pickOp]
            refine wpList_copy_splice rfl (.tmp 50) (.tmp 53) 26 26 rfl 9 Tryz.underlying26 (by kernel_rfl) _ _ _ _ _ _ rfl rfl g (dl.length + 1) cur 9 HCUR.out cs ?gy2a ?gy3a (by have h8 := HCL.out; have h9 := HCSL.out; first | omega | (rw [h9]; simp; omega) | (rw [h9, h8]; simp)) HONE.out w.heap.size w HB3.out.drew hgb ?_
            case gy2a =>
              have h9 := HCSL.out
              first
                | (rw [h9]; exact (Nat.min_eq_right (by omega)).symm)
                | (rw [h9]; rfl)
                | (simp at h9; rw [h9]; rfl)
            case gy3a =>
              intro hpos
              first
                | exact ⟨rfl, _, rfl, fun j v hj => by rw [add_off]; exact HSRC.out j v hj⟩
                | (exfalso; have h9 := HCSL.out; rw [h9] at hpos; simp at hpos)
            intro w4 hg4 hb4
            rw [HCS.out] at hg4
            have hr4 := sown_moved (w := w4) (m := dl.length) (by omega) HCL.out HCT.out hgb hlc3 hcm hg4.out
            have HB4 := Lib.hid hb4
            have hxc4 := HXC.out w4 hb4
            obtain ⟨s1, s2⟩ := sown_slot hr4 (by simp <;> omega) dl.length (by simp <;> omega)
            have hset := sown_set hr4 (by simp <;> omega) dl.length x
            rw [rise_set dl dl.length x.data.toList (by omega), ← HINS.out] at hset
            have HSET := Lib.hid hset
            have HNB : Hid (Below w.heap.size w (w4.setCell ⟨g, dl.length, none⟩ (.string x))) := HB4.out.setCell (p := ⟨g, dl.length, none⟩) hgb _
            generalize mk (((dl ++ [[]]).take (dl.length + 1) ++ dl.drop dl.length)[dl.length]'(by simp <;> omega)) = o1 at *
            clear hr4 hg4 hb4 hset
            go_wp2_with fail
            refine MixPost.normal trivial ?_
            refine mix_done (by kernel_rfl) ?_
            go_wp2
            go_roundw
            case rel => exact ⟨k + 1, insU dl x.data.toList, by omega, by go_num, by rw [HSN.out, ris_snoc, ← HDL.out], HSET.out, HNB.out⟩
            case measure => simp [intOf]; omega
          · obtain rfl : cap = dl.length + 1 := by omega
            refine mix_seg [0, 1, 2, 3, 4, 5, 6] (by kernel_rfl) trivial ?_
            simp only [segOf, pickOps, pickOp]
            repeat (go_big_quiet_step (fail))
            refine wpQuiet_nil ?_
            refine mix_run 7 (by kernel_rfl) ?_
            simp only [segOf, pickOps, pickOp]
            refine wpList_copy_splice rfl (.tmp 50) (.tmp 53) 26 26 rfl 9 Tryz.underlying26 (by kernel_rfl) _ _ _ _ _ _ rfl rfl g (dl.length + 1) cur 9 HCUR.out cs ?gy2b ?gy3b (by have h8 := HCL.out; have h9 := HCSL.out; first | omega | (rw [h9]; simp; omega) | (rw [h9, h8]; simp)) HONE.out w.heap.size w HB3.out.drew hgb ?_
            case gy2b =>
              have h9 := HCSL.out
              first
                | (rw [h9]; exact (Nat.min_eq_right (by omega)).symm)
                | (rw [h9]; rfl)
                | (simp at h9; rw [h9]; rfl)
            case gy3b =>
              intro hpos
              first
                | exact ⟨rfl, _, rfl, fun j v hj => by rw [add_off]; exact HSRC.out j v hj⟩
                | (exfalso; have h9 := HCSL.out; rw [h9] at hpos; simp at hpos)
            intro w4 hg4 hb4
            rw [HCS.out] at hg4
            have hr4 := sown_moved (w := w4) (m := dl.length) (by omega) HCL.out HCT.out hgb hlc3 hcm hg4.out
            have HB4 := Lib.hid hb4
            have hxc4 := HXC.out w4 hb4
            obtain ⟨s1, s2⟩ := sown_slot hr4 (by simp <;> omega) dl.length (by simp <;> omega)
            have hset := sown_set hr4 (by simp <;> omega) dl.length x
            rw [rise_set dl dl.length x.data.toList (by omega), ← HINS.out] at hset
            have HSET := Lib.hid hset
            have HNB : Hid (Below w.heap.size w (w4.setCell ⟨g, dl.length, none⟩ (.string x))) := HB4.out.setCell (p := ⟨g, dl.length, none⟩) hgb _
            generalize mk (((dl ++ [[]]).take (dl.length + 1) ++ dl.drop dl.length)[dl.length]'(by simp <;> omega)) = o1 at *
            clear hr4 hg4 hb4 hset
            go_wp2_with fail
            refine MixPost.normal trivial ?_
            refine mix_done (by kernel_rfl) ?_
            go_wp2
            go_roundw
            case rel => exact ⟨k + 1, insU dl x.data.toList, by omega, by go_num, by rw [HSN.out, ris_snoc, ← HDL.out], HSET.out, HNB.out⟩
            case measure => simp [intOf]; omega
    · obtain rfl : k = xs.length := by omega
      go_wp2
      go_ret
      refine ⟨_, rfl, ?_, ?_⟩
      · have h := HDL.out
        rw [List.take_length] at h
        rw [← h, ← hW0]
        exact HRR.out
      · rw [← hW0]; exact HBB.out
end Go.Proofs.YtlkneapidmdpbaaGreatDoor

namespace Go.Proofs.YtlkneapidmdpbaaGreatDoor
open Go.RowKit

end Go.Proofs.YtlkneapidmdpbaaGreatDoor
