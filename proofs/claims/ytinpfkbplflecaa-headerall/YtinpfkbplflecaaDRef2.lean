/-
  Contracts of the document's own answer of layer 6 (Check, Norm, Same), over this seat's program, by the same plain mathematics as header's. Conditions: at most a thousand headers, each text of at most 100,000 bytes.
-/
import Derived.Test.YtinpfkbplflecaaDRef
namespace Go.Proofs.Ytinpfkbplflecaa
open Go.RowKit

theorem okH_eq (x1 x2 : ByteArray) (t : List UInt8) (ht : t = Lk.trimL x2.data.toList) : okH (hd (x1, x2)) = (decide (x1.size ≤ 64) && Lk.tokL x1.data.toList && (decide (t.length ≤ 4096) && !(Lk.inL 0 t || Lk.inL 10 t || Lk.inL 13 t))) := by
  unfold okH nameOk valOk badB
  rw [ht]; rfl
theorem chk_bad {xs : List (ByteArray × ByteArray)} {x : ByteArray × ByteArray} (h32 : ¬ 32 < xs.length) (hm : x ∈ xs) (h : okH (hd x) = false) : checkH (xs.map hd) = 6 := by
  unfold checkH
  rw [if_neg (by simpa using h32), if_neg]
  intro hall
  have := List.all_eq_true.1 hall _ (List.mem_map_of_mem hm)
  rw [h] at this; cases this

set_option maxHeartbeats 2000000 in
theorem refCheck_any (A : Option Addr) (len c B : Nat) (xs : List (ByteArray × ByteArray)) (w : World) (hlen : len = xs.length) (hx : PRow w B A xs) (hsm : Sm (xs.map hd)) :
    Calls Try.prog 16 #[.slice A len c] w fun e w' => e = .returned (.int .i64 (checkH (xs.map hd))) ∧ w = w' := by
  subst hlen
  obtain ⟨hl, hs⟩ := hsm.sizes
  have HX := Lib.hid hx
  have HS := Lib.hid hs
  clear hx hs hsm
  by_cases h32 : 32 < xs.length
  · have HE : Hid (checkH (xs.map hd) = 4) := by show _ = _; unfold checkH; rw [if_pos (by simpa using h32)]
    go_enter Try.func16, Try.ntmps16
    go_wp2
    go_ret
    exact ⟨ret_int HE.out.symm, rfl⟩
  have H32 := Lib.hid h32
  go_enter Try.func16, Try.ntmps16
  go_wp2_with fail
  go_loop [3, 4] (fun i _ => ∃ k : Nat, k ≤ xs.length ∧ i = .int .i64 k ∧ (((xs.take k).map hd).all okH = true)) (fun i _ => xs.length - (intOf i).toNat)
  case atStart => exact ⟨0, Nat.zero_le _, rfl, rfl⟩
  case round =>
    obtain ⟨k, hk, rfl, hall⟩ := hrel
    have HAL := Lib.hid hall
    clear hall
    by_cases hlt : k < xs.length
    · obtain ⟨ad, hA, _, hc1, hc2⟩ := HX.out k xs[k] (List.getElem?_eq_getElem hlt)
      have hz := HS.out xs[k] (List.getElem_mem hlt)
      have HD : Hid (xs.take (k + 1) = xs.take k ++ [xs[k]]) := List.take_succ_eq_append_getElem hlt
      have HM : Hid (xs[k] ∈ xs) := List.getElem_mem hlt
      generalize xs[k] = x at *
      obtain ⟨x1, x2⟩ := x
      subst hA
      obtain ⟨t, ht⟩ : ∃ t : ByteArray, t = ⟨(Lk.trimL x2.data.toList).toArray⟩ := ⟨_, rfl⟩
      have HOK : Hid (okH (hd (x1, x2)) = (decide (x1.size ≤ 64) && Lk.tokL x1.data.toList && (decide (t.size ≤ 4096) && !(Lk.inL 0 t.data.toList || Lk.inL 10 t.data.toList || Lk.inL 13 t.data.toList)))) := okH_eq x1 x2 t.data.toList (by rw [ht])
      have htz : t.size ≤ 100000 := by
        have h1 : t.size = (Lk.trimL x2.data.toList).length := by rw [ht]; show (Lk.trimL x2.data.toList).toArray.size = _; simp
        have h2 := Lk.trim_len x2.data.toList
        have h3 : x2.data.toList.length = x2.size := by simp
        have h4 : x2.size ≤ 100000 := hz.2
        omega
      have HT := Lib.hid ht
      clear ht
      go_wp2_with fail
      refine (refTrim_as x2 t _ (by unfold maxLen; omega) HT.out).mono ?_
      rintro e w' ⟨rfl, rfl⟩
      by_cases h1 : 64 < x1.size
      · go_wp2
        go_ret
        exact ⟨ret_int (chk_bad H32.out HM.out (by rw [HOK.out]; simp [show ¬ x1.size ≤ 64 by omega])).symm, rfl⟩
      have h1' : ¬ ((64 : Int) < (x1.size : Int)) := by omega
      have g1 : x1.size ≤ 64 := by omega
      go_wp2_with fail
      refine (refToken_any x1 _ (by unfold maxLen; omega)).mono ?_
      rintro e w' ⟨rfl, rfl⟩
      cases h2 : Lk.tokL x1.data.toList
      · have H2 := Lib.hid h2
        clear h2
        go_wp2
        go_ret
        exact ⟨ret_int (chk_bad H32.out HM.out (by rw [HOK.out]; simp [H2.out])).symm, rfl⟩
      have H2 := Lib.hid h2
      clear h2
      by_cases h3 : 4096 < t.size
      · go_wp2
        go_ret
        exact ⟨ret_int (chk_bad H32.out HM.out (by rw [HOK.out]; simp [show ¬ t.size ≤ 4096 by omega])).symm, rfl⟩
      have h3' : ¬ ((4096 : Int) < (t.size : Int)) := by omega
      have g3 : t.size ≤ 4096 := by omega
      go_wp2_with fail
      refine (In_any 0 t _ (by unfold maxLen; omega)).mono ?_
      rintro e w' ⟨rfl, rfl⟩
      cases q0 : Lk.inL 0 t.data.toList
      case true =>
        have Q0 := Lib.hid q0
        clear q0
        go_wp2
        go_ret
        exact ⟨ret_int (chk_bad H32.out HM.out (by rw [HOK.out]; simp [Q0.out])).symm, rfl⟩
      have Q0 := Lib.hid q0
      clear q0
      go_wp2_with fail
      refine (In_any 10 t _ (by unfold maxLen; omega)).mono ?_
      rintro e w' ⟨rfl, rfl⟩
      cases q10 : Lk.inL 10 t.data.toList
      case true =>
        have Q10 := Lib.hid q10
        clear q10
        go_wp2
        go_ret
        exact ⟨ret_int (chk_bad H32.out HM.out (by rw [HOK.out]; simp [Q10.out])).symm, rfl⟩
      have Q10 := Lib.hid q10
      clear q10
      go_wp2_with fail
      refine (In_any 13 t _ (by unfold maxLen; omega)).mono ?_
      rintro e w' ⟨rfl, rfl⟩
      cases q13 : Lk.inL 13 t.data.toList
      case true =>
        have Q13 := Lib.hid q13
        clear q13
        go_wp2
        go_ret
        exact ⟨ret_int (chk_bad H32.out HM.out (by rw [HOK.out]; simp [Q13.out])).symm, rfl⟩
      have Q13 := Lib.hid q13
      clear q13
      go_wp2
      go_round
      case rel =>
        refine ⟨k + 1, by omega, by go_num, ?_⟩
        rw [HD.out, List.map_append, List.all_append, HAL.out]
        simp [HOK.out, g1, g3, H2.out, Q0.out, Q10.out, Q13.out]
      case measure => simp [intOf]; omega
    · obtain rfl : k = xs.length := by omega
      have HE : Hid (checkH (xs.map hd) = 0) := by
        have h := HAL.out
        rw [List.take_length] at h
        show _ = _
        unfold checkH
        rw [if_neg (by simpa using H32.out), h]; rfl
      go_wp2
      go_ret
      exact ⟨ret_int HE.out.symm, rfl⟩

def CellsAt (W : World) (p q : Addr) (x1 x2 : ByteArray) : Prop := W.cell? p = some (.string x1) ∧ W.cell? q = some (.string x2)
theorem CellsAt.below {W W' : World} {p q : Addr} {x1 x2 : ByteArray} (h : CellsAt W p q x1 x2) (hb : Below W.heap.size W W') : CellsAt W' p q x1 x2 :=
  ⟨(hb.cell (block_of_cell h.1)).trans h.1, (hb.cell (block_of_cell h.2)).trans h.2⟩

set_option maxHeartbeats 2000000 in
theorem refNorm_any (A : Option Addr) (len c B : Nat) (xs : List (ByteArray × ByteArray)) (w : World) (hlen : len = xs.length) (hB : B ≤ w.heap.size) (hx : PRow w B A xs) (hsm : Sm (xs.map hd)) :
    Calls Try.prog 19 #[.slice A len c] w fun e w' => ∃ v, e = .returned v ∧ HdRow w' w.heap.size v (normL (xs.map hd)) ∧ Below w.heap.size w w' := by
  subst hlen
  obtain ⟨hl, hs⟩ := hsm.sizes
  have HX := Lib.hid hx
  have HS := Lib.hid hs
  clear hx hs hsm
  obtain ⟨i0, hi, hz0, hz1, hz2⟩ := info_parts infoH
  go_enter Try.func19, Try.ntmps19
  go_wp2_with fail
  go_loopw [3, 4] (fun v i wr => ∃ (k : Nat) (dl : List Hd), k ≤ xs.length ∧ i = .int .i64 k ∧ dl = normL ((xs.take k).map hd) ∧ wr.ownsRow w.heap.size 41 2 v dl.length (hcs dl) ∧ Below w.heap.size w wr) (fun _ i _ => xs.length - (intOf i).toNat)
  case atStart => exact ⟨0, [], Nat.zero_le _, rfl, rfl, World.ownsRow_nil _ _ _ _, Below.refl _ _⟩
  case round =>
    obtain ⟨k, dl, hk, rfl, hdl, hr, hb⟩ := hrel
    have hdk : dl.length ≤ k := by rw [hdl]; simp [normL]; omega
    have HDL := Lib.hid hdl
    have HRR := Lib.hid hr
    have HBB := Lib.hid hb
    clear hr hb hdl
    by_cases hlt : k < xs.length
    · obtain ⟨ad, hA, _, hc1, hc2⟩ := ((HX.out.mono hB).below HBB.out) k xs[k] (List.getElem?_eq_getElem hlt)
      have hz := HS.out xs[k] (List.getElem_mem hlt)
      have HD := Lib.hid (take_hd (List.take_succ_eq_append_getElem hlt))
      have HXK : Hid (xs[k]? = some xs[k]) := List.getElem?_eq_getElem hlt
      generalize hxk : xs[k] = x at *
      clear hxk
      obtain ⟨x1, x2⟩ := x
      subst hA
      have hF : CellsAt wr (ad.add (k * 2)) ⟨(ad.add (k * 2)).block, (ad.add (k * 2)).off + 1, none⟩ x1 x2 := ⟨hc1, hc2⟩
      clear hc1 hc2
      obtain ⟨a, ha⟩ : ∃ a : ByteArray, a = ⟨(Lk.lower x1.data.toList).toArray⟩ := ⟨_, rfl⟩
      obtain ⟨b, hb⟩ : ∃ b : ByteArray, b = ⟨(Lk.trimL x2.data.toList).toArray⟩ := ⟨_, rfl⟩
      have HLA := Lib.hid ha
      have HLB := Lib.hid hb
      have HNE : Hid (normL ((xs.take (k + 1)).map hd) = dl ++ [(a.data.toList, b.data.toList)]) := by
        show _ = _
        rw [HD.out, HDL.out, ha, hb]
        simp [normL, normH, hd]
      clear ha hb
      go_wp2_with fail
      refine mix_start (fun W => CellsAt W (ad.add (k * 2)) ⟨(ad.add (k * 2)).block, (ad.add (k * 2)).off + 1, none⟩ x1 x2) (by kernel_rfl) ?_
      have hne : Nonempty (Held (fun W => CellsAt W (ad.add (k * 2)) ⟨(ad.add (k * 2)).block, (ad.add (k * 2)).off + 1, none⟩ x1 x2)) := ⟨⟨_, hF⟩⟩
      have z0 : ∀ q : Held (fun W => CellsAt W (ad.add (k * 2)) ⟨(ad.add (k * 2)).block, (ad.add (k * 2)).off + 1, none⟩ x1 x2), q.w.cell? (ad.add (k * 2)) = some (.string x1) := fun q => q.h.1
      have z1 : ∀ q : Held (fun W => CellsAt W (ad.add (k * 2)) ⟨(ad.add (k * 2)).block, (ad.add (k * 2)).off + 1, none⟩ x1 x2), q.w.cell? ⟨(ad.add (k * 2)).block, (ad.add (k * 2)).off + 1, none⟩ = some (.string x2) := fun q => q.h.2
      have hlt2 : ((k : Int) < (xs.length : Int)) := by omega
      refine mix_seg [0, 1, 2, 3, 4, 5, 7, 8, 9, 10, 11] (by kernel_rfl) hF ?_
      simp only [segOf, pickOps, pickOp]
      repeat (go_big_quiet_step (fail))
      refine wpQuiet_nil ?_
      refine mix_run 6 (by kernel_rfl) ?_
      simp only [segOf, pickOps, pickOp]
      go_wp2_with fail
      refine (refLower_any x1 _ (by unfold maxLen; omega)).mono ?_
      rintro e w1 ⟨rfl, hb1⟩
      rw [← HLA.out]
      have hb1' : Below wr.heap.size wr w1 := (Below.refl _ _).drew.trans hb1
      have hF1 := hF.below hb1'
      have HR1 : Hid (w1.ownsRow w.heap.size 41 2 u3 dl.length (hcs dl)) := ownsRow_below HRR.out hb1'
      have HB1 : Hid (Below w.heap.size w w1) := HBB.out.trans (hb1'.mono HBB.out.size)
      clear hb1 hb1'
      go_wp2_with fail
      refine MixPost.normal hF1 ?_
      refine mix_run 12 (by kernel_rfl) ?_
      simp only [segOf, pickOps, pickOp]
      go_wp2_with fail
      refine (refTrim_as x2 b _ (by unfold maxLen; omega) HLB.out).mono ?_
      rintro e w' ⟨rfl, rfl⟩
      go_wp2_with fail
      refine MixPost.normal hF1 ?_
      refine mix_run 13 (by kernel_rfl) ?_
      simp only [segOf, pickOps, pickOp]
      go_wp2_with fail
      refine MixPost.normal hF1 ?_
      refine mix_run 14 (by kernel_rfl) ?_
      simp only [segOf, pickOps, pickOp]
      go_wp2_with fail
      refine MixPost.normal (hF1.below ((Below.refl _ _).alloc (Nat.le_refl _) _)) ?_
      refine mix_run 15 (by kernel_rfl) ?_
      simp only [segOf, pickOps, pickOp]
      go_wp2_with (at_builtin; refine wpList_append_own _ rfl (.tmp 11) (.tmp 25) 22 rfl w.heap.size 41 i0 (.agg #[.string ⟨#[]⟩, .string ⟨#[]⟩]) 2 32 Try.underlying22 hi hz0 hz1 hz2 rfl (by decide) _ _ _ rfl (World.ownsRow.alloc (w := w1) HR1.out _) ⟨w1.heap.size, 0, none⟩ 1 1 [.string a, .string b] rfl rfl ?c1 ?c2 ?c3 ?c4 ?c5 ?_)
      case c1 => exact cells_two_new _ _ _ _
      case c2 => intro u hu; simp at hu; rcases hu with rfl | rfl <;> rfl
      case c3 => unfold maxLen; omega
      case c4 => omega
      case c5 => have := HB1.out.size; simp; omega
      intro v' w3 hown' hgrow _
      have HR3 := Lib.hid hown'
      have HB3 : Hid (Below w.heap.size w w3) := (HB1.out.alloc HB1.out.size _).grown hgrow (by have := HB1.out.size; simp; omega) (fun b hb => (HR1.out.lt b hb).1)
      have hF3 : CellsAt w3 (ad.add (k * 2)) ⟨(ad.add (k * 2)).block, (ad.add (k * 2)).off + 1, none⟩ x1 x2 := by
        obtain ⟨ad', e', _, h1, h2⟩ := ((HX.out.mono hB).below HB3.out) k (x1, x2) HXK.out
        obtain rfl : ad = ad' := by simpa using e'
        exact ⟨h1, h2⟩
      clear hown' hgrow
      go_wp2_with fail
      refine MixPost.normal hF3 ?_
      refine mix_seg [16] (by kernel_rfl) hF3 ?_
      simp only [segOf, pickOps, pickOp]
      repeat (go_big_quiet_step (fail))
      refine wpQuiet_nil ?_
      refine mix_done (by kernel_rfl) ?_
      go_wp2
      go_roundw
      case rel => exact ⟨k + 1, dl ++ [(a.data.toList, b.data.toList)], by omega, by go_num, HNE.out.symm, HdRow.more HR3.out, HB3.out⟩
      case measure => simp [intOf]; omega
    · obtain rfl : k = xs.length := by omega
      go_wp2
      go_ret
      refine ⟨_, rfl, ?_, HBB.out⟩
      have h := HDL.out
      rw [List.take_length] at h
      rw [← h]
      exact HRR.out
end Go.Proofs.Ytinpfkbplflecaa
