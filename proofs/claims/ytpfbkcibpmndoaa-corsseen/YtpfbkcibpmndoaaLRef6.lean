/-
  Contracts of the document's own answer of layer 6 over this seat's program. Conditions: those of each statement.
-/
import Derived.Test.YtpfbkcibpmndoaaLHdr
import Derived.Test.YtpfbkcibpmndoaaLRef1
import Derived.Test.YtpfbkcibpmndoaaLJoin
import Derived.Laws.CopyOwn
import Derived.Sort.Walk0
namespace Go.Proofs.Ytpfbkcibpmndoaa
open Go.RowKit

theorem vals_sum {l : List Hd} (h : Sm l) (n : List UInt8) : (((valsH l n).map mk).map ByteArray.size).sum + 2 * ((valsH l n).map mk).length ≤ 1099511627776 := by
  have e : ((valsH l n).map mk).map ByteArray.size = (valsH l n).map List.length := by
    rw [List.map_map]
    apply List.map_congr_left
    intro x _
    exact mk_size x
  have h2 := sum_le _ (vals_small h n)
  have h3 := vals_len l n
  have h4 := h.1
  have h5 : 100000 * (valsH l n).length ≤ 100000 * 1000 := Nat.mul_le_mul_left _ (by omega)
  rw [e, List.length_map]
  omega

set_option maxHeartbeats 2000000 in
theorem refGet_any (A : Option Addr) (len c B : Nat) (xs : List (ByteArray × ByteArray)) (name : ByteArray) (w : World) (hlen : len = xs.length) (hB : B ≤ w.heap.size) (hx : PRow w B A xs) (hsm : Sm (xs.map hd)) (hname : name.size ≤ maxLen) :
    Calls Try.prog 22 #[.slice A len c, .string name] w fun e w' => e = .returned (.tuple #[.string (mk (getH (xs.map hd) name.data.toList)), .bool (gotH (xs.map hd) name.data.toList)]) ∧ Below w.heap.size w w' := by
  subst hlen
  obtain ⟨hl, hs⟩ := hsm.sizes
  have HG := Lib.hid (get_len hsm name.data.toList)
  have HSU := Lib.hid (vals_sum hsm name.data.toList)
  have HVL := Lib.hid (vals_len (xs.map hd) name.data.toList)
  have HX := Lib.hid hx
  have HS := Lib.hid hs
  clear hx hs hsm
  obtain ⟨i0, hi, hz0, hz1, hz2⟩ := info_parts infoS
  go_enter Try.func22, Try.ntmps22
  go_wp2_with fail
  go_loopw [6, 7] (fun v i wr => ∃ (k : Nat) (dl : List Hd), k ≤ xs.length ∧ i = .int .i64 k ∧ dl = (xs.take k).map hd ∧ wr.ownsRow w.heap.size 9 1 v (valsH dl name.data.toList).length ((valsH dl name.data.toList).map sv) ∧ Below w.heap.size w wr) (fun _ i _ => xs.length - (intOf i).toNat)
  case atStart => exact ⟨0, [], Nat.zero_le _, rfl, rfl, World.ownsRow_nil _ _ _ _, Below.refl _ _⟩
  case round =>
    obtain ⟨k, dl, hk, rfl, hdl, hr, hb⟩ := hrel
    have HDL := Lib.hid hdl
    have HRR := Lib.hid hr
    have HBB := Lib.hid hb
    clear hr hb hdl
    by_cases hlt : k < xs.length
    · obtain ⟨ad, hA, _, hc1, hc2⟩ := ((HX.out.mono hB).below HBB.out) k xs[k] (List.getElem?_eq_getElem hlt)
      have hz := HS.out xs[k] (List.getElem_mem hlt)
      have HD := Lib.hid (take_hd (List.take_succ_eq_append_getElem hlt))
      have HVK : Hid ((valsH dl name.data.toList).length ≤ k) := by
        show _ ≤ _
        have h1 := vals_len dl name.data.toList
        have h2 : dl.length = k := by rw [HDL.out]; simp; omega
        omega
      generalize xs[k] = x at *
      obtain ⟨x1, x2⟩ := x
      subst hA
      obtain ⟨t, ht⟩ : ∃ t : ByteArray, t = ⟨(Lk.trimL x2.data.toList).toArray⟩ := ⟨_, rfl⟩
      have HT := Lib.hid ht
      have HTL : Hid (sv (Lk.trimL x2.data.toList) = .string t) := by show _ = _; rw [ht]; rfl
      clear ht
      go_wp2_with fail
      refine (refFold_any x1 name _ (by unfold maxLen; omega) hname).mono ?_
      rintro e w2 ⟨rfl, hb2⟩
      have HB2 : Hid (Below w.heap.size w w2) := HBB.out.trans (hb2.mono HBB.out.size)
      have HR2 : Hid (w2.ownsRow w.heap.size 9 1 u6 (valsH dl name.data.toList).length ((valsH dl name.data.toList).map sv)) := ownsRow_below HRR.out hb2
      have hbc : w2.cell? ⟨(ad.add (k * 2)).block, (ad.add (k * 2)).off + 1, none⟩ = some (.string x2) := (hb2.cell (p := ⟨(ad.add (k * 2)).block, (ad.add (k * 2)).off + 1, none⟩) (block_of_cell hc2)).trans hc2
      clear hb2 hc1 hc2
      cases hf : Lk.foldL x1.data.toList name.data.toList
      · have HF := Lib.hid hf
        clear hf
        go_wp2
        go_roundw
        case rel =>
          refine ⟨k + 1, dl ++ [hd (x1, x2)], by omega, by go_num, by rw [HD.out, HDL.out], ?_, HB2.out⟩
          rw [vals_snoc, show Lk.foldL (hd (x1, x2)).1 name.data.toList = false from HF.out]
          simpa using HR2.out
        case measure => simp [intOf]; omega
      · have HF := Lib.hid hf
        clear hf
        go_wp2_with fail
        refine (refTrim_as x2 t _ (by unfold maxLen; omega) HT.out).mono ?_
        rintro e w' ⟨rfl, rfl⟩
        go_wp2_with (at_builtin; refine wpList_append_own _ rfl (.tmp 21) (.tmp 28) 43 rfl w.heap.size 9 i0 (.string ⟨#[]⟩) 1 16 Try.underlying43 hi hz0 hz1 hz2 rfl (by decide) _ _ _ rfl (World.ownsRow.alloc (w := w2) HR2.out _) ⟨w2.heap.size, 0, none⟩ 1 1 [.string t] rfl rfl ?c1 ?c2 ?c3 ?c4 ?c5 ?_)
        case c1 => exact cell_one_new _ _ _
        case c2 => intro u hu; simp at hu; subst hu; rfl
        case c3 => have := HVK.out; unfold maxLen; omega
        case c4 => have := HVK.out; omega
        case c5 => have := HB2.out.size; simp; omega
        intro v' w3 hown' hgrow _
        have HR3 := Lib.hid hown'
        have HB3 : Hid (Below w.heap.size w w3) := (HB2.out.alloc HB2.out.size _).grown hgrow (by have := HB2.out.size; simp; omega) (fun b hb => (HR2.out.lt b hb).1)
        clear hown' hgrow
        go_wp2
        go_roundw
        case rel =>
          refine ⟨k + 1, dl ++ [hd (x1, x2)], by omega, by go_num, by rw [HD.out, HDL.out], ?_, HB3.out⟩
          rw [vals_snoc, show Lk.foldL (hd (x1, x2)).1 name.data.toList = true from HF.out, if_pos rfl, List.length_append, List.map_append, List.map_cons, List.map_nil, show sv (Lk.trimL (hd (x1, x2)).2) = .string t from HTL.out]
          exact HR3.out
        case measure => simp [intOf]; omega
    · obtain rfl : k = xs.length := by omega
      have hr := HRR.out
      rw [HDL.out, List.take_length] at hr
      obtain ⟨A2, c2, e2, hc2, hsr⟩ := trow_of hr
      have HSR := Lib.hid hsr
      clear hr hsr
      subst e2
      have HJ : Hid (Lk.joinL (dat ((valsH (xs.map hd) name.data.toList).map mk)) = getH (xs.map hd) name.data.toList) := by show _ = _; rw [dat_mk]; rfl
      have HO : Hid (gotH (xs.map hd) name.data.toList = decide (0 < (valsH (xs.map hd) name.data.toList).length)) := got_vals _ _
      go_wp2_with fail
      refine (refJoin_any A2 _ c2 wr.heap.size ((valsH (xs.map hd) name.data.toList).map mk) _ (by simp) HSR.out HSU.out).mono ?_
      rintro e w' ⟨rfl, rfl⟩
      rw [HJ.out]
      go_wp2
      go_ret2
      exact ⟨by rw [HO.out]; rfl, HBB.out⟩


end Go.Proofs.Ytpfbkcibpmndoaa

namespace Go.Proofs.Ytpfbkcibpmndoaa
open Go.RowKit

theorem okH_eq (x1 x2 : ByteArray) (t : List UInt8) (ht : t = Lk.trimL x2.data.toList) : okH (hd (x1, x2)) = (decide (x1.size ≤ 64) && Lk.tokL x1.data.toList && (decide (t.length ≤ 4096) && !(Lk.inL 0 t || Lk.inL 10 t || Lk.inL 13 t))) := by
  unfold okH nameOk valOk badB
  rw [ht]; rfl
theorem chk_bad {xs : List (ByteArray × ByteArray)} {x : ByteArray × ByteArray} (h32 : ¬ 32 < xs.length) (hm : x ∈ xs) (h : okH (hd x) = false) : checkH (xs.map hd) = 6 := by
  unfold checkH
  rw [if_neg (by simpa using h32), if_neg]
  intro hall
  have := List.all_eq_true.1 hall _ (List.mem_map_of_mem hm)
  rw [h] at this; cases this

def CellsAt (W : World) (p q : Addr) (x1 x2 : ByteArray) : Prop := W.cell? p = some (.string x1) ∧ W.cell? q = some (.string x2)
theorem CellsAt.below {W W' : World} {p q : Addr} {x1 x2 : ByteArray} (h : CellsAt W p q x1 x2) (hb : Below W.heap.size W W') : CellsAt W' p q x1 x2 :=
  ⟨(hb.cell (block_of_cell h.1)).trans h.1, (hb.cell (block_of_cell h.2)).trans h.2⟩

set_option maxHeartbeats 2000000 in
theorem refHNorm_any (A : Option Addr) (len c B : Nat) (xs : List (ByteArray × ByteArray)) (w : World) (hlen : len = xs.length) (hB : B ≤ w.heap.size) (hx : PRow w B A xs) (hsm : Sm (xs.map hd)) :
    Calls Try.prog 27 #[.slice A len c] w fun e w' => ∃ v, e = .returned v ∧ HdRow w' w.heap.size v (normL (xs.map hd)) ∧ Below w.heap.size w w' := by
  subst hlen
  obtain ⟨hl, hs⟩ := hsm.sizes
  have HX := Lib.hid hx
  have HS := Lib.hid hs
  clear hx hs hsm
  obtain ⟨i0, hi, hz0, hz1, hz2⟩ := info_parts infoH
  go_enter Try.func27, Try.ntmps27
  go_wp2_with fail
  go_loopw [3, 4] (fun v i wr => ∃ (k : Nat) (dl : List Hd), k ≤ xs.length ∧ i = .int .i64 k ∧ dl = normL ((xs.take k).map hd) ∧ wr.ownsRow w.heap.size 35 2 v dl.length (hcs dl) ∧ Below w.heap.size w wr) (fun _ i _ => xs.length - (intOf i).toNat)
  case atStart => exact ⟨0, [], Nat.zero_le _, rfl, rfl, World.ownsRow_nil _ _ _ _, Below.refl _ _⟩
  case round =>
    obtain ⟨k, dl, hk, rfl, hdl, hr, hb⟩ := hrel
    have hdk : dl.length ≤ k := by rw [hdl]; simp [normL]; omega
    have HDL := Lib.hid hdl
    have HRR := Lib.hid hr
    have HBB := Lib.hid hb
    clear hr hb hdl
    by_cases hlt : k < xs.length
    · obtain ⟨ad, hA, _, hc1, hc2⟩ := ((HX.out.mono hB).below HBB.out) k xs[k] (List.getElem?_eq_getElem hlt)
      have hz := HS.out xs[k] (List.getElem_mem hlt)
      have HD := Lib.hid (take_hd (List.take_succ_eq_append_getElem hlt))
      have HXK : Hid (xs[k]? = some xs[k]) := List.getElem?_eq_getElem hlt
      generalize hxk : xs[k] = x at *
      clear hxk
      obtain ⟨x1, x2⟩ := x
      subst hA
      have hF : CellsAt wr (ad.add (k * 2)) ⟨(ad.add (k * 2)).block, (ad.add (k * 2)).off + 1, none⟩ x1 x2 := ⟨hc1, hc2⟩
      clear hc1 hc2
      obtain ⟨a, ha⟩ : ∃ a : ByteArray, a = ⟨(Lk.lower x1.data.toList).toArray⟩ := ⟨_, rfl⟩
      obtain ⟨b, hb⟩ : ∃ b : ByteArray, b = ⟨(Lk.trimL x2.data.toList).toArray⟩ := ⟨_, rfl⟩
      have HLA := Lib.hid ha
      have HLB := Lib.hid hb
      have HNE : Hid (normL ((xs.take (k + 1)).map hd) = dl ++ [(a.data.toList, b.data.toList)]) := by
        show _ = _
        rw [HD.out, HDL.out, ha, hb]
        simp [normL, normH, hd]
      clear ha hb
      go_wp2_with fail
      refine mix_start (fun W => CellsAt W (ad.add (k * 2)) ⟨(ad.add (k * 2)).block, (ad.add (k * 2)).off + 1, none⟩ x1 x2) (by kernel_rfl) ?_
      have hne : Nonempty (Held (fun W => CellsAt W (ad.add (k * 2)) ⟨(ad.add (k * 2)).block, (ad.add (k * 2)).off + 1, none⟩ x1 x2)) := ⟨⟨_, hF⟩⟩
      have z0 : ∀ q : Held (fun W => CellsAt W (ad.add (k * 2)) ⟨(ad.add (k * 2)).block, (ad.add (k * 2)).off + 1, none⟩ x1 x2), q.w.cell? (ad.add (k * 2)) = some (.string x1) := fun q => q.h.1
      have z1 : ∀ q : Held (fun W => CellsAt W (ad.add (k * 2)) ⟨(ad.add (k * 2)).block, (ad.add (k * 2)).off + 1, none⟩ x1 x2), q.w.cell? ⟨(ad.add (k * 2)).block, (ad.add (k * 2)).off + 1, none⟩ = some (.string x2) := fun q => q.h.2
      have hlt2 : ((k : Int) < (xs.length : Int)) := by omega
      refine mix_seg [0, 1, 2, 3, 4, 5, 7, 8, 9, 10, 11] (by kernel_rfl) hF ?_
      simp only [segOf, pickOps, pickOp]
      repeat (go_big_quiet_step (fail))
      refine wpQuiet_nil ?_
      refine mix_run 6 (by kernel_rfl) ?_
      simp only [segOf, pickOps, pickOp]
      go_wp2_with fail
      refine (refLower_any x1 _ (by unfold maxLen; omega)).mono ?_
      rintro e w1 ⟨rfl, hb1⟩
      rw [← HLA.out]
      have hb1' : Below wr.heap.size wr w1 := (Below.refl _ _).drew.trans hb1
      have hF1 := hF.below hb1'
      have HR1 : Hid (w1.ownsRow w.heap.size 35 2 u3 dl.length (hcs dl)) := ownsRow_below HRR.out hb1'
      have HB1 : Hid (Below w.heap.size w w1) := HBB.out.trans (hb1'.mono HBB.out.size)
      clear hb1 hb1'
      go_wp2_with fail
      refine MixPost.normal hF1 ?_
      refine mix_run 12 (by kernel_rfl) ?_
      simp only [segOf, pickOps, pickOp]
      go_wp2_with fail
      refine (refTrim_as x2 b _ (by unfold maxLen; omega) HLB.out).mono ?_
      rintro e w' ⟨rfl, rfl⟩
      go_wp2_with fail
      refine MixPost.normal hF1 ?_
      refine mix_run 13 (by kernel_rfl) ?_
      simp only [segOf, pickOps, pickOp]
      go_wp2_with fail
      refine MixPost.normal hF1 ?_
      refine mix_run 14 (by kernel_rfl) ?_
      simp only [segOf, pickOps, pickOp]
      go_wp2_with fail
      refine MixPost.normal (hF1.below ((Below.refl _ _).alloc (Nat.le_refl _) _)) ?_
      refine mix_run 15 (by kernel_rfl) ?_
      simp only [segOf, pickOps, pickOp]
      go_wp2_with (at_builtin; refine wpList_append_own _ rfl (.tmp 11) (.tmp 25) 22 rfl w.heap.size 35 i0 (.agg #[.string ⟨#[]⟩, .string ⟨#[]⟩]) 2 32 Try.underlying22 hi hz0 hz1 hz2 rfl (by decide) _ _ _ rfl (World.ownsRow.alloc (w := w1) HR1.out _) ⟨w1.heap.size, 0, none⟩ 1 1 [.string a, .string b] rfl rfl ?c1 ?c2 ?c3 ?c4 ?c5 ?_)
      case c1 => exact cells_two_new _ _ _ _
      case c2 => intro u hu; simp at hu; rcases hu with rfl | rfl <;> rfl
      case c3 => unfold maxLen; omega
      case c4 => omega
      case c5 => have := HB1.out.size; simp; omega
      intro v' w3 hown' hgrow _
      have HR3 := Lib.hid hown'
      have HB3 : Hid (Below w.heap.size w w3) := (HB1.out.alloc HB1.out.size _).grown hgrow (by have := HB1.out.size; simp; omega) (fun b hb => (HR1.out.lt b hb).1)
      have hF3 : CellsAt w3 (ad.add (k * 2)) ⟨(ad.add (k * 2)).block, (ad.add (k * 2)).off + 1, none⟩ x1 x2 := by
        obtain ⟨ad', e', _, h1, h2⟩ := ((HX.out.mono hB).below HB3.out) k (x1, x2) HXK.out
        obtain rfl : ad = ad' := by simpa using e'
        exact ⟨h1, h2⟩
      clear hown' hgrow
      go_wp2_with fail
      refine MixPost.normal hF3 ?_
      refine mix_seg [16] (by kernel_rfl) hF3 ?_
      simp only [segOf, pickOps, pickOp]
      repeat (go_big_quiet_step (fail))
      refine wpQuiet_nil ?_
      refine mix_done (by kernel_rfl) ?_
      go_wp2
      go_roundw
      case rel => exact ⟨k + 1, dl ++ [(a.data.toList, b.data.toList)], by omega, by go_num, HNE.out.symm, HdRow.more HR3.out, HB3.out⟩
      case measure => simp [intOf]; omega
    · obtain rfl : k = xs.length := by omega
      go_wp2
      go_ret
      refine ⟨_, rfl, ?_, HBB.out⟩
      have h := HDL.out
      rw [List.take_length] at h
      rw [← h]
      exact HRR.out
end Go.Proofs.Ytpfbkcibpmndoaa

namespace Go.Proofs.Ytpfbkcibpmndoaa
open Go.RowKit

theorem rows_no {xs ys : List (ByteArray × ByteArray)} {k : Nat} {x1 x2 y1 y2 : ByteArray} (hx : xs[k]? = some (x1, x2)) (hy : ys[k]? = some (y1, y2)) (h : (x1.toList == y1.toList) = false ∨ (x2.toList == y2.toList) = false) : xs.map hd ≠ ys.map hd := by
  intro e
  have e1 := row_alike e
  subst e1
  rw [hx] at hy
  simp only [Option.some.injEq, Prod.mk.injEq] at hy
  obtain ⟨rfl, rfl⟩ := hy
  simp at h
theorem rows_step {xs ys : List (ByteArray × ByteArray)} {k : Nat} {x1 x2 y1 y2 : ByteArray} (hx : xs.take (k + 1) = xs.take k ++ [(x1, x2)]) (hy : ys.take (k + 1) = ys.take k ++ [(y1, y2)]) (h0 : xs.take k = ys.take k) (h1 : (x1.toList == y1.toList) = true) (h2 : (x2.toList == y2.toList) = true) : xs.take (k + 1) = ys.take (k + 1) := by
  rw [ba_beq, decide_eq_true_eq] at h1 h2
  have e1 : x1 = y1 := by rw [← mk_eq x1, h1, mk_eq]
  have e2 : x2 = y2 := by rw [← mk_eq x2, h2, mk_eq]
  rw [hx, hy, h0, e1, e2]

end Go.Proofs.Ytpfbkcibpmndoaa

namespace Go.Proofs.Ytpfbkcibpmndoaa
open Go.RowKit

theorem SRow.up {w : World} {B B' : Nat} {A : Option Addr} {xs : List ByteArray} (h : SRow w B A xs) (hb : B ≤ B') : SRow w B' A xs := by
  intro j x hj
  obtain ⟨ad, e, hB, hc⟩ := h j x hj
  exact ⟨ad, e, by omega, hc⟩
theorem sown_block {w : World} {base g n cap : Nat} {l : List Tx} (h : sown w base (.slice (some ⟨g, 0, none⟩) n cap) l) : ∃ cur : List Value, w.heap[g]? = some (.cells cur.toArray 9 (0, 0)) ∧ cur.length = cap ∧ cur.take l.length = l.map sv ∧ base ≤ g ∧ n = l.length ∧ n ≤ cap ∧ cap ≤ maxLen := by
  rcases h.2 with ⟨h', _⟩ | ⟨g', cap', cur, h', hb, hg, hnc, hcm, hcs, htake⟩
  · simp at h'
  · simp only [Value.slice.injEq, Option.some.injEq, Addr.mk.injEq, and_true] at h'
    obtain ⟨rfl, rfl, rfl⟩ := h'
    exact ⟨cur.toList, by simpa using hg, by simpa using hcs, by simpa using htake, hb, rfl, hnc, hcm⟩
theorem sown_src {w : World} {base g cap m : Nat} {l : List Tx} (h : sown w base (.slice (some ⟨g, 0, none⟩) (l.length + 1) cap) (l ++ [[]])) : ∀ j v, ((l.drop m).map sv)[j]? = some v → w.cell? ⟨g, m + j, none⟩ = some v := by
  intro j v hj
  rw [List.getElem?_map, List.getElem?_drop] at hj
  cases hx : l[m + j]? with
  | none => rw [hx] at hj; cases hj
  | some y =>
    obtain ⟨hjl, hy⟩ := List.getElem?_eq_some_iff.1 hx
    have h1 := (sown_slot h (by simp) (m + j) (by simp; omega)).1
    rw [hx] at hj
    obtain rfl : sv y = v := by simpa using hj
    rw [h1, List.getElem_append_left hjl, hy]
    rfl
theorem add_off (g m j : Nat) : (⟨g, m, none⟩ : Addr).add j = ⟨g, m + j, none⟩ := by
  unfold Addr.add; split
  · subst_vars; rfl
  · rfl
/-- the row behind the copy: what stood from m on has gone one place up -/
theorem sown_moved {w : World} {base g cap m : Nat} {l : List Tx} {cur : List Value} (hm : m ≤ l.length) (hl : cur.length = cap) (ht : cur.take (l.length + 1) = (l ++ [[]]).map sv) (hbg : base ≤ g) (hc : l.length + 1 ≤ cap) (hcm : cap ≤ maxLen)
    (hg : w.heap[g]? = some (.cells (splice cur (m + 1) ((l.drop m).map sv)).toArray 9 (0, 0))) :
    sown w base (.slice (some ⟨g, 0, none⟩) (l.length + 1) cap) ((l ++ [[]]).take (m + 1) ++ l.drop m) := by
  have hlen : ((l ++ [[]]).take (m + 1) ++ l.drop m).length = l.length + 1 := by simp; omega
  refine ⟨by simp, .inr ⟨g, cap, (splice cur (m + 1) ((l.drop m).map sv)).toArray, by rw [hlen], hbg, hg, by omega, hcm, ?_, ?_⟩⟩
  · rw [List.size_toArray, length_splice _ _ _ (by simp; omega)]; omega
  · rw [hlen, Nat.mul_one]
    unfold splice
    show List.take (l.length + 1) (cur.take (m + 1) ++ ((l.drop m).map sv ++ cur.drop (m + 1 + ((l.drop m).map sv).length))) = _
    have e1 : cur.take (m + 1) = ((l ++ [[]]).take (m + 1)).map sv := by
      have := congrArg (List.take (m + 1)) ht
      rw [List.take_take, Nat.min_eq_left (by omega)] at this
      rw [this, List.map_take]
    have e2 : (cur.take (m + 1) ++ (l.drop m).map sv).length = l.length + 1 := by simp; omega
    rw [← List.append_assoc, List.take_append_of_le_length (by omega), List.take_of_length_le (by omega), e1, List.map_append]
theorem rise_set (l : List Tx) (m : Nat) (x : Tx) (hm : m ≤ l.length) : ((l ++ [[]]).take (m + 1) ++ l.drop m).set m x = l.take m ++ x :: l.drop m := by
  have h1 : (l ++ [[]]).take (m + 1) = l.take m ++ [(l ++ [[]])[m]'(by simp; omega)] := by
    rw [List.take_succ_eq_append_getElem (by simp; omega), List.take_append_of_le_length hm]
  rw [h1, List.append_assoc, List.set_append_right _ _ (by simp; omega)]
  have : m - (l.take m).length = 0 := by simp; omega
  rw [this]; rfl
theorem dat_take (xs : List ByteArray) (k : Nat) (h : k < xs.length) : dat (xs.take (k + 1)) = dat (xs.take k) ++ [xs[k].data.toList] := by
  rw [List.take_succ_eq_append_getElem h, dat_snoc]

end Go.Proofs.Ytpfbkcibpmndoaa

namespace Go.Proofs.Ytpfbkcibpmndoaa
open Go.RowKit

end Go.Proofs.Ytpfbkcibpmndoaa
