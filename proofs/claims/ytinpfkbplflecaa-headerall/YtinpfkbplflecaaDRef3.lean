/-
  The contract of the document's own Same of layer 6, over this seat's program, by the same plain mathematics as header's. Conditions: at most a thousand headers, each text of at most 100,000 bytes.
-/
import Derived.Test.YtinpfkbplflecaaDRef2
namespace Go.Proofs.Ytinpfkbplflecaa
open Go.RowKit

theorem rows_no {xs ys : List (ByteArray × ByteArray)} {k : Nat} {x1 x2 y1 y2 : ByteArray} (hx : xs[k]? = some (x1, x2)) (hy : ys[k]? = some (y1, y2)) (h : (x1.toList == y1.toList) = false ∨ (x2.toList == y2.toList) = false) : xs.map hd ≠ ys.map hd := by
  intro e
  have e1 := row_alike e
  subst e1
  rw [hx] at hy
  simp only [Option.some.injEq, Prod.mk.injEq] at hy
  obtain ⟨rfl, rfl⟩ := hy
  simp at h
theorem rows_step {xs ys : List (ByteArray × ByteArray)} {k : Nat} {x1 x2 y1 y2 : ByteArray} (hx : xs.take (k + 1) = xs.take k ++ [(x1, x2)]) (hy : ys.take (k + 1) = ys.take k ++ [(y1, y2)]) (h0 : xs.take k = ys.take k) (h1 : (x1.toList == y1.toList) = true) (h2 : (x2.toList == y2.toList) = true) : xs.take (k + 1) = ys.take (k + 1) := by
  rw [ba_beq, decide_eq_true_eq] at h1 h2
  have e1 : x1 = y1 := by rw [← mk_eq x1, h1, mk_eq]
  have e2 : x2 = y2 := by rw [← mk_eq x2, h2, mk_eq]
  rw [hx, hy, h0, e1, e2]

set_option maxHeartbeats 2000000 in
theorem refSame_any (A1 A2 : Option Addr) (n1 n2 c1 c2 B : Nat) (xs ys : List (ByteArray × ByteArray)) (w : World) (h1 : n1 = xs.length) (h2 : n2 = ys.length) (hB : B ≤ w.heap.size) (hx : PRow w B A1 xs) (hy : PRow w B A2 ys) (hsx : Sm (xs.map hd)) (hsy : Sm (ys.map hd)) :
    Calls Try.prog 21 #[.slice A1 n1 c1, .slice A2 n2 c2] w fun e w' => e = .returned (.bool (sameH (xs.map hd) (ys.map hd))) ∧ Below w.heap.size w w' := by
  by_cases hn : xs.length = ys.length
  case neg =>
    have HE : Hid (sameH (xs.map hd) (ys.map hd) = false) := by
      show _ = _
      unfold sameH
      rw [decide_eq_false_iff_not]
      intro e
      have := congrArg List.length e
      simp [normL] at this
      exact hn this
    have hlx := hsx.sizes.1
    have hly := hsy.sizes.1
    subst h1 h2
    clear hx hy hsx hsy
    go_enter Try.func21, Try.ntmps21
    go_wp2
    go_ret
    exact ⟨ret_bool HE.out.symm, Below.refl _ _⟩
  obtain ⟨n, hnx, hny⟩ : ∃ n, n = xs.length ∧ n = ys.length := ⟨_, rfl, hn⟩
  obtain rfl : n1 = n := by omega
  obtain rfl : n2 = n1 := by omega
  have hnn : n2 ≤ 1000 := by have := hsx.sizes.1; omega
  have H1 := Lib.hid hnx
  have H2 := Lib.hid hny
  have HX := Lib.hid hx
  have HY := Lib.hid hy
  have HSX := Lib.hid hsx
  have HSY := Lib.hid hsy
  clear hx hy hsx hsy hnx hny h1 h2 hn
  go_enter Try.func21, Try.ntmps21
  go_wp2_with fail
  refine (refNorm_any A1 _ c1 B xs _ H1.out hB HX.out HSX.out).mono ?_
  rintro e w1 ⟨v, rfl, hr, hb⟩
  have HB1 := Lib.hid hb
  obtain ⟨A, nA, cA, yA, rfl, hnA, hyA, _, hpA⟩ := hr.row
  have HNA : Hid (nA = n2) := by
    have h := congrArg List.length hyA
    simp [normL] at h
    show _ = _
    have := H1.out; omega
  have HLA : Hid (nA = yA.length) := hnA
  have HYA := Lib.hid hyA
  have HPA := Lib.hid hpA
  clear hr hb hnA hyA hpA
  go_wp2_with fail
  refine (refNorm_any A2 _ c2 B ys _ H2.out (Nat.le_trans hB HB1.out.size) (HY.out.below (HB1.out.mono hB)) HSY.out).mono ?_
  rintro e w2 ⟨v, rfl, hr, hb⟩
  have HB2 : Hid (Below w.heap.size w w2) := HB1.out.trans (hb.mono HB1.out.size)
  have HPA2 := Lib.hid (HPA.out.below hb)
  obtain ⟨E, nE, cE, yE, rfl, hnE, hyE, _, hpE⟩ := hr.row
  have HNE : Hid (nE = n2) := by
    have h := congrArg List.length hyE
    simp [normL] at h
    show _ = _
    have := H2.out; omega
  have HLE : Hid (nE = yE.length) := hnE
  have HYE := Lib.hid hyE
  have HPE := Lib.hid hpE
  clear hr hb hnE hyE hpE
  have HSE : Hid (sameH (xs.map hd) (ys.map hd) = decide (yA.map hd = yE.map hd)) := by show _ = _; unfold sameH; rw [HYA.out, HYE.out]
  obtain rfl : nA = n2 := HNA.out
  obtain rfl : nE = nA := HNE.out
  clear HNA HNE
  go_wp2_with fail
  go_loopw [7] (fun i wr => ∃ k m : Nat, k ≤ nE ∧ i = .int .i64 k ∧ yA.take k = yE.take k ∧ wr = w2.drewN m) (fun i _ => nE - (intOf i).toNat)
  case atStart => exact ⟨0, 0, Nat.zero_le _, rfl, rfl, rfl⟩
  case round =>
    obtain ⟨k, m, hk, rfl, hall, hw⟩ := hrel
    have HAL := Lib.hid hall
    have HW := Lib.hid hw
    clear hall hw
    by_cases hlt : k < nE
    · have hltA : k < yA.length := by have := HLA.out; omega
      have hltE : k < yE.length := by have := HLE.out; omega
      obtain ⟨a1, e1, _, k1, k2⟩ := HPA2.out k yA[k] (List.getElem?_eq_getElem hltA)
      obtain ⟨a2, e2, _, k3, k4⟩ := HPE.out k yE[k] (List.getElem?_eq_getElem hltE)
      have HTA : Hid (yA.take (k + 1) = yA.take k ++ [yA[k]]) := List.take_succ_eq_append_getElem hltA
      have HTE : Hid (yE.take (k + 1) = yE.take k ++ [yE[k]]) := List.take_succ_eq_append_getElem hltE
      have HGA : Hid (yA[k]? = some yA[k]) := List.getElem?_eq_getElem hltA
      have HGE : Hid (yE[k]? = some yE[k]) := List.getElem?_eq_getElem hltE
      generalize hxa : yA[k] = p at *
      generalize hxe : yE[k] = q at *
      clear hxa hxe
      obtain ⟨x1, x2⟩ := p
      obtain ⟨y1, y2⟩ := q
      have d1 : wr.cell? (a1.add (k * 2)) = some (.string x1) := by rw [HW.out]; exact k1
      have d2 : wr.cell? ⟨(a1.add (k * 2)).block, (a1.add (k * 2)).off + 1, none⟩ = some (.string x2) := by rw [HW.out]; exact k2
      have d3 : wr.cell? (a2.add (k * 2)) = some (.string y1) := by rw [HW.out]; exact k3
      have d4 : wr.cell? ⟨(a2.add (k * 2)).block, (a2.add (k * 2)).off + 1, none⟩ = some (.string y2) := by rw [HW.out]; exact k4
      clear k1 k2 k3 k4 hltA hltE
      subst e1 e2
      have h32 : ((k : Int) < (nE : Int)) := by omega
      cases hq1 : x1.toList == y1.toList
      · have HQ1 := Lib.hid hq1
        go_wp2_with fail
        go_quiet (fail)
        go_wp2
        go_ret
        refine ⟨ret_bool ?_, by rw [HW.out]; exact below_drewN (below_drewN HB2.out _) _⟩
        rw [HSE.out]
        exact (decide_eq_false (rows_no HGA.out HGE.out (.inl HQ1.out))).symm
      have HQ1 := Lib.hid hq1
      cases hq2 : x2.toList == y2.toList
      · have HQ2 := Lib.hid hq2
        go_wp2_with fail
        go_quiet (fail)
        go_wp2
        go_ret
        refine ⟨ret_bool ?_, by rw [HW.out]; exact below_drewN (below_drewN HB2.out _) _⟩
        rw [HSE.out]
        exact (decide_eq_false (rows_no HGA.out HGE.out (.inr HQ2.out))).symm
      have HQ2 := Lib.hid hq2
      go_wp2_with fail
      go_quiet (fail)
      go_wp2
      go_roundw
      case rel => exact ⟨k + 1, _, by omega, by go_num, rows_step HTA.out HTE.out HAL.out HQ1.out HQ2.out, by rw [HW.out, World.drewN_drewN]⟩
      case measure => simp [intOf]; omega
    · go_wp2
      go_ret
      refine ⟨ret_bool ?_, by rw [HW.out]; exact below_drewN HB2.out _⟩
      have h := HAL.out
      rw [List.take_of_length_le (by have := HLA.out; omega), List.take_of_length_le (by have := HLE.out; omega)] at h
      rw [HSE.out, h]; simp
end Go.Proofs.Ytinpfkbplflecaa
