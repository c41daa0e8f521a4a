/-
  The walk of the law StreamMarks: from its high mark on it is paused, down to its low mark, and nothing that was there has turned. Conditions: numbers are those of 64 bits.
-/
import Derived.Test.YtaadffheadimpaaSAwake
import Derived.Test.YtaadffheadimpaaKLow
import Derived.Deep.LoopGhost
namespace Go.Proofs.Ytaadffheadimpaa
open Go.RowKit

theorem byte_of (k : Nat) (hk : k ≤ 200) : ∃ x : UInt8, #[Value.int .u8 (k : Int)] = ([x].map bv).toArray := by
  refine ⟨UInt8.ofNat k, ?_⟩
  have h1 : (UInt8.ofNat k).toNat = k := by rw [UInt8.toNat_ofNat']; omega
  simp [bv, h1]
theorem chunk_one (H : Nat) (l : List UInt8) (x : UInt8) : chunkC ⟨1, false, l⟩ [x] = 0 ∧ chunkS H ⟨1, false, l⟩ [x] = ⟨1, decide (H ≤ (l ++ [x]).length), l ++ [x]⟩ := by
  have h : chunkC ⟨1, false, l⟩ [x] = 0 := rfl
  refine ⟨h, ?_⟩
  unfold chunkS
  rw [if_pos h]
theorem chunk_full (H : Nat) (l : List UInt8) (x : UInt8) : chunkC ⟨1, true, l⟩ [x] = 10 ∧ chunkS H ⟨1, true, l⟩ [x] = ⟨1, true, l⟩ := ⟨rfl, rfl⟩
theorem read_one {L : Nat} {l : List UInt8} (h : L < l.length) : ∃ x l', l = x :: l' ∧ upto 1 l = 1 ∧ readS L ⟨1, true, l⟩ 1 = ⟨1, decide (L < l'.length), l'⟩ := by
  cases l with
  | nil => simp at h
  | cons x l' =>
    have hu : upto 1 (x :: l') = 1 := by unfold upto; simp
    refine ⟨x, l', rfl, hu, ?_⟩
    unfold readS
    simp only [hu, List.drop_one, List.tail_cons]
    congr 1
    by_cases h2 : l'.length ≤ L
    · rw [if_pos h2]; simp; omega
    · rw [if_neg h2]; simp; omega
/-- what holds at the head of a round of the first loop: so many bytes are in -/
structure MarkAt (w W : World) (g gr gd H L : Nat) (l : List UInt8) : Prop where
  x : StAt W g gr gd H L ⟨1, decide (H ≤ l.length), l⟩
  o : Only [g, gr, gd] w W
/-- .. of the second -/
structure DownAt (w W : World) (g gr gd H L : Nat) (l : List UInt8) : Prop where
  x : StAt W g gr gd H L ⟨1, decide (L < l.length), l⟩
  o : Only [g, gr, gd] w W
  len : L ≤ l.length ∧ l.length ≤ H

set_option maxRecDepth 20000 in
set_option maxHeartbeats 4000000 in
theorem walk_StreamMarks (a0 a1 : Int) (w : World) (_h0 : (Lit.int .i64 a0).wf = true) (_h1 : (Lit.int .i64 a1).wf = true) :
    Calls Try.prog 5 #[.int .i64 a0, .int .i64 a1] w fun e w' => e = .returned (.bool true) ∧ Below w.heap.size w w' := by
  clear _h0 _h1
  obtain ⟨H0, hH0⟩ : ∃ H0 : Nat, lowV a0 100 = (H0 : Int) := ⟨(lowV a0 100).toNat, by have := lowV_bd a0 (n := 100) (by omega); omega⟩
  obtain ⟨H, hH⟩ : ∃ H : Nat, (1 + (H0 : Int)) = (H : Int) := ⟨H0 + 1, by omega⟩
  have hHb : 1 ≤ H ∧ H ≤ 100 := by have := lowV_bd a0 (n := 100) (by omega); omega
  have hH0b : H0 < 100 := by have := lowV_bd a0 (n := 100) (by omega); omega
  obtain ⟨L, hL⟩ : ∃ L : Nat, lowV a1 (H : Int) = (L : Int) := ⟨(lowV a1 (H : Int)).toNat, by have := lowV_bd a1 (n := (H : Int)) (by omega); omega⟩
  have hLb : L < H := by have := lowV_bd a1 (n := (H : Int)) (by omega); omega
  have HH0 := Lib.hid hH0
  have HH := Lib.hid hH
  have HL := Lib.hid hL
  have HB : Hid (1 ≤ H ∧ H ≤ 100 ∧ L < H) := by show _ ∧ _; omega
  clear hH hH0 hL
  go_enter Try.func5, Try.ntmps5
  go_wp2_with fail
  refine (Low_any a0 100 w (by omega) (by omega)).mono ?_
  rintro e w' ⟨rfl, rfl⟩
  rw [HH0.out]
  go_wp2_with fail
  rw [HH.out]
  refine (Low_any a1 (H : Int) w (by omega) (by omega)).mono ?_
  rintro e w' ⟨rfl, rfl⟩
  rw [HL.out]
  clear hH0b
  go_wp2_with fail
  refine (strNew_any (H : Int) (L : Int) w).mono ?_
  rintro e w1 ⟨g, gr, gd, rfl, hx1, ho1, hg1, hg2, hg3⟩
  rw [clampH_id hHb.1 (by omega), clampW_id hLb] at hx1
  have HX1 : Hid (MarkAt w w1 g gr gd H L []) := by
    refine ⟨?_, ho1.mono (by simp)⟩
    have e : decide (H ≤ ([] : List UInt8).length) = false := by have := HB.out.1; simp; omega
    rw [e]
    exact hx1
  have HG : Hid (w.heap.size ≤ g ∧ w.heap.size ≤ gr ∧ w.heap.size ≤ gd) := ⟨hg1, hg2, hg3⟩
  clear hx1 ho1 hg1 hg2 hg3
  go_wp2_with fail
  go_loopw [8] (fun i wr => ∃ (k : Nat) (l : List UInt8), l.length + 1 = k ∧ k ≤ H + 1 ∧ i = .int .i64 k ∧ MarkAt w wr g gr gd H L l) (fun i _ => H + 1 - (intOf i).toNat)
  case atStart => exact ⟨1, [], rfl, by omega, rfl, HX1.out⟩
  case round =>
    obtain ⟨k, l, hl, hk, rfl, hx⟩ := hrel
    have HX := Lib.hid hx
    clear hx HX1
    by_cases hlt : k ≤ H
    · obtain ⟨x, hxb⟩ := byte_of k (by omega)
      have e1 : decide (H ≤ l.length) = false := by simp; omega
      have HX2 := HX.out.x
      rw [e1] at HX2
      have HXX := Lib.hid HX2
      have HLE : Hid ((l ++ [x]).length = k) := by show _ = _; simp; omega
      have HXB := Lib.hid hxb
      have HKL := Lib.hid hl
      clear e1 HX2 hl hxb
      go_wp2_with fail
      refine (strPaused_any g gr gd H L _ wr HXX.out).mono ?_
      rintro e w' ⟨rfl, rfl⟩
      go_wp2_with fail
      refine (chunkNew_any HXX.out HX.out.o [x] HXB.out 1 rfl (by simp)).mono ?_
      rintro e w2 ⟨rfl, hx2, ho2⟩
      rw [(chunk_one H l x).1]
      rw [(chunk_one H l x).2] at hx2
      have HX3 : Hid (MarkAt w w2 g gr gd H L (l ++ [x])) := ⟨hx2, ho2⟩
      clear hx2 ho2
      go_wp2_with fail
      refine (strLen_any g gr gd H L _ w2 HX3.out.x).mono ?_
      rintro e w' ⟨rfl, rfl⟩
      rw [HLE.out]
      go_wp2_with fail
      go_roundw
      case rel => exact ⟨k + 1, l ++ [x], by rw [HLE.out], by omega, by go_num, HX3.out⟩
      case measure => simp [intOf]; omega
    · have hk1 : k = H + 1 := by omega
      have hlH : l.length = H := by omega
      have e1 : decide (H ≤ l.length) = true := by simp; omega
      have HX2 := HX.out.x
      rw [e1] at HX2
      have HXX := Lib.hid HX2
      have HLH := Lib.hid hlH
      clear e1 HX2 hl hlH hk
      go_wp2_with fail
      refine (strPaused_any g gr gd H L _ wr HXX.out).mono ?_
      rintro e w' ⟨rfl, rfl⟩
      go_wp2_with fail
      refine (chunkNew_any HXX.out HX.out.o [1] rfl 1 rfl (by simp)).mono ?_
      rintro e w2 ⟨rfl, hx2, ho2⟩
      rw [(chunk_full H l 1).1]
      rw [(chunk_full H l 1).2] at hx2
      have HX3 : Hid (DownAt w w2 g gr gd H L l) := by
        have h1 := HLH.out
        have h2 := HB.out
        have e : decide (L < l.length) = true := by simp; omega
        refine ⟨?_, ho2, by omega⟩
        rw [e]
        exact hx2
      clear hx2 ho2 hk1 hlt
      go_wp2_with fail
      go_loopg [] H (fun q wr => ∃ l : List UInt8, l.length = q ∧ DownAt w wr g gr gd H L l)
      case atStart => exact ⟨l, HLH.out, HX3.out⟩
      case round =>
        obtain ⟨l, hl, hx⟩ := hrel
        have HX := Lib.hid hx
        have HLE := Lib.hid hl
        have hqH : gk ≤ H := by have := hx.len; omega
        have hqL : L ≤ gk := by have := hx.len; omega
        clear hx HX3 hl
        by_cases hlt : L < gk
        · go_wp2_with fail
          refine (strLen_any g gr gd H L _ wr HX.out.x).mono ?_
          rintro e w' ⟨rfl, rfl⟩
          rw [HLE.out]
          have e1 : decide (L < l.length) = true := by have := HLE.out; simp; omega
          have HX2 := HX.out.x
          rw [e1] at HX2
          have HXX := Lib.hid HX2
          clear e1 HX2
          go_wp2_with fail
          refine (strPaused_any g gr gd H L _ wr HXX.out).mono ?_
          rintro e w' ⟨rfl, rfl⟩
          obtain ⟨x, l', hl', hu, hr⟩ := read_one (L := L) (l := l) (by have := HLE.out; omega)
          have HRR := Lib.hid hr
          have HUU : Hid ((l.take (upto 1 l)).length = 1) := by show _ = _; rw [hu, hl']; rfl
          have HLL : Hid (l'.length + 1 = gk) := by show _ = _; have := HLE.out; rw [hl'] at this; simpa using this
          clear hl' hu hr
          go_wp2_with fail
          refine (readOn_any HXX.out HX.out.o 1).mono ?_
          rintro e w3 ⟨v, rfl, hk3, hx3, ho3⟩
          obtain ⟨A3, cap3, hv3, _, _⟩ := hk3.slice
          subst hv3
          simp only [HUU.out]
          rw [HRR.out] at hx3
          have HX3 : Hid (DownAt w w3 g gr gd H L l') := ⟨hx3, ho3, by have := HLL.out; omega⟩
          clear hx3 ho3 hk3
          go_wp2_with fail
          go_roundg l'.length
          case measure => have := HLL.out; omega
          case rel => exact ⟨l', rfl, HX3.out⟩
        · go_wp2_with fail
          refine (strLen_any g gr gd H L _ wr HX.out.x).mono ?_
          rintro e w' ⟨rfl, rfl⟩
          rw [HLE.out]
          have e1 : decide (L < l.length) = false := by have := HLE.out; simp; omega
          have HX2 := HX.out.x
          rw [e1] at HX2
          have HXX := Lib.hid HX2
          clear e1 HX2
          go_wp2_with fail
          refine (strPaused_any g gr gd H L _ wr HXX.out).mono ?_
          rintro e w' ⟨rfl, rfl⟩
          go_wp2_with fail
          refine (chunkNew_any HXX.out HX.out.o [1] rfl 1 rfl (by simp)).mono ?_
          rintro e w2 ⟨rfl, hx2, ho2⟩
          rw [(chunk_one H l 1).1]
          have HO2 := Lib.hid ho2
          clear hx2 ho2
          go_wp2_with fail
          refine (awake11_any _).mono ?_
          rintro e w' ⟨rfl, hb⟩
          have HBE := Lib.hid ((HO2.out.to_below (by have := HG.out; simp; omega)).trans (hb.mono HO2.out.size))
          clear hb
          go_wp2
          go_ret
          exact ⟨rfl, HBE.out⟩
end Go.Proofs.Ytaadffheadimpaa
