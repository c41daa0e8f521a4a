/-
  The library's slices.Backward at connections: from the last place to the first, over this seat's program. Conditions: those of each statement.
-/
import Derived.Test.YtbnmldfiheffoaaQOpen
import Derived.Test.YtbnmldfiheffoaaKRound
import Derived.Shelf.RegionOpen
import Derived.WalkKit
import Derived.OwnWalkIn
import Derived.TacticsInMore
import Derived.LoopNIn
import Derived.LoopIn
namespace Go.Proofs.Ytbnmldfiheffoaa
open Go.RowKit Go.Shelf

/-- the places of a row, from the last one on, so many of them -/
def downL (n k : Nat) : List Nat := ((List.range n).reverse).take k
theorem downL_succ {n k : Nat} (h : k < n) : downL n (k + 1) = downL n k ++ [n - 1 - k] := by
  unfold downL
  rw [List.take_succ_eq_append_getElem (by simpa using h)]
  simp
theorem downL_len {n k : Nat} (h : k ≤ n) : (downL n k).length = k := by unfold downL; simp; omega
theorem mem_downL {n j : Nat} : ∀ {k : Nat}, k ≤ n → (j ∈ downL n k ↔ j < n ∧ n - k ≤ j)
  | 0, _ => by simp [downL]
  | k + 1, hk => by
    rw [downL_succ (by omega), List.mem_append, mem_downL (k := k) (by omega)]
    simp
    omega
abbrev Pl (n : Nat) := { j : Nat // j < n }
set_option maxHeartbeats 400000 in
theorem back_any (A : Option Addr) (m cap : Nat) (w : World) :
    Calls Try.prog 53 #[.slice A m cap] w fun e w' => e = .returned (.func (.func 64) #[] #[.pointer (some ⟨w.heap.size, 0, none⟩)]) ∧ w' = w.alloc (.cells #[.slice A m cap] 65) := by
  go_enter Try.func53, Try.ntmps53
  go_wp2
  go_ret
  exact ⟨rfl, rfl⟩

set_option maxRecDepth 100000 in
set_option maxHeartbeats 2000000 in
/-- the iterator, for every loop body that keeps what lay below n0 -/
theorem back1_in (n l Bs n0 : Nat) (v : Value) (xs : List Cn) (J Jx : List (Pl xs.length) → World → Prop) (hlen : xs.length ≤ 1000)
    (hY : ∀ (pre : List (Pl xs.length)) (x : Pl xs.length) W, J pre W → pre.length < xs.length → YieldAt Fence.wide (n - 1) Try.prog l #[.int .i64 (x.1 : Int), linkV (nthC xs x.1)] W fun e W' =>
      (e = .returned (.bool true) ∧ J (pre ++ [x]) W' ∧ Below n0 W W') ∨ (e = .returned (.bool false) ∧ Jx (pre ++ [x]) W'))
    (W : World) (hBs : W.cell? ⟨Bs, 0, none⟩ = some v) (hb : Bs < n0) (hr : CRow 83 W v xs) (hv : ∀ g ∈ ownL v, g < n0) (h0 : J [] W) :
    CallsIn Fence.wide n Try.prog 64 #[.func (.yield l) #[] #[], .pointer (some ⟨Bs, 0, none⟩)] W fun e W' => (∃ v, e = .returned v) ∧
      ((∃ ys : List (Pl xs.length), ys.map (·.1) = downL xs.length xs.length ∧ J ys W') ∨ (∃ pre : List (Pl xs.length), (∃ k, k ≤ xs.length ∧ pre.map (·.1) = downL xs.length k) ∧ Jx pre W')) := by
  obtain ⟨A, cap, rfl, hlc, hcm⟩ := hr.slice
  unfold maxLen at hcm
  have HR := Lib.hid hr
  have HV := Lib.hid hv
  have HY := Lib.hid hY
  have HL := Lib.hid hlen
  clear hr hv hY
  refine callsIn_of_wp Try.func64 rfl trivial ?_ rfl
  simp only [Try.ntmps64, List.size_toArray, List.length_cons, List.length_nil, Nat.reduceAdd, Nat.reduceSub, Array.replicate_succ, Array.replicate_zero, List.push_toArray, List.append_toArray, List.nil_append, List.cons_append]
  gi_wp2
  gi_loopw [3] (fun i wr => ∃ (k : Nat) (pre : List (Pl xs.length)), k ≤ xs.length ∧ i = .int .i64 ((xs.length : Int) - 1 - (k : Int)) ∧ pre.map (·.1) = downL xs.length k ∧ J pre wr ∧ Below n0 W wr)
    (fun i _ => (intOf i + 1).toNat)
  case atStart => exact ⟨0, [], Nat.zero_le _, by simp, rfl, h0, Below.refl _ _⟩
  case round =>
    obtain ⟨k, pre, hk, rfl, hpre, hJs, hnx⟩ := hrel
    have HPRE := Lib.hid hpre
    have HNX := Lib.hid hnx
    have HJS := Lib.hid hJs
    have hbx : wr.cell? ⟨Bs, 0, none⟩ = some (.slice A xs.length cap) := (hnx.cell (p := ⟨Bs, 0, none⟩) hb).trans hBs
    have hbl : Bs < wr.heap.size := block_of_cell (a := ⟨Bs, 0, none⟩) hbx
    have HRX : Hid (CRow 83 wr (.slice A xs.length cap) xs) := by
      show CRow _ _ _ _
      have h1 := HR.out
      refine ⟨h1.1, ?_⟩
      rcases h1.2 with h2 | ⟨g, cap', cur, e1, e2, e3, e4⟩
      · exact .inl h2
      · exact .inr ⟨g, cap', cur, e1, e2, (hnx.block g (HV.out g (by rw [e1]; simp [ownL, Value.ownBlock]))).trans e3, e4⟩
    clear hpre hnx hJs
    by_cases hlt : k < xs.length
    · obtain ⟨j, hj⟩ : ∃ j, j = xs.length - 1 - k := ⟨_, rfl⟩
      have hjl : j < xs.length := by omega
      obtain ⟨g, cap2, e2, _, _, _⟩ := HRX.out.some_ (by omega)
      obtain ⟨rfl, rfl⟩ : A = some ⟨g, 0, none⟩ ∧ cap = cap2 := by
        injection e2 with e1 e2 e3
        exact ⟨e1, e3⟩
      obtain ⟨f1, f2, f3⟩ := HRX.out.el rfl hjl
      have hij : (xs.length : Int) - 1 - (k : Int) = (j : Int) := by omega
      rw [hij]
      have HPL : Hid (pre.length = k) := by show _ = _; have h1 := congrArg List.length HPRE.out; rw [List.length_map, downL_len hk] at h1; exact h1
      obtain ⟨fn, tmps, assign, body, hy, hR⟩ := HY.out pre ⟨j, hjl⟩ wr HJS.out (by rw [HPL.out]; exact hlt)
      obtain ⟨x, hx⟩ : ∃ x, x = nthC xs j := ⟨_, rfl⟩
      rw [← hx] at f1 f2 f3
      simp only [← hx] at hy
      have HJ := Lib.hid hj
      clear hx e2 hj
      obtain ⟨x1, x2, x3⟩ := x
      simp only [linkV] at f1 f2 f3 hy
      gi_wp2
      refine ⟨fun hd => by simp [Fence.wide] at hd, hR.mono ?_⟩
      rintro e W3 (⟨rfl, hJ3, hk3⟩ | ⟨rfl, hJx3⟩)
      · gi_wp2
        go_roundw
        case rel => exact ⟨k + 1, pre ++ [⟨j, hjl⟩], by omega, by congr 1; have := HJ.out; omega, by rw [List.map_append, HPRE.out, downL_succ hlt, ← HJ.out]; rfl, hJ3, HNX.out.trans hk3⟩
        case measure => simp [intOf]
      · gi_wp2
        refine bodyPost_ret (results_none rfl _ _ _) rfl ?_
        exact ⟨⟨_, rfl⟩, .inr ⟨pre ++ [⟨j, hjl⟩], ⟨k + 1, by omega, by rw [List.map_append, HPRE.out, downL_succ hlt, ← HJ.out]; rfl⟩, hJx3⟩⟩
    · obtain rfl : k = xs.length := by omega
      have hij : (xs.length : Int) - 1 - (xs.length : Int) = -1 := by omega
      rw [hij]
      gi_wp2
      go_end0
      exact ⟨⟨_, rfl⟩, .inl ⟨pre, HPRE.out, HJS.out⟩⟩
theorem back_stops (n Bs : Nat) (v : Value) (xs : List Cn) (w : World) (hlen : xs.length ≤ 1000) (hBs : w.cell? ⟨Bs, 0, none⟩ = some v) (hr : CRow 83 w v xs) :
    SeqStopsK Fence.wide n Try.prog 64 #[.pointer (some ⟨Bs, 0, none⟩)] (fun x : Pl xs.length => #[Value.int .i64 (x.1 : Int), linkV (nthC xs x.1)]) (Below w.heap.size)
      (fun ys => ys.map (·.1) = downL xs.length xs.length) (fun pre => ∃ k, k ≤ xs.length ∧ pre.map (·.1) = downL xs.length k) xs.length w := fun l J Jx W hW _ _ hY h0 =>
  back1_in n l Bs w.heap.size v xs J Jx hlen hY W ((hW.cell (p := ⟨Bs, 0, none⟩) (block_of_cell (a := ⟨Bs, 0, none⟩) hBs)).trans hBs) (block_of_cell (a := ⟨Bs, 0, none⟩) hBs)
    (by
      refine ⟨hr.1, ?_⟩
      rcases hr.2 with h2 | ⟨g, cap', cur, e1, e2, e3, e4⟩
      · exact .inl h2
      · exact .inr ⟨g, cap', cur, e1, e2, (hW.block g (Array.getElem?_eq_some_iff.1 e3).1).trans e3, e4⟩) (fun g hg => hr.own hg) h0
end Go.Proofs.Ytbnmldfiheffoaa
