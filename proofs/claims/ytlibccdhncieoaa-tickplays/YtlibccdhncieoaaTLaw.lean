/-
  The walks of the laws of layer 2: TickAll, TickSums, TickLefts, TickTwo, and the helper awake: each returns true, and nothing that was there has turned. Conditions: numbers are those of 64 bits.
-/
import Derived.Test.YtlibccdhncieoaaTTick
namespace Go.Proofs.Ytlibccdhncieoaa
open Go.RowKit

theorem tw1 : Lk.addT 18446744073709551614 5 = 18446744073709551615 := by decide

set_option maxHeartbeats 1000000 in
theorem awake2_any (w : World) : Calls Try.prog 12 #[] w fun e w' => e = .returned (.bool true) ∧ Below w.heap.size w w' := by
  have H := Lib.hid tw1
  go_enter Try.func12, Try.ntmps12
  go_wp2_with fail
  refine (clockNew_any _ _).mono ?_
  rintro e w1 ⟨rfl, hw1⟩
  have hc : ClockAt w1 w.heap.size 18446744073709551614 := by rw [hw1]; exact ClockAt.new _ _ _
  have hb : Below w.heap.size w w1 := by rw [hw1]; exact (Below.refl _ _).alloc (Nat.le_refl _) _
  clear hw1
  go_wp2_with fail
  refine (clockNow_any _ _ _ hc).mono ?_
  rintro e w' ⟨rfl, rfl⟩
  go_wp2_with fail
  refine (clockStep_any _ _ _ _ hc (by decide) (by decide) (by decide) (by decide)).mono ?_
  rintro e w2 ⟨rfl, hw2⟩
  rw [H.out] at hw2
  rw [H.out]
  have hc2 : ClockAt w2 w.heap.size 18446744073709551615 := by rw [hw2]; exact hc.set _
  have hb2 : Below w.heap.size w w2 := by rw [hw2]; exact hb.setCell (Nat.le_refl _) _
  clear hw2
  go_wp2_with fail
  refine (clockNow_any _ _ _ hc2).mono ?_
  rintro e w' ⟨rfl, rfl⟩
  go_wp2_with fail
  refine (clockPast_any _ _ _ _ hc2).mono ?_
  rintro e w' ⟨rfl, rfl⟩
  go_wp2
  go_ret
  exact ⟨rfl, hb2⟩

set_option maxHeartbeats 1000000 in
theorem walk_TickAll (a0 a1 : Int) (w : World) (h0 : (Lit.int .u64 a0).wf = true) (h1 : (Lit.int .u64 a1).wf = true) :
    Calls Try.prog 3 #[.int .u64 a0, .int .u64 a1] w fun e w' => e = .returned (.bool true) ∧ Below w.heap.size w w' := by
  have ⟨p0, q0⟩ := wfU h0
  have ⟨p1, q1⟩ := wfU h1
  clear h0 h1
  go_enter Try.func3, Try.ntmps3
  go_wp2_with fail
  refine (tickAdd_any _ _ _ p0 q0 p1 q1).mono ?_
  rintro e w' ⟨rfl, rfl⟩
  go_wp2_with fail
  refine (rtickAdd_any _ _ _ p0 q0 p1 q1).mono ?_
  rintro e w' ⟨rfl, rfl⟩
  go_wp2_with fail
  refine (tickLeft_any _ _ _ p0 q1).mono ?_
  rintro e w' ⟨rfl, rfl⟩
  go_wp2_with fail
  refine (rtickLeft_any _ _ _ p0 q1).mono ?_
  rintro e w' ⟨rfl, rfl⟩
  go_wp2_with fail
  refine (awake2_any _).mono ?_
  rintro e w' ⟨rfl, hb⟩
  go_wp2
  go_ret
  exact ⟨rfl, hb⟩
theorem Lk.addT_comm (a b : Int) : Lk.addT a b = Lk.addT b a := by unfold Lk.addT; rw [Int.add_comm]
theorem Lk.addT_assoc (a b c : Int) (ha : 0 ≤ a) (_hb : 0 ≤ b) (hc : 0 ≤ c) : Lk.addT (Lk.addT a b) c = Lk.addT a (Lk.addT b c) := by
  unfold Lk.addT; repeat' split
  all_goals omega
theorem Lk.addT_self (a b : Int) (ha : a ≤ 18446744073709551615) (hb : 0 ≤ b) : a ≤ Lk.addT a b := by unfold Lk.addT; split <;> omega
theorem Lk.addT_zero (a : Int) (ha : a ≤ 18446744073709551615) : Lk.addT a 0 = a := by unfold Lk.addT; split <;> omega
theorem Lk.addT_max (a : Int) (ha : 0 ≤ a) : Lk.addT a 18446744073709551615 = 18446744073709551615 := by unfold Lk.addT; split <;> omega
theorem Lk.addT_left (a b : Int) (ha : a ≤ 18446744073709551615) (hb : b ≤ 18446744073709551615) : Lk.addT a (Lk.leftT a b) = max a b := by
  unfold Lk.addT Lk.leftT
  repeat' split
  all_goals omega
theorem Lk.leftT_zero (a b : Int) : Lk.leftT a b = 0 ↔ b ≤ a := by unfold Lk.leftT; split <;> omega

set_option maxHeartbeats 1000000 in
theorem walk_TickSums (a0 a1 a2 : Int) (w : World) (h0 : (Lit.int .u64 a0).wf = true) (h1 : (Lit.int .u64 a1).wf = true) (h2 : (Lit.int .u64 a2).wf = true) :
    Calls Try.prog 5 #[.int .u64 a0, .int .u64 a1, .int .u64 a2] w fun e w' => e = .returned (.bool true) ∧ Below w.heap.size w w' := by
  have ⟨p0, q0⟩ := wfU h0
  have ⟨p1, q1⟩ := wfU h1
  have ⟨p2, q2⟩ := wfU h2
  clear h0 h1 h2
  obtain ⟨s, hs⟩ : ∃ s, s = Lk.addT a0 a1 := ⟨_, rfl⟩
  obtain ⟨r, hr⟩ : ∃ r, r = Lk.addT a1 a2 := ⟨_, rfl⟩
  have ps : 0 ≤ s := by rw [hs]; exact Lk.addT_ge _ _ p0 p1
  have qs : s ≤ 18446744073709551615 := by rw [hs]; exact Lk.addT_le _ _
  have pr : 0 ≤ r := by rw [hr]; exact Lk.addT_ge _ _ p1 p2
  have qr : r ≤ 18446744073709551615 := by rw [hr]; exact Lk.addT_le _ _
  have HC : Hid (Lk.addT a1 a0 = s) := by show _ = _; rw [hs, Lk.addT_comm]
  have HA : Hid (Lk.addT s a2 = Lk.addT a0 r) := by show _ = _; rw [hs, hr, Lk.addT_assoc _ _ _ p0 p1 p2]
  have hle : a0 ≤ s := by rw [hs]; exact Lk.addT_self _ _ q0 p1
  have HZ : Hid (Lk.addT a0 0 = a0) := Lk.addT_zero _ q0
  have HM : Hid (Lk.addT a0 18446744073709551615 = 18446744073709551615) := Lk.addT_max _ p0
  have HS := Lib.hid hs
  have HR := Lib.hid hr
  clear hs hr
  go_enter Try.func5, Try.ntmps5
  go_wp2_with fail
  refine (tickAdd_any _ _ _ p0 q0 p1 q1).mono ?_
  rintro e w' ⟨rfl, rfl⟩
  rw [← HS.out]
  go_wp2_with fail
  refine (tickAdd_any _ _ _ p1 q1 p0 q0).mono ?_
  rintro e w' ⟨rfl, rfl⟩
  rw [HC.out]
  go_wp2_with fail
  refine (tickAdd_any _ _ _ p0 q0 p1 q1).mono ?_
  rintro e w' ⟨rfl, rfl⟩
  rw [← HS.out]
  go_wp2_with fail
  refine (tickAdd_any _ _ _ ps qs p2 q2).mono ?_
  rintro e w' ⟨rfl, rfl⟩
  rw [HA.out]
  go_wp2_with fail
  refine (tickAdd_any _ _ _ p1 q1 p2 q2).mono ?_
  rintro e w' ⟨rfl, rfl⟩
  rw [← HR.out]
  go_wp2_with fail
  refine (tickAdd_any _ _ _ p0 q0 pr qr).mono ?_
  rintro e w' ⟨rfl, rfl⟩
  go_wp2_with fail
  refine (tickAdd_any _ _ _ p0 q0 p1 q1).mono ?_
  rintro e w' ⟨rfl, rfl⟩
  rw [← HS.out]
  go_wp2_with fail
  refine (tickAdd_any _ _ _ p0 q0 (by decide) (by decide)).mono ?_
  rintro e w' ⟨rfl, rfl⟩
  rw [HZ.out]
  go_wp2_with fail
  refine (tickAdd_any _ _ _ p0 q0 (by decide) (by decide)).mono ?_
  rintro e w' ⟨rfl, rfl⟩
  rw [HM.out]
  go_wp2_with fail
  refine (awake2_any _).mono ?_
  rintro e w' ⟨rfl, hb⟩
  go_wp2
  go_ret
  exact ⟨rfl, hb⟩
set_option maxHeartbeats 1000000 in
theorem walk_TickLefts (a0 a1 : Int) (w : World) (h0 : (Lit.int .u64 a0).wf = true) (h1 : (Lit.int .u64 a1).wf = true) :
    Calls Try.prog 6 #[.int .u64 a0, .int .u64 a1] w fun e w' => e = .returned (.bool true) ∧ Below w.heap.size w w' := by
  have ⟨p0, q0⟩ := wfU h0
  have ⟨p1, q1⟩ := wfU h1
  clear h0 h1
  have HA : Hid (Lk.leftT a0 a0 = 0) := by show _ = _; rw [Lk.leftT_zero]; omega
  have hM := Lk.addT_left a0 a1 q0 q1
  by_cases h : a1 ≤ a0
  · have HS : Hid (Lk.leftT a0 a1 = 0) := (Lk.leftT_zero _ _).2 h
    have HM : Hid (Lk.addT a0 0 = a0) := by show _ = _; rw [← HS.out, hM]; omega
    clear hM
    go_enter Try.func6, Try.ntmps6
    go_wp2_with fail
    refine (tickLeft_any _ _ _ p0 q1).mono ?_
    rintro e w' ⟨rfl, rfl⟩
    rw [HS.out]
    go_wp2_with fail
    refine (tickAdd_any _ _ _ p0 q0 (by decide) (by decide)).mono ?_
    rintro e w' ⟨rfl, rfl⟩
    rw [HM.out]
    go_wp2_with fail
    refine (tickLeft_any _ _ _ p0 q1).mono ?_
    rintro e w' ⟨rfl, rfl⟩
    rw [HS.out]
    go_wp2_with fail
    refine (tickLeft_any _ _ _ p0 q0).mono ?_
    rintro e w' ⟨rfl, rfl⟩
    rw [HA.out]
    go_wp2_with fail
    refine (awake2_any _).mono ?_
    rintro e w' ⟨rfl, hb⟩
    go_wp2
    go_ret
    exact ⟨rfl, hb⟩
  · obtain ⟨s, hs⟩ : ∃ s, s = Lk.leftT a0 a1 := ⟨_, rfl⟩
    rw [← hs] at hM
    have ps : 0 ≤ s := by rw [hs]; exact Lk.leftT_ge _ _
    have qs : s ≤ 18446744073709551615 := by rw [hs]; exact Lk.leftT_le _ _ p0 q1
    have hq : (s == 0) = decide (a1 ≤ a0) := by
      have ns : ¬ s = 0 := by rw [hs, Lk.leftT_zero]; exact h
      rw [decide_eq_false h]; simpa using ns
    have HS : Hid (Lk.leftT a0 a1 = s) := hs.symm
    have HM : Hid (Lk.addT a0 s = a1) := by show _ = _; rw [hM]; omega
    clear hM hs
    go_enter Try.func6, Try.ntmps6
    go_wp2_with fail
    refine (tickLeft_any _ _ _ p0 q1).mono ?_
    rintro e w' ⟨rfl, rfl⟩
    rw [HS.out]
    go_wp2_with fail
    refine (tickAdd_any _ _ _ p0 q0 ps qs).mono ?_
    rintro e w' ⟨rfl, rfl⟩
    rw [HM.out]
    go_wp2_with fail
    refine (tickLeft_any _ _ _ p0 q1).mono ?_
    rintro e w' ⟨rfl, rfl⟩
    rw [HS.out]
    go_wp2_with fail
    refine (tickLeft_any _ _ _ p0 q0).mono ?_
    rintro e w' ⟨rfl, rfl⟩
    rw [HA.out]
    go_wp2_with fail
    refine (awake2_any _).mono ?_
    rintro e w' ⟨rfl, hb⟩
    go_wp2
    go_ret
    exact ⟨rfl, hb⟩

set_option maxHeartbeats 1000000 in
theorem walk_TickTwo (a0 a1 a2 : Int) (w : World) (h0 : (Lit.int .u64 a0).wf = true) (_h1 : (Lit.int .u64 a1).wf = true) (h2 : (Lit.int .u64 a2).wf = true) :
    Calls Try.prog 7 #[.int .u64 a0, .int .u64 a1, .int .u64 a2] w fun e w' => e = .returned (.bool true) ∧ Below w.heap.size w w' := by
  have ⟨p0, q0⟩ := wfU h0
  have ⟨p2, q2⟩ := wfU h2
  clear h0 _h1 h2
  go_enter Try.func7, Try.ntmps7
  go_wp2_with fail
  refine (clockNew_any _ _).mono ?_
  rintro e w1 ⟨rfl, hw1⟩
  have hs1 : w1.heap.size = w.heap.size + 1 := by rw [hw1]; simp
  have hc : ClockAt w1 w.heap.size a0 := by rw [hw1]; exact ClockAt.new _ _ _
  have hb : Below w.heap.size w w1 := by rw [hw1]; exact (Below.refl _ _).alloc (Nat.le_refl _) _
  clear hw1
  have HS1 := Lib.hid hs1
  clear hs1
  go_wp2_with fail
  refine (clockNew_any _ _).mono ?_
  rintro e w2 ⟨rfl, hw2⟩
  have hb2 : Below w1.heap.size w1 w2 := by rw [hw2]; exact (Below.refl _ _).alloc (Nat.le_refl _) _
  have hc2 : ClockAt w2 w1.heap.size a1 := by rw [hw2]; exact ClockAt.new _ _ _
  have hc1 : ClockAt w2 w.heap.size a0 := hc.below hb2 hc.lt
  have hB : Below w.heap.size w w2 := hb.trans (hb2.mono hb.size)
  clear hw2 hc hb hb2
  go_wp2_with fail
  refine (clockStep_any _ _ _ _ hc1 p0 q0 p2 q2).mono ?_
  rintro e w3 ⟨rfl, hw3⟩
  have hd1 : ClockAt w3 w.heap.size (Lk.addT a0 a2) := by rw [hw3]; exact hc1.set _
  have hd2 : ClockAt w3 w1.heap.size a1 := by rw [hw3]; exact hc2.set_other _ (by rw [HS1.out]; omega)
  have hD : Below w.heap.size w w3 := by rw [hw3]; exact hB.setCell (Nat.le_refl _) _
  clear hw3 hc1 hc2 hB
  go_wp2_with fail
  refine (clockNow_any _ _ _ hd2).mono ?_
  rintro e w' ⟨rfl, rfl⟩
  go_wp2_with fail
  refine (clockNow_any _ _ _ hd1).mono ?_
  rintro e w' ⟨rfl, rfl⟩
  go_wp2_with fail
  refine (tickAdd_any _ _ _ p0 q0 p2 q2).mono ?_
  rintro e w' ⟨rfl, rfl⟩
  go_wp2_with fail
  refine (awake2_any _).mono ?_
  rintro e w' ⟨rfl, hb⟩
  go_wp2
  go_ret
  exact ⟨rfl, hD.trans (hb.mono hD.size)⟩
end Go.Proofs.Ytlibccdhncieoaa
