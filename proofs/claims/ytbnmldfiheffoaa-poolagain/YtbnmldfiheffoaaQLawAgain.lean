/-
  The walk of the law PoolAgain: it returns true, and nothing that was there has turned. No conditions.
-/
import Derived.Test.YtbnmldfiheffoaaQAwake
import Derived.Test.YtbnmldfiheffoaaKLow
namespace Go.Proofs.Ytbnmldfiheffoaa
open Go.RowKit

set_option maxRecDepth 20000 in
set_option maxHeartbeats 4000000 in
theorem walk_PoolAgain (a0 a1 : ByteArray) (a2 a3 a4 : Int) (w : World) (_h0 : a0.size ≤ maxLen) (_h1 : a1.size ≤ maxLen) (_h2 : (Lit.int .u64 a2).wf = true) (_h3 : (Lit.int .u64 a3).wf = true) (_h4 : (Lit.int .u64 a4).wf = true) :
    Calls Try.prog 5 #[.string a0, .string a1, .int .u64 a2, .int .u64 a3, .int .u64 a4] w fun e w' => e = .returned (.bool true) ∧ Below w.heap.size w w' := by
  obtain ⟨b2, c2⟩ := wfU _h2
  obtain ⟨b3, c3⟩ := wfU _h3
  obtain ⟨b4, c4⟩ := wfU _h4
  obtain ⟨ID, rfl⟩ := Int.eq_ofNat_of_zero_le b2
  obtain ⟨AT, rfl⟩ := Int.eq_ofNat_of_zero_le b3
  obtain ⟨LT, rfl⟩ := Int.eq_ofNat_of_zero_le b4
  have HSZ : Hid (∀ x ∈ [a0, a1], x.size ≤ maxLen) := by show ∀ x ∈ _, _; intro x hx; simp at hx; rcases hx with rfl | rfl; exact _h0; exact _h1
  clear _h0 _h1 _h2 _h3 _h4 b2 b3 b4
  obtain ⟨W0, hW0⟩ : ∃ W0, W0 = w.alloc (.cells #[.string a0, .string a1] 9) := ⟨_, rfl⟩
  have HB0 : Hid (Below w.heap.size w W0) := by show Below _ _ _; rw [hW0]; exact (Below.refl _ _).alloc (Nat.le_refl _) _
  have HC0 : Hid (∀ j x, [a0, a1][j]? = some x → W0.cell? ⟨w.heap.size, j, none⟩ = some (.string x)) := by
    show ∀ j x, _
    intro j x hx
    rw [hW0]
    match j, hx with
    | 0, hx => simp at hx; rw [← hx]; simp
    | 1, hx => simp at hx; rw [← hx]; simp
  have HW0 := Lib.hid hW0
  clear hW0
  obtain ⟨lg, hlg⟩ : ∃ lg, lg = longX 50 [a0, a1] := ⟨_, rfl⟩
  have HLG : Hid (longX 50 [a0, a1] = lg) := hlg.symm
  clear hlg
  cases lg with
  | true =>
    go_enter Try.func5, Try.ntmps5
    go_wp2_with fail
    rw [← HW0.out]
    refine (LongX_any 50 w.heap.size [a0, a1] W0 HC0.out (by omega) (by simp) HSZ.out).mono ?_
    rintro e w1 ⟨rfl, rfl⟩
    rw [HLG.out]
    go_wp2_with fail
    refine (awake13_any _).mono ?_
    rintro e w' ⟨rfl, hb⟩
    have HE := Lib.hid (HB0.out.trans (hb.mono HB0.out.size))
    clear hb
    go_wp2
    go_ret
    exact ⟨rfl, HE.out⟩
  | false =>
  by_cases g1 : (ID : Int) < 1
  · skip
    go_enter Try.func5, Try.ntmps5
    go_wp2_with fail
    rw [← HW0.out]
    refine (LongX_any 50 w.heap.size [a0, a1] W0 HC0.out (by omega) (by simp) HSZ.out).mono ?_
    rintro e w1 ⟨rfl, rfl⟩
    rw [HLG.out]
    go_wp2_with fail
    refine (awake13_any _).mono ?_
    rintro e w' ⟨rfl, hb⟩
    have HE := Lib.hid (HB0.out.trans (hb.mono HB0.out.size))
    clear hb
    go_wp2
    go_ret
    exact ⟨rfl, HE.out⟩
  by_cases g2 : 1152921504606846976 < (ID : Int)
  · skip
    go_enter Try.func5, Try.ntmps5
    go_wp2_with fail
    rw [← HW0.out]
    refine (LongX_any 50 w.heap.size [a0, a1] W0 HC0.out (by omega) (by simp) HSZ.out).mono ?_
    rintro e w1 ⟨rfl, rfl⟩
    rw [HLG.out]
    go_wp2_with fail
    refine (awake13_any _).mono ?_
    rintro e w' ⟨rfl, hb⟩
    have HE := Lib.hid (HB0.out.trans (hb.mono HB0.out.size))
    clear hb
    go_wp2
    go_ret
    exact ⟨rfl, HE.out⟩
  by_cases g3 : 1152921504606846976 < (AT : Int)
  · skip
    go_enter Try.func5, Try.ntmps5
    go_wp2_with fail
    rw [← HW0.out]
    refine (LongX_any 50 w.heap.size [a0, a1] W0 HC0.out (by omega) (by simp) HSZ.out).mono ?_
    rintro e w1 ⟨rfl, rfl⟩
    rw [HLG.out]
    go_wp2_with fail
    refine (awake13_any _).mono ?_
    rintro e w' ⟨rfl, hb⟩
    have HE := Lib.hid (HB0.out.trans (hb.mono HB0.out.size))
    clear hb
    go_wp2
    go_ret
    exact ⟨rfl, HE.out⟩
  by_cases g4 : 1152921504606846976 < (LT : Int)
  · skip
    go_enter Try.func5, Try.ntmps5
    go_wp2_with fail
    rw [← HW0.out]
    refine (LongX_any 50 w.heap.size [a0, a1] W0 HC0.out (by omega) (by simp) HSZ.out).mono ?_
    rintro e w1 ⟨rfl, rfl⟩
    rw [HLG.out]
    go_wp2_with fail
    refine (awake13_any _).mono ?_
    rintro e w' ⟨rfl, hb⟩
    have HE := Lib.hid (HB0.out.trans (hb.mono HB0.out.size))
    clear hb
    go_wp2
    go_ret
    exact ⟨rfl, HE.out⟩
  have HSUM : Hid ((AT : Int) + (LT : Int) = ((AT + LT : Nat) : Int)) := by show _ = _; omega
  have hid : ID ≠ 0 := by omega
  have I0 := Is.start 9 ID
  obtain ⟨s0, hs0⟩ : ∃ s0 : Pv, s0 = ⟨9, ID, 0, [], [], []⟩ := ⟨_, rfl⟩
  rw [← hs0] at I0
  have T1 := Lib.hid (I0.fresh (by omega) (k := a0) (now := AT) (by simp) (by rw [usedB_nil]; omega) (by simp))
  obtain ⟨s1, hs1⟩ : ∃ s1 : Pv, s1 = takeS a0 AT s0 := ⟨_, rfl⟩
  have I1 : Is s1 9 ID 1 [⟨1, a0, 0⟩] [] 1 := by rw [hs1]; have h1 := T1.out.2.2.2; simpa using h1
  have T2 := Lib.hid (I1.give (c := 1) (now := AT) (p := 0) (by rw [List.findIdx_cons]; simp [connB]) (by simp) hid)
  obtain ⟨s2, hs2⟩ : ∃ s2 : Pv, s2 = giveS 1 AT true s1 := ⟨_, rfl⟩
  have hst : sumT AT ID = AT + ID := by unfold sumT; rw [if_neg (by omega)]
  have I2 : Hid (Is s2 9 ID 1 [] [⟨1, a0, AT + ID⟩] 1) := by show Is _ _ _ _ _ _ _; rw [hs2]; have h1 := T2.out.2; simpa [nthC, hst] using h1
  have HH2 : Hid (hostS s2 1 = a0 ∧ hostB s2 1 = true) := by
    show _ ∧ _
    unfold hostS hostB
    rw [I2.out.b, I2.out.i]
    simp [List.findIdx_cons, connB, nthC]
  have HI2 : Hid (sortI (connsL s2.i) = [1]) := by show _ = _; rw [I2.out.i]; exact sortI_one 1
  have HS0 := Lib.hid hs0
  have HS1 := Lib.hid hs1
  have HS2 := Lib.hid hs2
  have L0 := Lib.hid I0.last
  have L2 := Lib.hid I2.out.last
  clear hs0 hs1 hs2 I0 I1 hst
  by_cases hl : LT < ID
  · have HDU : Hid (([⟨1, a0, AT + ID⟩] : List Cn).filter (fun c => !dueB (AT + LT) c) = [⟨1, a0, AT + ID⟩]) := by show _ = _; simp [dueB]; omega
    have T3 := Lib.hid (I2.out.again (by omega) (k := a0) (now := AT + LT) (j := 0) (by simp) (by rw [usedB_nil]; omega) (by rw [HDU.out]; exact lastO_some (k := 0) (by simp) (by simp [nthC]; exact ckeyB_iff.2 rfl) (by intro j h1 h2; simp at h2; omega)))
    obtain ⟨s3, hs3⟩ : ∃ s3 : Pv, s3 = takeS a0 (AT + LT) s2 := ⟨_, rfl⟩
    have I3 : Hid (Is s3 9 ID 1 [⟨1, a0, AT + ID⟩] [] 2) := by show Is _ _ _ _ _ _ _; rw [hs3]; have h1 := T3.out.2.2.2; simpa [HDU.out, nthC] using h1
    have HN3 : Hid (takeN a0 (AT + LT) s2 = 1) := by show _ = _; have h1 := T3.out.1; simpa [HDU.out, nthC] using h1
    have HS3 := Lib.hid hs3
    clear hs3
    have hlt : (LT : Int) < (ID : Int) := by omega
    go_enter Try.func5, Try.ntmps5
    go_wp2_with fail
    rw [← HW0.out]
    refine (LongX_any 50 w.heap.size [a0, a1] W0 HC0.out (by omega) (by simp) HSZ.out).mono ?_
    rintro e w1 ⟨rfl, rfl⟩
    rw [HLG.out]
    go_wp2_with fail
    refine (nNew_any 9 ID HB0.out (by omega)).mono ?_
    rintro e w1 ⟨g, f0, rfl, n0, _⟩
    rw [show clampT 9 = 9 by rfl, ← HS0.out] at n0
    have N0 := Lib.hid n0
    clear n0
    go_wp2_with fail
    refine (nTake_any a0 AT N0.out (by rw [L0.out]; omega)).mono ?_
    rintro e w2 ⟨rfl, f1, n1, _⟩
    rw [T1.out.1, T1.out.2.1, T1.out.2.2.1]
    rw [← HS1.out] at n1
    have N1 := Lib.hid n1
    clear n1
    go_wp2_with fail
    refine (nGive_any 1 AT true N1.out (by omega)).mono ?_
    rintro e w3 ⟨rfl, f2, n2, _⟩
    rw [T2.out.1]
    rw [← HS2.out] at n2
    have N2 := Lib.hid n2
    clear n2
    go_wp2_with fail
    refine (nIdle_any N2.out).mono ?_
    rintro e w4 ⟨r, rfl, hr, hrn, n4, _⟩
    rw [HI2.out] at hr
    have HR := Lib.hid hr
    have N4 := Lib.hid n4
    clear n4 hr hrn
    obtain ⟨W5, hW5⟩ : ∃ W5, W5 = w4.alloc (.cells #[.int .i64 1] 3) := ⟨_, rfl⟩
    have HO5 : Hid (Only [] w4 W5) := by show Only _ _ _; rw [hW5]; exact (Only.refl _ _).alloc _
    have HI5 : Hid (IRow W5 (.slice (some ⟨w4.heap.size, 0, none⟩) 1 1) [1]) := by show IRow _ _ _; rw [hW5]; exact IRow.one (World.alloc_heap_new w4 _)
    have N5 := Lib.hid (N4.out.old HO5.out)
    go_wp2_with fail
    rw [← hW5]
    clear hW5
    refine (Ints_any _ _ [1] W5 (HR.out.old HO5.out) HI5.out).mono ?_
    rintro e w5 ⟨rfl, ho5⟩
    have N5b := Lib.hid (N5.out.old ho5)
    clear ho5
    go_wp2_with fail
    refine (nHost_any 1 N5b.out).mono ?_
    rintro e w6 ⟨rfl, n6, _⟩
    rw [HH2.out.1, HH2.out.2]
    have N5c := Lib.hid n6
    clear n6
    go_wp2_with fail
    rw [HSUM.out]
    refine (nTake_any a0 (AT + LT) N5c.out (by rw [L2.out]; omega)).mono ?_
    rintro e w7 ⟨rfl, f6, n6, _⟩
    rw [HN3.out, T3.out.2.1, T3.out.2.2.1]
    rw [← HS3.out] at n6
    have N6 := Lib.hid n6
    clear n6
    by_cases hsame : a1 = a0
    · have hse : (a1.toList == a0.toList) = true := by rw [hsame]; exact beq_self_eq_true _
      go_wp2_with fail
      refine (awake13_any _).mono ?_
      rintro e w' ⟨rfl, hb⟩
      have HE := Lib.hid (N6.out.b.trans (hb.mono N6.out.b.size))
      clear hb
      go_wp2
      go_ret
      exact ⟨rfl, HE.out⟩
    · have hse : (a1.toList == a0.toList) = false := by
        rw [← Bool.not_eq_true, beq_iff_eq]
        intro h
        exact hsame (WideShapes.bytes_inj (by rw [ByteArray.toList_eq, ByteArray.toList_eq] at h; exact h))
      have T4 := Lib.hid (I3.out.fresh (by omega) (k := a1) (now := AT + LT) (by simp) (Nat.lt_of_le_of_lt (usedB_le _ _) (by simp)) (by intro c hc; simp at hc))
      have L3 := Lib.hid I3.out.last
      go_wp2_with fail
      rw [HSUM.out]
      refine (nTake_any a1 (AT + LT) N6.out (by rw [L3.out]; omega)).mono ?_
      rintro e w7 ⟨rfl, f7, n7, _⟩
      rw [T4.out.1, T4.out.2.1, T4.out.2.2.1]
      have N7 := Lib.hid n7
      clear n7
      go_wp2_with fail
      refine (awake13_any _).mono ?_
      rintro e w' ⟨rfl, hb⟩
      have HE := Lib.hid (N7.out.b.trans (hb.mono N7.out.b.size))
      clear hb
      go_wp2
      go_ret
      exact ⟨rfl, HE.out⟩
  · have HDU : Hid (([⟨1, a0, AT + ID⟩] : List Cn).filter (fun c => !dueB (AT + LT) c) = []) := by show _ = _; simp [dueB]; omega
    have T3 := Lib.hid (I2.out.fresh (by omega) (k := a0) (now := AT + LT) (by simp) (by rw [usedB_nil]; omega) (by rw [HDU.out]; intro c hc; simp at hc))
    obtain ⟨s3, hs3⟩ : ∃ s3 : Pv, s3 = takeS a0 (AT + LT) s2 := ⟨_, rfl⟩
    have I3 : Hid (Is s3 9 ID 2 [⟨2, a0, 0⟩] [] 2) := by show Is _ _ _ _ _ _ _; rw [hs3]; have h1 := T3.out.2.2.2; simpa [HDU.out, nthC] using h1
    have HN3 : Hid (takeN a0 (AT + LT) s2 = 2) := by show _ = _; have h1 := T3.out.1; simpa [HDU.out, nthC] using h1
    have HS3 := Lib.hid hs3
    clear hs3
    have hlt : ¬ (LT : Int) < (ID : Int) := by omega
    go_enter Try.func5, Try.ntmps5
    go_wp2_with fail
    rw [← HW0.out]
    refine (LongX_any 50 w.heap.size [a0, a1] W0 HC0.out (by omega) (by simp) HSZ.out).mono ?_
    rintro e w1 ⟨rfl, rfl⟩
    rw [HLG.out]
    go_wp2_with fail
    refine (nNew_any 9 ID HB0.out (by omega)).mono ?_
    rintro e w1 ⟨g, f0, rfl, n0, _⟩
    rw [show clampT 9 = 9 by rfl, ← HS0.out] at n0
    have N0 := Lib.hid n0
    clear n0
    go_wp2_with fail
    refine (nTake_any a0 AT N0.out (by rw [L0.out]; omega)).mono ?_
    rintro e w2 ⟨rfl, f1, n1, _⟩
    rw [T1.out.1, T1.out.2.1, T1.out.2.2.1]
    rw [← HS1.out] at n1
    have N1 := Lib.hid n1
    clear n1
    go_wp2_with fail
    refine (nGive_any 1 AT true N1.out (by omega)).mono ?_
    rintro e w3 ⟨rfl, f2, n2, _⟩
    rw [T2.out.1]
    rw [← HS2.out] at n2
    have N2 := Lib.hid n2
    clear n2
    go_wp2_with fail
    refine (nIdle_any N2.out).mono ?_
    rintro e w4 ⟨r, rfl, hr, hrn, n4, _⟩
    rw [HI2.out] at hr
    have HR := Lib.hid hr
    have N4 := Lib.hid n4
    clear n4 hr hrn
    obtain ⟨W5, hW5⟩ : ∃ W5, W5 = w4.alloc (.cells #[.int .i64 1] 3) := ⟨_, rfl⟩
    have HO5 : Hid (Only [] w4 W5) := by show Only _ _ _; rw [hW5]; exact (Only.refl _ _).alloc _
    have HI5 : Hid (IRow W5 (.slice (some ⟨w4.heap.size, 0, none⟩) 1 1) [1]) := by show IRow _ _ _; rw [hW5]; exact IRow.one (World.alloc_heap_new w4 _)
    have N5 := Lib.hid (N4.out.old HO5.out)
    go_wp2_with fail
    rw [← hW5]
    clear hW5
    refine (Ints_any _ _ [1] W5 (HR.out.old HO5.out) HI5.out).mono ?_
    rintro e w5 ⟨rfl, ho5⟩
    have N5b := Lib.hid (N5.out.old ho5)
    clear ho5
    go_wp2_with fail
    refine (nHost_any 1 N5b.out).mono ?_
    rintro e w6 ⟨rfl, n6, _⟩
    rw [HH2.out.1, HH2.out.2]
    have N5c := Lib.hid n6
    clear n6
    go_wp2_with fail
    rw [HSUM.out]
    refine (nTake_any a0 (AT + LT) N5c.out (by rw [L2.out]; omega)).mono ?_
    rintro e w7 ⟨rfl, f6, n6, _⟩
    rw [HN3.out, T3.out.2.1, T3.out.2.2.1]
    rw [← HS3.out] at n6
    have N6 := Lib.hid n6
    clear n6
    by_cases hsame : a1 = a0
    · have hse : (a1.toList == a0.toList) = true := by rw [hsame]; exact beq_self_eq_true _
      go_wp2_with fail
      refine (awake13_any _).mono ?_
      rintro e w' ⟨rfl, hb⟩
      have HE := Lib.hid (N6.out.b.trans (hb.mono N6.out.b.size))
      clear hb
      go_wp2
      go_ret
      exact ⟨rfl, HE.out⟩
    · have hse : (a1.toList == a0.toList) = false := by
        rw [← Bool.not_eq_true, beq_iff_eq]
        intro h
        exact hsame (WideShapes.bytes_inj (by rw [ByteArray.toList_eq, ByteArray.toList_eq] at h; exact h))
      have T4 := Lib.hid (I3.out.fresh (by omega) (k := a1) (now := AT + LT) (by simp) (Nat.lt_of_le_of_lt (usedB_le _ _) (by simp)) (by intro c hc; simp at hc))
      have L3 := Lib.hid I3.out.last
      go_wp2_with fail
      rw [HSUM.out]
      refine (nTake_any a1 (AT + LT) N6.out (by rw [L3.out]; omega)).mono ?_
      rintro e w7 ⟨rfl, f7, n7, _⟩
      rw [T4.out.1, T4.out.2.1, T4.out.2.2.1]
      have N7 := Lib.hid n7
      clear n7
      go_wp2_with fail
      refine (awake13_any _).mono ?_
      rintro e w' ⟨rfl, hb⟩
      have HE := Lib.hid (N7.out.b.trans (hb.mono N7.out.b.size))
      clear hb
      go_wp2
      go_ret
      exact ⟨rfl, HE.out⟩
end Go.Proofs.Ytbnmldfiheffoaa
