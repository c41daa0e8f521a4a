/-
  The walk of the law SafeRanges: whatever the numbers, it returns true, and nothing that was there has turned. Conditions: the numbers fit their kinds.
-/
import Derived.Test.YtinpfkbplflecaaVAwake
namespace Go.Proofs.Ytinpfkbplflecaa
open Go.RowKit

theorem val_nou (k : Nat) (l : List UInt8) : Lk.valL (List.replicate k 48 ++ l) = Lk.valL l := by
  have h : ∀ k, List.foldl (fun n (b : UInt8) => 10 * n + (b.toNat - 48)) 0 (List.replicate k 48) = 0 := by
    intro k
    induction k with
    | zero => rfl
    | succ k ih => rw [List.replicate_succ, List.foldl_cons]; exact ih
  unfold Lk.valL
  rw [List.foldl_append, h]
theorem dig_nou (k : Nat) {l : List UInt8} (h : Lk.digL l = true) : Lk.digL (List.replicate k 48 ++ l) = true := by
  refine dig_of ?_ ?_
  · intro b hb
    rcases List.mem_append.1 hb with hb | hb
    · obtain rfl := (List.mem_replicate.1 hb).2; decide
    · exact dig_all h b hb
  · have := digL_ne h
    cases l with
    | nil => exact absurd rfl this
    | cons x r => simp
/-- digits, noughts ahead -/
def nou (k n : Nat) : List UInt8 := List.replicate k 48 ++ numL n
theorem nou_ok (k : Nat) {n : Nat} (h : n ≤ Lk.M64) : Lk.digL (nou k n) = true ∧ Lk.sat (Lk.valL (nou k n)) = n := by
  have h1 := numL_ok h
  refine ⟨dig_nou k h1.1, ?_⟩
  rw [nou, val_nou, h1.2.1]
  unfold Lk.sat; omega
theorem dig_no45 {l : List UInt8} (h : Lk.digL l = true) : ∀ b ∈ l, b ≠ 45 := by
  intro b hb e
  have := dig_all h b hb
  subst e
  simp at this
theorem span_two {x y : List UInt8} {a b : Nat} (hx : Lk.digL x = true) (hy : Lk.digL y = true) (ha : Lk.sat (Lk.valL x) = a) (hb : Lk.sat (Lk.valL y) = b) : spanL (x ++ 45 :: y) = decide (a ≤ b) := by
  unfold spanL
  rw [split1_at 45 x y (dig_no45 hx)]
  have : y.isEmpty = false := by
    cases y with
    | nil => exact absurd rfl (digL_ne hy)
    | cons c r => rfl
  simp only [hx, hy, ha, hb, this, Bool.true_and, Bool.false_or]
theorem span_one {x : List UInt8} (hx : Lk.digL x = true) : spanL (x ++ [45]) = true := by
  unfold spanL
  rw [split1_at 45 x [] (dig_no45 hx)]
  simp only [hx]; rfl
theorem span_none {x : List UInt8} (hx : Lk.digL x = true) : spanL x = false := by
  unfold spanL
  rw [split1_none 45 x (dig_no45 hx)]
theorem span_head (y : List UInt8) : spanL (45 :: y) = false := by
  unfold spanL
  rw [show (45 :: y : List UInt8) = [] ++ 45 :: y from rfl, split1_at 45 [] y (by simp)]
  rfl
theorem range_b (t : List UInt8) : rangeL (98 :: 121 :: 116 :: 101 :: 115 :: 61 :: t) = spanL t := by
  unfold rangeL bytesT
  simp
theorem range_cap (t : List UInt8) : rangeL (66 :: 121 :: 116 :: 101 :: 115 :: 61 :: t) = false := by
  unfold rangeL bytesT
  simp
theorem dig_sp {b : UInt8} (h : 48 ≤ b.toNat ∧ b.toNat ≤ 57) : Lk.sp b = false := by
  simp [Lk.sp, Lk.spB]; omega
theorem tight_range {x y : List UInt8} (hy : Lk.digL y = true) : Lk.trimL (98 :: 121 :: 116 :: 101 :: 115 :: 61 :: (x ++ 45 :: y)) = 98 :: 121 :: 116 :: 101 :: 115 :: 61 :: (x ++ 45 :: y) := by
  apply Lk.trim_of_tight
  refine .inr ⟨⟨98, _, rfl, by decide⟩, ?_⟩
  obtain ⟨r, c, hr⟩ : ∃ r c, y = r ++ [c] := by
    have hne := digL_ne hy
    exact ⟨y.dropLast, y.getLast hne, (List.dropLast_concat_getLast hne).symm⟩
  refine ⟨c, 98 :: 121 :: 116 :: 101 :: 115 :: 61 :: (x ++ 45 :: r), by rw [hr]; simp, ?_⟩
  exact dig_sp (dig_all hy c (by rw [hr]; simp))
theorem safe_range {x y : List UInt8} {a b : Nat} (hx : Lk.digL x = true) (hy : Lk.digL y = true) (ha : Lk.sat (Lk.valL x) = a) (hb : Lk.sat (Lk.valL y) = b) (hz : x.length + y.length ≤ 100) :
    safeH ([82, 65, 78, 71, 69], 98 :: 121 :: 116 :: 101 :: 115 :: 61 :: (x ++ 45 :: y)) = decide (a ≤ b) := by
  unfold safeH
  rw [tight_range hy, decide_eq_true (by simp; omega), Bool.true_and]
  show kindOk (Lk.lower [82, 65, 78, 71, 69]) _ = _
  rw [show Lk.lower [82, 65, 78, 71, 69] = rangeT by decide]
  unfold kindOk
  rw [if_neg (by decide), if_neg (by decide), if_neg (by decide), if_neg (by decide), if_pos rfl, range_b, span_two hx hy ha hb]

set_option maxRecDepth 100000 in
set_option maxHeartbeats 4000000 in
theorem walk_SafeRanges (a0 a1 a2 : Int) (w : World) (h0 : (Lit.int .u64 a0).wf = true) (h1 : (Lit.int .u64 a1).wf = true) (_h2 : (Lit.int .i64 a2).wf = true) :
    Calls Try.prog 5 #[.int .u64 a0, .int .u64 a1, .int .i64 a2] w fun e w' => e = .returned (.bool true) ∧ Below w.heap.size w w' := by
  have b0 := wfU h0
  have b1 := wfU h1
  clear h0 h1
  obtain ⟨a, rfl⟩ := Int.eq_ofNat_of_zero_le b0.1
  obtain ⟨b, rfl⟩ := Int.eq_ofNat_of_zero_le b1.1
  have ha : a ≤ Lk.M64 := by unfold Lk.M64; omega
  have hb : b ≤ Lk.M64 := by unfold Lk.M64; omega
  obtain ⟨q, hq, hq4⟩ := low_nat a2 4 (by decide)
  have HQ : Hid (lowV a2 4 = (q : Int)) := hq
  clear hq
  have hX := nou_ok q ha
  have hY := nou_ok 0 hb
  have lx : (nou q a).length ≤ 29 := by have := (numL_ok ha).2.2; simp [nou]; omega
  have ly : (numL b).length ≤ 26 := (numL_ok hb).2.2
  have eY : nou 0 b = numL b := rfl
  rw [eY] at hY
  obtain ⟨x, hx⟩ : ∃ x : ByteArray, x = mk (nou q a) := ⟨_, rfl⟩
  obtain ⟨y, hy⟩ : ∃ y : ByteArray, y = mk (numL b) := ⟨_, rfl⟩
  have hxz : x.size ≤ 29 := by rw [hx, mk_size]; exact lx
  have hyz : y.size ≤ 26 := by rw [hy, mk_size]; exact ly
  have zq : (mk (List.replicate q 48)).size ≤ 4 := by rw [mk_size]; simp; omega
  have za : (mk (numL a)).size ≤ 26 := by rw [mk_size]; exact (numL_ok ha).2.2
  have HC : Hid (mk (List.replicate q 48) ++ mk (numL a) = x) := by show _ = _; rw [mk_append, hx]; rfl
  have HYE : Hid (mk (numL b) = y) := hy.symm
  obtain ⟨B6, hB6⟩ : ∃ s : ByteArray, s = ⟨#[98, 121, 116, 101, 115, 61]⟩ := ⟨_, rfl⟩
  obtain ⟨s1, e1⟩ : ∃ s : ByteArray, s = ⟨#[98, 121, 116, 101, 115, 61]⟩ ++ x ++ ⟨#[45]⟩ ++ y := ⟨_, rfl⟩
  obtain ⟨s2, e2⟩ : ∃ s : ByteArray, s = ⟨#[98, 121, 116, 101, 115, 61]⟩ ++ x ++ ⟨#[45]⟩ := ⟨_, rfl⟩
  obtain ⟨s3, e3⟩ : ∃ s : ByteArray, s = ⟨#[98, 121, 116, 101, 115, 61, 45]⟩ ++ y := ⟨_, rfl⟩
  obtain ⟨s4, e4⟩ : ∃ s : ByteArray, s = ⟨#[98, 121, 116, 101, 115, 61]⟩ ++ x := ⟨_, rfl⟩
  obtain ⟨s5, e5⟩ : ∃ s : ByteArray, s = ⟨#[66, 121, 116, 101, 115, 61]⟩ ++ x ++ ⟨#[45]⟩ := ⟨_, rfl⟩
  have d1 : s1.data.toList = 98 :: 121 :: 116 :: 101 :: 115 :: 61 :: (nou q a ++ 45 :: numL b) := by rw [e1, hx, hy]; simp [mk]
  have d2 : s2.data.toList = 98 :: 121 :: 116 :: 101 :: 115 :: 61 :: (nou q a ++ [45]) := by rw [e2, hx]; simp [mk]
  have d3 : s3.data.toList = 98 :: 121 :: 116 :: 101 :: 115 :: 61 :: (45 :: numL b) := by rw [e3, hy]; simp [mk]
  have d4 : s4.data.toList = 98 :: 121 :: 116 :: 101 :: 115 :: 61 :: nou q a := by rw [e4, hx]; simp [mk]
  have d5 : s5.data.toList = 66 :: 121 :: 116 :: 101 :: 115 :: 61 :: (nou q a ++ [45]) := by rw [e5, hx]; simp [mk]
  have z1 : s1.size ≤ 1000 := by have := congrArg List.length d1; simp at this; omega
  have z2 : s2.size ≤ 1000 := by have := congrArg List.length d2; simp at this; omega
  have z3 : s3.size ≤ 1000 := by have := congrArg List.length d3; simp at this; omega
  have z4 : s4.size ≤ 1000 := by have := congrArg List.length d4; simp at this; omega
  have z5 : s5.size ≤ 1000 := by have := congrArg List.length d5; simp at this; omega
  have R1 : Hid (rangeL s1.data.toList = decide (a ≤ b)) := by show _ = _; rw [d1, range_b, span_two hX.1 hY.1 hX.2 hY.2]
  have R2 : Hid (rangeL s2.data.toList = true) := by show _ = _; rw [d2, range_b, span_one hX.1]
  have R3 : Hid (rangeL s3.data.toList = false) := by show _ = _; rw [d3, range_b, span_head]
  have R4 : Hid (rangeL s4.data.toList = false) := by show _ = _; rw [d4, range_b, span_none hX.1]
  have R5 : Hid (rangeL s5.data.toList = false) := by show _ = _; rw [d5, range_cap]
  have R6 : Hid (safeH (hd (⟨#[82, 65, 78, 71, 69]⟩, s1)) = decide (a ≤ b)) := by
    show _ = _
    show safeH ([82, 65, 78, 71, 69], s1.data.toList) = _
    rw [d1, safe_range hX.1 hY.1 hX.2 hY.2 (by omega)]
  have E1 := Lib.hid e1
  have E2 := Lib.hid e2
  have E3 := Lib.hid e3
  have E4 := Lib.hid e4
  have E5 := Lib.hid e5
  clear e1 e2 e3 e4 e5 d1 d2 d3 d4 d5 hX hY eY hx hy hB6 lx ly B6
  have HAB : Hid (((a : Int) ≤ (b : Int)) ↔ a ≤ b) := by constructor <;> (intro h; omega)
  go_enter Try.func5, Try.ntmps5
  go_wp2_with fail
  refine (Low_any _ _ _ (by decide) (by decide)).mono ?_
  rintro e w' ⟨rfl, rfl⟩
  rw [HQ.out]
  go_wp2_with fail
  refine (Text_any q 48 _ (by omega)).mono ?_
  rintro e w1 ⟨rfl, hb1⟩
  have HB1 : Hid (Below w.heap.size w w1) := hb1
  clear hb1
  go_wp2_with fail
  refine (Num_any a _ ha).mono ?_
  rintro e w' ⟨rfl, rfl⟩
  go_wp2_with fail
  rw [HC.out]
  refine (Num_any b _ hb).mono ?_
  rintro e w' ⟨rfl, rfl⟩
  rw [HYE.out]
  go_wp2_with fail
  rw [← E1.out]
  refine (Range_any s1 _ (by unfold maxLen; omega)).mono ?_
  rintro e w2 ⟨rfl, n2, hw⟩
  rw [R1.out]
  have HB2 : Hid (Below w.heap.size w w2) := by show Below _ _ _; rw [hw]; exact below_drewN HB1.out _
  clear hw
  by_cases hab : a ≤ b
  · have hab2 : (a : Int) ≤ (b : Int) := by omega
    rw [decide_eq_true hab]
    go_wp2_with fail
    rw [← E2.out]
    refine (Range_any s2 _ (by unfold maxLen; omega)).mono ?_
    rintro e w3 ⟨rfl, n3, hw⟩
    rw [R2.out]
    have HB3 : Hid (Below w.heap.size w w3) := by show Below _ _ _; rw [hw]; exact below_drewN HB2.out _
    clear hw
    go_wp2_with fail
    rw [← E3.out]
    refine (Range_any s3 _ (by unfold maxLen; omega)).mono ?_
    rintro e w4 ⟨rfl, n4, hw⟩
    rw [R3.out]
    have HB4 : Hid (Below w.heap.size w w4) := by show Below _ _ _; rw [hw]; exact below_drewN HB3.out _
    clear hw
    go_wp2_with fail
    rw [← E4.out]
    refine (Range_any s4 _ (by unfold maxLen; omega)).mono ?_
    rintro e w5 ⟨rfl, n5, hw⟩
    rw [R4.out]
    have HB5 : Hid (Below w.heap.size w w5) := by show Below _ _ _; rw [hw]; exact below_drewN HB4.out _
    clear hw
    go_wp2_with fail
    rw [← E5.out]
    refine (Range_any s5 _ (by unfold maxLen; omega)).mono ?_
    rintro e w6 ⟨rfl, n6, hw⟩
    rw [R5.out]
    have HB6 : Hid (Below w.heap.size w w6) := by show Below _ _ _; rw [hw]; exact below_drewN HB5.out _
    clear hw
    go_wp2_with fail
    rw [← E1.out]
    refine (Header_any ⟨#[82, 65, 78, 71, 69]⟩ s1 _ (by unfold maxLen; decide) (by unfold maxLen; omega)).mono ?_
    rintro e w7 ⟨rfl, hb⟩
    rw [R6.out, decide_eq_true hab]
    have HB7 : Hid (Below w.heap.size w w7) := HB6.out.trans (hb.mono HB6.out.size)
    clear hb
    go_wp2_with fail
    refine (awake7_any _).mono ?_
    rintro e w8 ⟨rfl, hb⟩
    go_wp2
    go_ret
    exact ⟨rfl, HB7.out.trans (hb.mono HB7.out.size)⟩
  · have hab2 : ¬ (a : Int) ≤ (b : Int) := by omega
    rw [decide_eq_false hab]
    go_wp2_with fail
    rw [← E2.out]
    refine (Range_any s2 _ (by unfold maxLen; omega)).mono ?_
    rintro e w3 ⟨rfl, n3, hw⟩
    rw [R2.out]
    have HB3 : Hid (Below w.heap.size w w3) := by show Below _ _ _; rw [hw]; exact below_drewN HB2.out _
    clear hw
    go_wp2_with fail
    rw [← E3.out]
    refine (Range_any s3 _ (by unfold maxLen; omega)).mono ?_
    rintro e w4 ⟨rfl, n4, hw⟩
    rw [R3.out]
    have HB4 : Hid (Below w.heap.size w w4) := by show Below _ _ _; rw [hw]; exact below_drewN HB3.out _
    clear hw
    go_wp2_with fail
    rw [← E4.out]
    refine (Range_any s4 _ (by unfold maxLen; omega)).mono ?_
    rintro e w5 ⟨rfl, n5, hw⟩
    rw [R4.out]
    have HB5 : Hid (Below w.heap.size w w5) := by show Below _ _ _; rw [hw]; exact below_drewN HB4.out _
    clear hw
    go_wp2_with fail
    rw [← E5.out]
    refine (Range_any s5 _ (by unfold maxLen; omega)).mono ?_
    rintro e w6 ⟨rfl, n6, hw⟩
    rw [R5.out]
    have HB6 : Hid (Below w.heap.size w w6) := by show Below _ _ _; rw [hw]; exact below_drewN HB5.out _
    clear hw
    go_wp2_with fail
    rw [← E1.out]
    refine (Header_any ⟨#[82, 65, 78, 71, 69]⟩ s1 _ (by unfold maxLen; decide) (by unfold maxLen; omega)).mono ?_
    rintro e w7 ⟨rfl, hb⟩
    rw [R6.out, decide_eq_false hab]
    have HB7 : Hid (Below w.heap.size w w7) := HB6.out.trans (hb.mono HB6.out.size)
    clear hb
    go_wp2_with fail
    refine (awake7_any _).mono ?_
    rintro e w8 ⟨rfl, hb⟩
    go_wp2
    go_ret
    exact ⟨rfl, HB7.out.trans (hb.mono HB7.out.size)⟩
end Go.Proofs.Ytinpfkbplflecaa
