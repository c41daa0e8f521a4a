/-
  The walk of the law TimerRooms: whatever the number, it returns true, and nothing that was there has turned. No conditions.
-/
import Derived.Test.YtbpdemgbljbhcaaWAwake
import Derived.Test.YtbpdemgbljbhcaaKLow
namespace Go.Proofs.Ytbpdemgbljbhcaa
open Go.RowKit

theorem without_len {next i : Int} {s : List Al} (hi : Ids next s) {a : Al} (ha : a ∈ s) (e : a.2.1 = i) : (without i s).length + 1 = s.length := by
  obtain ⟨l1, l2, rfl⟩ := List.append_of_mem ha
  have hp : (a :: (l1 ++ l2)).Perm (l1 ++ a :: l2) := List.perm_middle.symm
  have h1 := without_perm hp e hi.nodup
  rw [← h1.length_eq]
  simp
  omega
theorem any_yes {i : Int} {s : List Al} {a : Al} (ha : a ∈ s) (e : a.2.1 = i) : s.any (fun a => decide (a.2.1 = i)) = true := by
  rw [List.any_eq_true]; exact ⟨a, ha, by simpa using e⟩
theorem clamp_in {n : Int} (h1 : 1 ≤ n) (h2 : n ≤ 256) : clampM n = n := by unfold clampM; rw [if_neg (by omega), if_neg (by omega)]

set_option maxHeartbeats 1200000 in
theorem walk_TimerRooms (a0 : Int) (w : World) (_h0 : (Lit.int .i64 a0).wf = true) :
    Calls Try.prog 5 #[.int .i64 a0] w fun e w' => e = .returned (.bool true) ∧ Below w.heap.size w w' := by
  clear _h0
  obtain ⟨q, hq⟩ : ∃ q : Nat, lowV a0 256 = (q : Int) := ⟨(lowV a0 256).toNat, by have := lowV_bd a0 (n := 256) (by omega); omega⟩
  have hq2 : q < 256 := by have := lowV_bd a0 (n := 256) (by omega); omega
  have HQ := Lib.hid hq
  clear hq
  go_enter Try.func5, Try.ntmps5
  go_wp2_with fail
  refine (Low_any a0 256 w (by omega) (by omega)).mono ?_
  rintro e w' ⟨rfl, rfl⟩
  rw [HQ.out]
  obtain ⟨k, hk⟩ : ∃ k : Nat, k = q + 1 := ⟨_, rfl⟩
  have HK : Hid (1 + (q : Int) = (k : Int)) := by show _ = _; omega
  go_wp2_with fail
  rw [HK.out]
  refine (wheelNew_wh (k : Int) w).mono ?_
  rintro e w1 ⟨rfl, hw1, ho1, _⟩
  have HW1 : Hid (Wh w1 w.heap.size (k : Int) 1 (.slice none 0 0) []) := by
    show Wh _ _ _ _ _ _
    rw [clamp_in (by omega) (by omega)] at hw1
    exact hw1
  have HB1 : Hid (Below w.heap.size w w1) := ho1.to_below (by simp)
  clear hw1 ho1 HK HQ
  have hk1 : 1 ≤ k := by omega
  have hk2 : k ≤ 256 := by omega
  clear hk hq2
  go_wp2_with fail
  go_loopw [5] (fun i wr => ∃ (j : Nat) (v : Value) (s : List Al), j ≤ k ∧ i = .int .i64 ((j : Int) + 1) ∧ s.length = j ∧ Wh wr w.heap.size (k : Int) ((j : Int) + 1) v s ∧ (1 ≤ j → ∃ a ∈ s, a.2.1 = 1) ∧ Below w.heap.size w wr) (fun i _ => k + 1 - (intOf i).toNat)
  case atStart => exact ⟨0, _, [], by omega, rfl, rfl, HW1.out, by omega, HB1.out⟩
  case round =>
    obtain ⟨j, v, s, hj, rfl, hsl, hw, h1, hb⟩ := hrel
    have HSL := Lib.hid hsl
    have HW := Lib.hid hw
    have H1 := Lib.hid h1
    have HB := Lib.hid hb
    clear hsl hw h1 hb
    by_cases hlt : j < k
    · have hji : (j : Int) + 1 ≤ (k : Int) := by omega
      go_wp2_with fail
      refine (wheelArm_room w.heap.size k ((j : Int) + 1) v s _ _ wr HW.out (by rw [HSL.out]; omega) (by omega) (by omega) (by omega)).mono ?_
      rintro e w2 ⟨rfl, v2, hw2, ho2, _⟩
      have HW2 := Lib.hid hw2
      have HB2 : Hid (Below w.heap.size w w2) := Only.above HB.out ho2 (Nat.le_refl _) (HW.out.up (Nat.le_refl _)).foot
      clear hw2 ho2
      go_wp2_with fail
      go_roundw
      case rel =>
        refine ⟨j + 1, v2, _, by omega, by go_num, by rw [List.length_append, HSL.out]; rfl, HW2.out, ?_, HB2.out⟩
        intro _
        by_cases hj0 : 1 ≤ j
        · obtain ⟨a, ha, he⟩ := H1.out hj0
          exact ⟨a, List.mem_append_left _ ha, he⟩
        · exact ⟨_, List.mem_append_right _ (List.mem_singleton.2 rfl), by show (j : Int) + 1 = 1; omega⟩
      case measure => simp [intOf]; omega
    · obtain rfl : j = k := by omega
      have hji : ¬ (j : Int) + 1 ≤ (j : Int) := by omega
      obtain ⟨a, ha, he⟩ := H1.out hk1
      go_wp2_with fail
      refine (wheelArm_full w.heap.size j _ v s 0 0 wr HW.out (by rw [HSL.out]; omega)).mono ?_
      rintro e w2 ⟨rfl, hw2, ho2⟩
      have HW2 := Lib.hid hw2
      have HB2 : Hid (Below w.heap.size w w2) := Only.above HB.out ho2 (Nat.le_refl _) (by simp)
      clear hw2 ho2
      go_wp2_with fail
      refine (wheelCancel_any w.heap.size j _ v s 1 w2 HW2.out (by rw [HSL.out]; omega)).mono ?_
      rintro e w3 ⟨rfl, v3, hw3, ho3, _⟩
      rw [any_yes ha he]
      have HW3 := Lib.hid hw3
      have HB3 : Hid (Below w.heap.size w w3) := Only.above HB2.out ho3 (Nat.le_refl _) (HW2.out.up (Nat.le_refl _)).foot
      have HL3 : Hid ((without 1 s).length + 1 = j) := by show _ = _; rw [without_len HW.out.ids ha he]; exact HSL.out
      clear hw3 ho3 ha he
      obtain ⟨s3, hs3⟩ : ∃ s3, s3 = without 1 s := ⟨_, rfl⟩
      rw [← hs3] at HW3 HL3
      clear hs3
      go_wp2_with fail
      refine (wheelArm_room w.heap.size j ((j : Int) + 1) v3 s3 0 0 w3 HW3.out (by have := HL3.out; omega) (by omega) (by omega) (by omega)).mono ?_
      rintro e w4 ⟨rfl, v4, hw4, ho4, _⟩
      have HW4 := Lib.hid hw4
      have HB4 : Hid (Below w.heap.size w w4) := Only.above HB3.out ho4 (Nat.le_refl _) (HW3.out.up (Nat.le_refl _)).foot
      have HL4 : Hid ((s3 ++ [((0 : Int), (j : Int) + 1, (0 : Int))]).length = j) := by show _ = _; rw [List.length_append]; exact HL3.out
      clear hw4 ho4
      go_wp2_with fail
      refine (wheelLen_any w.heap.size j _ v4 _ w4 HW4.out).mono ?_
      rintro e w' ⟨rfl, rfl⟩
      rw [HL4.out]
      go_wp2_with fail
      refine (awake9_any _).mono ?_
      rintro e w5 ⟨rfl, hb5⟩
      go_wp2
      go_ret
      exact ⟨rfl, HB4.out.trans (hb5.mono HB4.out.size)⟩
end Go.Proofs.Ytbpdemgbljbhcaa
