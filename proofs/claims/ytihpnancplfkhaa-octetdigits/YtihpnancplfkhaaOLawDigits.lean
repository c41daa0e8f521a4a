/-
  The walk of the law OctetDigits: whatever the numbers and the byte, it returns true, and nothing that was there has turned. Conditions: the numbers fit their kinds.
-/
import Derived.Test.YtihpnancplfkhaaONum
import Derived.OpenShut
import Derived.StillTailTactics
namespace Go.Proofs.Ytihpnancplfkhaa
open Go.RowKit

theorem val_zeros (k : Nat) (l : List UInt8) : Lk.valL (List.replicate k 48 ++ l) = Lk.valL l := by
  have h : ∀ k, List.foldl (fun n (b : UInt8) => 10 * n + (b.toNat - 48)) 0 (List.replicate k 48) = 0 := by
    intro k
    induction k with
    | zero => rfl
    | succ k ih => rw [List.replicate_succ, List.foldl_cons]; exact ih
  unfold Lk.valL
  rw [List.foldl_append, h]
theorem dig_zeros (k : Nat) {l : List UInt8} (h : Lk.digL l = true) : Lk.digL (List.replicate k 48 ++ l) = true := by
  simp only [Lk.digL, Bool.and_eq_true] at h ⊢
  refine ⟨?_, ?_⟩
  · rw [List.all_append, h.1, List.all_replicate]
    simp; right; decide
  · have := h.2
    simp at this ⊢; intro _; exact this
theorem dig_mid {a b : List UInt8} {c : UInt8} (h : Lk.digB c.toNat = false) : Lk.digL (a ++ [c] ++ b) = false := by
  simp [Lk.digL, h]

theorem Digits_no (t : ByteArray) (w : World) (ht : t.size ≤ maxLen) (h : Lk.digL t.data.toList = false) :
    Calls Try.prog 12 #[.string t] w fun e w' => e = .returned (.tuple #[.int .u64 0, .bool false]) ∧ w = w' := by
  rw [← digRes_f h]; exact Digits_any t w ht

/-- the digits behind the noughts -/
def nulls (k n : Nat) : List UInt8 := List.replicate k 48 ++ numL n
theorem nulls_len (k n : Nat) (hk : k ≤ 30) (hn : n ≤ Lk.M64) : (nulls k n).length ≤ 60 := by
  have := (numL_ok hn).2.2
  simp [nulls]; omega
theorem nulls_res (k n : Nat) (hn : n ≤ Lk.M64) : digRes (nulls k n) = .tuple #[.int .u64 (n : Int), .bool true] := by
  have h := numL_ok hn
  rw [nulls, digRes_t (dig_zeros k h.1), val_zeros, h.2.1]
  have : Lk.sat n = n := by unfold Lk.sat; omega
  rw [this]

set_option maxHeartbeats 2000000 in
theorem walk_OctetDigits (a0 a1 a2 a3 : Int) (w : World) (h0 : (Lit.int .u64 a0).wf = true) (_h1 : (Lit.int .i64 a1).wf = true) (_h2 : (Lit.int .i64 a2).wf = true) (h3 : (Lit.int .u8 a3).wf = true) :
    Calls Try.prog 7 #[.int .u64 a0, .int .i64 a1, .int .i64 a2, .int .u8 a3] w fun e w' => e = .returned (.bool true) ∧ Below w.heap.size w w' := by
  have b0 := bounds_u64 h0
  have b3 := bounds_u8 h3
  clear h0 h3
  obtain ⟨n, rfl⟩ := Int.eq_ofNat_of_zero_le b0.1
  have hn : n ≤ Lk.M64 := by unfold Lk.M64; omega
  obtain ⟨c, rfl⟩ : ∃ c : UInt8, a3 = (c.toNat : Int) := ⟨UInt8.ofNat a3.toNat, by rw [UInt8.toNat_ofNat']; omega⟩
  have hlo := lowV_bd a1 (n := 30) (by decide)
  obtain ⟨q, hq⟩ := Int.eq_ofNat_of_zero_le hlo.1
  have hq30 : q ≤ 30 := by omega
  have HQ := Lib.hid hq
  obtain ⟨s, hs⟩ : ∃ s : ByteArray, s = mk (nulls q n) := ⟨_, rfl⟩
  have hsz : s.size ≤ 60 := by rw [hs, mk_size]; exact nulls_len q n hq30 hn
  have HS := Lib.hid hs
  have HR : Hid (digRes s.data.toList = .tuple #[.int .u64 (n : Int), .bool true]) := by show _ = _; rw [hs, mk_data]; exact nulls_res q n hn
  have HC : Hid (mk (List.replicate q 48) ++ mk (numL n) = s) := by show _ = _; rw [mk_append, hs]; rfl
  have z1 : (mk (List.replicate q 48)).size ≤ 30 := by rw [mk_size]; simp; omega
  have z2 : (mk (numL n)).size ≤ 26 := by rw [mk_size]; exact (numL_ok hn).2.2
  have hlo2 := lowV_bd a2 (n := (s.size : Int) + 1) (by omega)
  obtain ⟨k, hk⟩ := Int.eq_ofNat_of_zero_le hlo2.1
  have hks : k ≤ s.size := by omega
  have HK := Lib.hid hk
  clear hlo hq hs hlo2 hk
  cases hd : Lk.digB c.toNat
  · have HD := Lib.hid hd
    have hdd : ¬ (48 ≤ (c.toNat : Int) ∧ (c.toNat : Int) ≤ 57) := by simpa [Lk.digB] using hd
    clear hd
    go_enter Try.func7, Try.ntmps7
    go_wp2_with fail
    refine (Low_any _ _ _ (by decide) (by decide)).mono ?_
    rintro e w' ⟨rfl, rfl⟩
    rw [HQ.out]
    go_wp2_with fail
    refine (Text_any q 48 _ (by omega)).mono ?_
    rintro e w1 ⟨rfl, hb1⟩
    go_wp2_with fail
    refine (Num_any n _ hn).mono ?_
    rintro e w' ⟨rfl, rfl⟩
    go_wp2_with fail
    rw [HC.out]
    refine (Digits_any s _ (by unfold maxLen; omega)).mono ?_
    rintro e w' ⟨rfl, rfl⟩
    rw [HR.out]
    go_wp2_with fail
    refine (Low_any _ _ _ (by omega) (by omega)).mono ?_
    rintro e w' ⟨rfl, rfl⟩
    rw [HK.out]
    have hcv : ∀ W : World, (convert 47 9 (.slice (some ⟨W.heap.size, 0, none⟩) 1 1)).run Try.prog (W.alloc (.cells #[.int .u8 (c.toNat : Int)] 5)).drew = .ok (.string (mk [c])) (W.alloc (.cells #[.int .u8 (c.toNat : Int)] 5)).drew := fun W => by
      refine conv_back (l := [c]) ?_ rfl
      intro j hj
      match j, hj with
      | 0, _ => exact ⟨by simp, by simp⟩
    have HT : Hid (Lk.digL (s.extract 0 k ++ mk [c] ++ s.extract k s.size).data.toList = false) := by
      show _ = _
      have e : (s.extract 0 k ++ mk [c] ++ s.extract k s.size).data.toList = (s.extract 0 k).data.toList ++ [c] ++ (s.extract k s.size).data.toList := by simp [mk]
      rw [e]; exact dig_mid HD.out
    have zc : (mk [c]).size = 1 := mk_size _
    have HZ : Hid ((s.extract 0 k ++ mk [c] ++ s.extract k s.size).size ≤ maxLen) := by show _ ≤ _; simp [maxLen, zc]; omega
    have hcut : ((k : Int) ≤ (s.size : Int)) := by omega
    by_cases h48 : 48 ≤ (c.toNat : Int)
    have h57 : ¬ (c.toNat : Int) ≤ 57 := fun h => hdd ⟨h48, h⟩
    all_goals
      clear hdd
      go_wp2_with fail
      go_region_with (go_at_call 12; refine (Digits_no _ _ HZ.out HT.out).mono ?_; rintro e w' ⟨rfl, rfl⟩)
      go_wp2_with fail
      refine (awake_any _).mono ?_
      rintro e w5 ⟨rfl, hb5⟩
      go_wp2
      go_ret
      exact ⟨rfl, ((hb1.alloc hb1.size _).drew).trans (hb5.mono (by have := hb1.size; simp; omega))⟩
  · have hdd : 48 ≤ (c.toNat : Int) ∧ (c.toNat : Int) ≤ 57 := by simpa [Lk.digB] using hd
    clear hd
    go_enter Try.func7, Try.ntmps7
    go_wp2_with fail
    refine (Low_any _ _ _ (by decide) (by decide)).mono ?_
    rintro e w' ⟨rfl, rfl⟩
    rw [HQ.out]
    go_wp2_with fail
    refine (Text_any q 48 _ (by omega)).mono ?_
    rintro e w1 ⟨rfl, hb1⟩
    go_wp2_with fail
    refine (Num_any n _ hn).mono ?_
    rintro e w' ⟨rfl, rfl⟩
    go_wp2_with fail
    rw [HC.out]
    refine (Digits_any s _ (by unfold maxLen; omega)).mono ?_
    rintro e w' ⟨rfl, rfl⟩
    rw [HR.out]
    go_wp2_with fail
    refine (Low_any _ _ _ (by omega) (by omega)).mono ?_
    rintro e w' ⟨rfl, rfl⟩
    rw [HK.out]
    go_wp2_with fail
    refine (awake_any _).mono ?_
    rintro e w5 ⟨rfl, hb5⟩
    go_wp2
    go_ret
    exact ⟨rfl, hb1.trans (hb5.mono hb1.size)⟩
end Go.Proofs.Ytihpnancplfkhaa
