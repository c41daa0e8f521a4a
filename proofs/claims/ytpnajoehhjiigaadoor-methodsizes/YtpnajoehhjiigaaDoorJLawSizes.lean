/-
  The walk of the law MethodSizes: whatever the number, it returns true, and nothing that was there has turned. Conditions: the tables are as the program's text lays them.
-/
import Derived.Test.YtpnajoehhjiigaaDoorJAwake
namespace Go.Proofs.YtpnajoehhjiigaaDoor
open Go.RowKit

theorem j_sizes (k : Nat) : (Lk.methI (mk (List.replicate k 120)).data.toList = 0 ∧ 1 ≤ k ∧ k ≤ 32) ∨ (Lk.methI (mk (List.replicate k 120)).data.toList = 5 ∧ ¬ (1 ≤ k ∧ k ≤ 32)) := by
  rw [mk_data]
  have h := Lk.meth_rep k
  by_cases hk : 1 ≤ k ∧ k ≤ 32
  · rw [decide_eq_true hk] at h
    exact .inl ⟨by simpa using h, hk⟩
  · rw [decide_eq_false hk] at h
    refine .inr ⟨?_, hk⟩
    unfold Lk.methI at h ⊢
    split
    · rename_i h2; rw [if_pos h2] at h; cases h
    · rfl

set_option maxHeartbeats 1000000 in
theorem walk_MethodSizes (n : Int) (w : World) (_hn : (Lit.int .i64 n).wf = true) (he : MEnv w) :
    Calls Tryd.prog 6 #[.int .i64 n] w fun e w' => e = .returned (.bool true) ∧ Below w.heap.size w w' := by
  have HE := Lib.hid he
  clear he
  obtain ⟨k, hk⟩ : ∃ k : Nat, lowV n 70 = (k : Int) := ⟨(lowV n 70).toNat, by have := lowV_bd n (n := 70) (by decide); omega⟩
  have hk70 : k < 70 := by have := lowV_bd n (n := 70) (by decide); omega
  have HK := Lib.hid hk
  clear hk
  have hz : (mk (List.replicate k 120)).size ≤ maxLen := by rw [mk_size, List.length_replicate]; unfold maxLen; omega
  have HZ := Lib.hid hz
  clear hz
  have HT : Hid (∀ w, Calls Tryd.prog 19 #[.int .i64 (k : Int), .int .u8 120] w fun e w' => e = .returned (.string (mk (List.replicate k 120))) ∧ Below w.heap.size w w') := fun w => Text_any k 120 w (by omega)
  rcases j_sizes k with ⟨hc, h1, h2⟩ | ⟨hc, hno⟩
  · have HC := Lib.hid hc
    clear hc
    go_enter Tryd.func6, Tryd.ntmps6
    go_wp2_with fail
    refine (Low_any n 70 _ (by decide) (by decide)).mono ?_
    rintro e w' ⟨rfl, rfl⟩
    rw [HK.out]
    go_wp2_with fail
    refine (HT.out _).mono ?_
    rintro e w1 ⟨rfl, hb1⟩
    have HB1 := Lib.hid hb1
    clear hb1
    go_wp2_with fail
    refine (Check_any _ _ HZ.out (HE.out.below HB1.out)).mono ?_
    rintro e w2 ⟨rfl, n2, hw2⟩
    rw [HC.out]
    have HB2 : Hid (Below w.heap.size w w2) := by rw [hw2]; exact below_drewN HB1.out n2
    clear hw2
    go_wp2_with fail
    refine (awake5_from HE.out HB2.out).mono ?_
    rintro e w3 ⟨rfl, hb⟩
    go_wp2
    go_ret
    exact ⟨rfl, hb⟩
  · have HC := Lib.hid hc
    clear hc
    have hkc : k = 0 ∨ 32 < k := by omega
    clear hno
    rcases hkc with rfl | hgt
    all_goals
      go_enter Tryd.func6, Tryd.ntmps6
      go_wp2_with fail
      refine (Low_any n 70 _ (by decide) (by decide)).mono ?_
      rintro e w' ⟨rfl, rfl⟩
      rw [HK.out]
      go_wp2_with fail
      refine (HT.out _).mono ?_
      rintro e w1 ⟨rfl, hb1⟩
      have HB1 := Lib.hid hb1
      clear hb1
      go_wp2_with fail
      refine (Check_any _ _ HZ.out (HE.out.below HB1.out)).mono ?_
      rintro e w2 ⟨rfl, n2, hw2⟩
      rw [HC.out]
      have HB2 : Hid (Below w.heap.size w w2) := by rw [hw2]; exact below_drewN HB1.out n2
      clear hw2
      go_wp2_with fail
      refine (awake5_from HE.out HB2.out).mono ?_
      rintro e w3 ⟨rfl, hb⟩
      go_wp2
      go_ret
      first
        | exact ⟨rfl, hb⟩
        | exact ⟨ret_bool (by simp; omega), hb⟩
end Go.Proofs.YtpnajoehhjiigaaDoor
