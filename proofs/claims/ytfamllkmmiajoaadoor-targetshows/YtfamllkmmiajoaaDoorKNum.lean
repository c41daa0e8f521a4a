/-
  The digits of a number, in plain mathematics. It speaks of no program. No conditions.
-/
import Derived.Test.YtfamllkmmiajoaaDoorOMath2
namespace Go.Proofs.YtfamllkmmiajoaaDoor

/-- the digits of a number -/
def numF : Nat → Nat → List UInt8
  | 0, n => [UInt8.ofNat (48 + n % 10)]
  | f + 1, n => if n ≤ 9 then [UInt8.ofNat (48 + n)] else numF f (n / 10) ++ [UInt8.ofNat (48 + n % 10)]
def numL (n : Nat) : List UInt8 := numF 25 n
theorem numF_more : ∀ (f n : Nat), n < 10 ^ (f + 1) → numF f n = numF (f + 1) n
  | 0, n, h => by
    have h9 : n ≤ 9 := by simp at h; omega
    rw [numF, numF, if_pos h9, Nat.mod_eq_of_lt (by omega)]
  | f + 1, n, h => by
    rw [numF, numF]
    by_cases h9 : n ≤ 9
    · rw [if_pos h9, if_pos h9]
    · rw [if_neg h9, if_neg h9, numF_more f (n / 10) (by rw [Nat.pow_succ] at h; omega)]
theorem numL_small {n : Nat} (h : n ≤ 9) : numL n = [UInt8.ofNat (48 + n)] := by rw [numL, numF, if_pos h]
theorem numL_big {n : Nat} (h : ¬ n ≤ 9) (hn : n < 10 ^ 25) : numL n = numL (n / 10) ++ [UInt8.ofNat (48 + n % 10)] := by
  have h2 : n / 10 < 10 ^ (24 + 1) := by
    have : (10 : Nat) ^ (24 + 1) = 10 ^ 25 := rfl
    omega
  have e := numF_more 24 (n / 10) h2
  rw [numL, numF, if_neg h, e]; rfl
theorem dig_byte {n : Nat} (h : n ≤ 9) : (UInt8.ofNat (48 + n)).toNat = 48 + n := by rw [UInt8.toNat_ofNat']; omega
theorem numF_ok : ∀ (f n : Nat), n < 10 ^ (f + 1) → Lk.digL (numF f n) = true ∧ Lk.valL (numF f n) = n ∧ (numF f n).length ≤ f + 1
  | 0, n, h => by
    have h9 : n ≤ 9 := by simp at h; omega
    have hm : n % 10 = n := Nat.mod_eq_of_lt (by omega)
    rw [numF, hm]
    refine ⟨?_, ?_, by simp⟩
    · simp [Lk.digL, Lk.digB]; omega
    · simp [Lk.valL]; omega
  | f + 1, n, h => by
    rw [numF]
    by_cases h9 : n ≤ 9
    · rw [if_pos h9]
      refine ⟨?_, ?_, by simp⟩
      · simp [Lk.digL, Lk.digB]; omega
      · simp [Lk.valL]; omega
    · rw [if_neg h9]
      obtain ⟨i1, i2, i3⟩ := numF_ok f (n / 10) (by rw [Nat.pow_succ] at h; omega)
      have hd : n % 10 ≤ 9 := by omega
      refine ⟨?_, ?_, by simp; omega⟩
      · simp only [Lk.digL, Bool.and_eq_true] at i1 ⊢
        refine ⟨?_, by simp⟩
        rw [List.all_append, i1.1]
        simp [Lk.digB]; omega
      · rw [Lk.val_snoc, i2, dig_byte hd]; omega
theorem numL_ok {n : Nat} (h : n ≤ Lk.M64) : Lk.digL (numL n) = true ∧ Lk.valL (numL n) = n ∧ (numL n).length ≤ 26 := numF_ok 25 n (by unfold Lk.M64 at h; omega)
end Go.Proofs.YtfamllkmmiajoaaDoor
