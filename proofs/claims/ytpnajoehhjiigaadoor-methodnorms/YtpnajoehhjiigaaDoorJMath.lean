/-
  The plain mathematics of layer 5 (method): texts as lists of bytes. It speaks of no program. No conditions.
-/
import Derived.Test.YtpnajoehhjiigaaDoorLBase
namespace Lk

def usL : List (List UInt8) := [[68, 69, 76, 69, 84, 69], [71, 69, 84], [72, 69, 65, 68], [79, 80, 84, 73, 79, 78, 83], [80, 79, 83, 84], [80, 85, 84]]
def baL : List (List UInt8) := [[67, 79, 78, 78, 69, 67, 84], [84, 82, 65, 67, 69], [84, 82, 65, 67, 75]]
def normL (s : List UInt8) : List UInt8 := (usL.find? (fun m => foldL m s)).getD s
def barsL (s : List UInt8) : Bool := baL.any (fun m => foldL m s)
def okL (s : List UInt8) : Bool := decide (s.length ≤ 32) && tokL s && !barsL s
def methI (s : List UInt8) : Int := if okL s then 0 else 5
def safeL (s : List UInt8) : Bool := normL s == [71, 69, 84] || normL s == [72, 69, 65, 68] || normL s == [80, 79, 83, 84]

/-! what the case of letters counts for -/
theorem len_of_lower {a b : List UInt8} (h : lower a = lower b) : a.length = b.length := by
  have := congrArg List.length h; simpa [lower] using this
theorem tok_low (b : UInt8) : tokB (lowU b).toNat = tokB b.toNat := by
  have : ∀ n : Fin 256, tokB (lowU (UInt8.ofNat n.val)).toNat = tokB (UInt8.ofNat n.val).toNat := by decide +kernel
  have h := this ⟨b.toNat, b.toNat_lt⟩
  simpa using h
theorem tokL_low (l : List UInt8) : tokL (lower l) = tokL l := by
  unfold tokL lower
  rw [List.all_map]
  congr 1
  · congr 1; funext b; exact tok_low b
  · cases l <;> rfl
theorem tok_case {a b : List UInt8} (h : lower a = lower b) : tokL a = tokL b := by rw [← tokL_low a, ← tokL_low b, h]
theorem foldL_r {a b : List UInt8} (m : List UInt8) (h : lower a = lower b) : foldL m a = foldL m b := by unfold foldL; rw [h]
theorem find_case {a b : List UInt8} (h : lower a = lower b) : usL.find? (fun m => foldL m a) = usL.find? (fun m => foldL m b) := by
  congr 1; funext m; exact foldL_r m h
theorem bars_case {a b : List UInt8} (h : lower a = lower b) : barsL a = barsL b := by
  unfold barsL; congr 1; funext m; exact foldL_r m h
theorem ok_case {a b : List UInt8} (h : lower a = lower b) : okL a = okL b := by
  unfold okL; rw [bars_case h, tok_case h, len_of_lower h]
theorem meth_case {a b : List UInt8} (h : lower a = lower b) : methI a = methI b := by unfold methI; rw [ok_case h]

theorem norm_view (s : List UInt8) : (∃ m, usL.find? (fun m => foldL m s) = some m ∧ normL s = m ∧ m ∈ usL ∧ lower m = lower s) ∨ (usL.find? (fun m => foldL m s) = none ∧ normL s = s) := by
  cases h : usL.find? (fun m => foldL m s) with
  | none => exact .inr ⟨rfl, by simp [normL, h]⟩
  | some m => exact .inl ⟨m, rfl, by simp [normL, h], List.mem_of_find?_eq_some h, by have := List.find?_some h; simpa [foldL] using this⟩
theorem norm_low (s : List UInt8) : lower (normL s) = lower s := by
  rcases norm_view s with ⟨m, _, e, _, h⟩ | ⟨_, e⟩
  · rw [e, h]
  · rw [e]
theorem norm_len (s : List UInt8) : (normL s).length = s.length := len_of_lower (norm_low s)
theorem norm_norm (s : List UInt8) : normL (normL s) = normL s := by
  rcases norm_view s with ⟨m, hf, e, _, h⟩ | ⟨hf, e⟩
  · have h2 := find_case (norm_low s)
    rw [hf] at h2
    have : normL (normL s) = m := by rw [normL, h2]; rfl
    rw [this, e]
  · rw [e, e]
theorem safe_norm (s : List UInt8) : safeL (normL s) = safeL s := by unfold safeL; rw [norm_norm]
theorem bars_norm (s : List UInt8) : barsL (normL s) = barsL s := bars_case (norm_low s)
theorem meth_norm (s : List UInt8) : methI (normL s) = methI s := meth_case (norm_low s)
theorem safe_ok {s : List UInt8} (h : safeL s = true) : methI s = 0 := by
  have h1 := norm_low s
  rw [← meth_case h1]
  unfold safeL at h
  simp only [Bool.or_eq_true, beq_iff_eq] at h
  rcases h with (e | e) | e <;> rw [e] <;> decide

theorem norm_of {s m : List UInt8} (h : lower s = lower m) (hm : m ∈ usL) : normL s = m := by
  rw [normL, find_case h]
  have : ∀ m ∈ usL, usL.find? (fun x => foldL x m) = some m := by decide
  rw [this m hm]; rfl
theorem norm_other {s m : List UInt8} (h : lower s = lower m) (hm : usL.find? (fun x => foldL x m) = none) : normL s = s := by
  rw [normL, find_case h, hm]; rfl
theorem safe_of {s : List UInt8} {b : Bool} (t : List UInt8) (h : normL s = t) (hb : (t == [71, 69, 84] || t == [72, 69, 65, 68] || t == [80, 79, 83, 84]) = b) : safeL s = b := by
  unfold safeL; rw [h, hb]
theorem safe_case {s m : List UInt8} (h : lower s = lower m) (hn : usL.find? (fun x => foldL x m) = none) : safeL s = false := by
  unfold safeL
  rw [norm_other h hn]
  cases hc : (s == [71, 69, 84] || s == [72, 69, 65, 68] || s == [80, 79, 83, 84])
  · rfl
  · exfalso
    simp only [Bool.or_eq_true, beq_iff_eq] at hc
    have h2 := find_case h
    rw [hn] at h2
    rcases hc with (e | e) | e <;> rw [e] at h2 <;> exact absurd h2 (by decide)

/-! a row of one letter -/
theorem tok_rep : ∀ k : Nat, tokL (List.replicate k 120) = decide (1 ≤ k)
  | 0 => rfl
  | k + 1 => by
    have h1 : (List.replicate (k + 1) (120 : UInt8)).all (fun b => tokB b.toNat) = true := by
      rw [List.all_eq_true]; intro b hb; rw [List.eq_of_mem_replicate hb]; decide
    unfold tokL; rw [h1]; simp [List.replicate_succ]
theorem bars_rep (k : Nat) : barsL (List.replicate k 120) = false := by
  unfold barsL
  rw [List.any_eq_false]
  intro m hm hf
  unfold foldL at hf
  rw [beq_iff_eq] at hf
  cases k with
  | zero => revert hm hf; revert m; decide
  | succ k =>
    rw [List.replicate_succ] at hf
    have h1 := congrArg List.head? hf
    have h2 : (lower (120 :: List.replicate k 120)).head? = some 120 := by simp [lower, lowU]; decide
    rw [h2] at h1
    have : ∀ m ∈ baL, (lower m).head? ≠ some 120 := by decide
    exact this m hm h1
theorem meth_rep (k : Nat) : (methI (List.replicate k 120) == 0) = decide (1 ≤ k ∧ k ≤ 32) := by
  unfold methI okL
  rw [tok_rep, bars_rep, List.length_replicate]
  by_cases h1 : 1 ≤ k <;> by_cases h2 : k ≤ 32 <;> simp [h1, h2]
end Lk
