/-
  More of the plain mathematics of layer 1: texts turned byte by byte. It speaks of no program. No conditions.
-/
import Derived.Test.YtfamllkmmiajoaaDoorOMath
namespace Lk
/-- the first k bytes turned by f, the rest as they were -/
def turned (f : Nat → UInt8 → UInt8) (l : List UInt8) (k : Nat) : List UInt8 := (l.take k).mapIdx f ++ l.drop k
theorem turned_len (f : Nat → UInt8 → UInt8) (l : List UInt8) (k : Nat) : (turned f l k).length = l.length := by
  simp [turned]; omega
theorem turned_zero (f : Nat → UInt8 → UInt8) (l : List UInt8) : turned f l 0 = l := by simp [turned]
theorem turned_all (f : Nat → UInt8 → UInt8) (l : List UInt8) (k : Nat) (h : l.length ≤ k) : turned f l k = l.mapIdx f := by
  simp [turned, List.take_of_length_le h, List.drop_of_length_le h]
theorem turned_at (f : Nat → UInt8 → UInt8) (l : List UInt8) (k : Nat) (h : k < l.length) : (turned f l k)[k]'(by rw [turned_len]; exact h) = l[k] := by
  have h1 : (List.mapIdx f (l.take k)).length = k := by simp; omega
  simp only [turned]
  rw [List.getElem_append_right (by omega)]
  simp [h1]
theorem turned_succ (f : Nat → UInt8 → UInt8) (l : List UInt8) (k : Nat) (h : k < l.length) : (turned f l k).set k (f k l[k]) = turned f l (k + 1) := by
  have h1 : (List.mapIdx f (l.take k)).length = k := by simp; omega
  unfold turned
  rw [List.set_append_right _ _ (by omega), h1, Nat.sub_self, List.drop_eq_getElem_cons h, List.set_cons_zero, List.take_succ_eq_append_getElem h, List.mapIdx_append]
  simp [Nat.min_eq_left (Nat.le_of_lt h)]
theorem mapIdx_const (f : UInt8 → UInt8) (l : List UInt8) : l.mapIdx (fun _ b => f b) = l.map f := by
  apply List.ext_getElem <;> simp

theorem lowI_lowI (c : Int) : lowI (lowI c) = lowI c := by
  by_cases h : 65 ≤ c ∧ c ≤ 90
  · rw [lowI_up h.1 h.2, lowI_not (by omega)]
  · have e : lowI c = c := lowI_not (by omega)
    rw [e, e]
theorem lowU_lowU (b : UInt8) : lowU (lowU b) = lowU b := (lowU_inj _ _).2 (by rw [lowU_toNat, lowI_lowI])
theorem lower_lower (l : List UInt8) : lower (lower l) = lower l := by
  unfold lower; rw [List.map_map]; exact List.map_congr_left (fun b _ => lowU_lowU b)
theorem lower_len (l : List UInt8) : (lower l).length = l.length := by simp [lower]
theorem tokB_low (c : Int) : tokB (lowI c) = tokB c := by
  by_cases h : 65 ≤ c ∧ c ≤ 90
  · rw [lowI_up h.1 h.2]
    have h1 : plB (c + 32) = true := by simp [plB, smB]; omega
    have h2 : plB c = true := by simp [plB, upB]; omega
    simp [tokB, h1, h2]
  · rw [lowI_not (by omega)]
theorem tokL_lower (l : List UInt8) : tokL (lower l) = tokL l := by
  unfold tokL lower
  rw [List.all_map]
  have : ((fun b : UInt8 => tokB b.toNat) ∘ lowU) = fun b : UInt8 => tokB b.toNat := by
    funext b; simp only [Function.comp]; rw [lowU_toNat, tokB_low]
  rw [this]
  cases l <;> rfl
theorem tokL_same {a b : List UInt8} (h : lower a = lower b) : tokL a = tokL b := by rw [← tokL_lower a, h, tokL_lower]

theorem split_blank (m : List UInt8) : splitL (32 :: m) = splitL m := by
  unfold splitL
  rw [cuts_cons, if_neg (by decide)]
  cases h : cuts m with
  | nil => exact absurd h (cuts_ne m)
  | cons p ps =>
    have e : trimL (32 :: p) = trimL p := by
      have := trim_pad p (a := [32]) (b := []) (by decide) rfl
      simpa using this
    simp only [glue, keep, List.map_cons, e]
/-- texts with a comma and a blank between each two -/
def joinL : List (List UInt8) → List UInt8
  | [] => []
  | [x] => x
  | x :: y :: r => x ++ 44 :: 32 :: joinL (y :: r)
theorem split_join : ∀ l : List (List UInt8), (∀ x ∈ l, ∀ b ∈ x, b ≠ 44) → splitL (joinL l) = keep l
  | [], _ => by decide
  | [x], h => by rw [joinL, split_none (h x (by simp))]
  | x :: y :: r, h => by
    rw [joinL, split_at (h x (by simp)), split_blank, split_join (y :: r) (fun z hz => h z (List.mem_cons_of_mem _ hz)), ← keep_append]
    rfl
theorem join_len : ∀ l : List (List UInt8), (joinL l).length ≤ (l.map List.length).sum + 2 * l.length
  | [] => by simp [joinL]
  | [x] => by simp [joinL]
  | x :: y :: r => by
    have := join_len (y :: r)
    simp only [joinL, List.length_append, List.length_cons, List.map_cons, List.sum_cons] at *
    omega
theorem inL_no {c : UInt8} {l : List UInt8} (h : inL c.toNat l = false) : ∀ b ∈ l, b ≠ c := by
  intro b hb e
  subst e
  have h2 : inL b.toNat l = true := by simp only [inL, List.any_eq_true]; exact ⟨b, hb, by simp⟩
  rw [h] at h2; cases h2
theorem any_no {p : UInt8 → Bool} {s : ByteArray} {k : Nat} (h : k < s.size) (ha : (s.data.toList.take k).any p = false) (hp : p s[k] = false) : (s.data.toList.take (k + 1)).any p = false := by
  rw [take_snoc s k h, List.any_append, ha]; simp [hp]
theorem any_yes {p : UInt8 → Bool} {s : ByteArray} {k : Nat} (h : k < s.size) (hp : p s[k] = true) : s.data.toList.any p = true := by
  rw [List.any_eq_true]
  exact ⟨s[k], List.mem_iff_getElem.2 ⟨k, by simpa using h, rfl⟩, hp⟩
theorem keep_snoc_nil {l : List (List UInt8)} {x : List UInt8} (h : trimL x = []) : keep (l ++ [x]) = keep l := by rw [keep_append, keep_one_nil h, List.append_nil]
theorem keep_snoc {l : List (List UInt8)} {x : List UInt8} (h : trimL x ≠ []) : keep (l ++ [x]) = keep l ++ [trimL x] := by rw [keep_append, keep_one h]

theorem notEmpty_size (s : ByteArray) : (!s.data.toList.isEmpty) = decide (0 < s.size) := by
  have e : s.data.toList.length = s.size := by simp
  cases h : s.data.toList with
  | nil => rw [h] at e; simp at e; simp [← e]
  | cons x r => rw [h] at e; simp at e; simp [← e]
theorem nil_of_size {s : ByteArray} (h : ¬ 0 < s.size) : s.data.toList = [] := by
  have e : s.data.toList.length = s.size := by simp
  exact List.length_eq_zero_iff.1 (by omega)
/-- joined so far, before the k-th text is put behind it -/
theorem join_snoc (l : List (List UInt8)) (x : List UInt8) (h : l ≠ []) : joinL (l ++ [x]) = joinL l ++ 44 :: 32 :: x := by
  induction l with
  | nil => exact absurd rfl h
  | cons a r ih =>
    cases r with
    | nil => rfl
    | cons b r' => 
      have := ih (by simp)
      show a ++ 44 :: 32 :: joinL ((b :: r') ++ [x]) = a ++ 44 :: 32 :: joinL (b :: r') ++ 44 :: 32 :: x
      rw [this]; simp
end Lk
