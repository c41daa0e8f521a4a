/-
  Plain mathematics for the statements of layer 14: an age alone, names and methods one behind the other. No conditions beyond those of each statement.
-/
import Derived.Test.YtnoiciakbbkngaaDoorEMath
namespace Go.Proofs.YtnoiciakbbkngaaDoor

theorem tight_all {l : List UInt8} (h : ∀ b ∈ l, Lk.sp b = false) : Lk.Tight l := by
  by_cases hn : l = []
  · exact .inl hn
  · right
    refine ⟨⟨l.head hn, l.tail, (List.cons_head_tail hn).symm, h _ (List.head_mem hn)⟩, ⟨l.getLast hn, l.dropLast, (List.dropLast_concat_getLast hn).symm, h _ (List.getLast_mem hn)⟩⟩
theorem dig_not_sp {b : UInt8} (h : Lk.digB b.toNat = true) : Lk.sp b = false := by
  simp [Lk.digB] at h
  simp [Lk.sp, Lk.spB]
  omega
theorem digL_tight {l : List UInt8} (h : Lk.digL l = true) : Lk.Tight l := by
  refine tight_all fun b hb => ?_
  simp only [Lk.digL, Bool.and_eq_true, List.all_eq_true] at h
  exact dig_not_sp (h.1 b hb)
theorem get_one {n v : List UInt8} (h : Lk.foldL n agN = true) : getH [(n, v)] agN = Lk.trimL v := by
  unfold getH
  rw [vals_cons, show Lk.foldL (n, v).1 agN = true from h]
  rfl
/-- one header alone, that of the age -/
theorem age_only (v : List UInt8) : readI [(agN, v)] = 0 ∧ readA [(agN, v)] = ⟨[], [], ageV (Lk.trimL v)⟩ := by
  have h1 : elsH [(agN, v)] metN = [] := by
    unfold elsH getH
    rw [vals_cons, show Lk.foldL (agN, v).1 metN = false from (by decide : Lk.foldL agN metN = false), vals_nil]
    rfl
  have h2 : elsH [(agN, v)] hdrN = [] := by
    unfold elsH getH
    rw [vals_cons, show Lk.foldL (agN, v).1 hdrN = false from (by decide : Lk.foldL agN hdrN = false), vals_nil]
    rfl
  have hi : readI [(agN, v)] = 0 := readI_0 (by rw [h1]; rfl) (by rw [h2]; rfl)
  refine ⟨hi, ?_⟩
  rw [readA_0 hi, h1, h2]
  unfold ageH
  rw [get_one (by decide), Lk.trim_trim]
  rfl
theorem eval_zeros (k : Nat) (l : List UInt8) : Lk.valL (List.replicate k 48 ++ l) = Lk.valL l := by
  have h : ∀ k, List.foldl (fun n (b : UInt8) => 10 * n + (b.toNat - 48)) 0 (List.replicate k 48) = 0 := by
    intro k
    induction k with
    | zero => rfl
    | succ k ih => rw [List.replicate_succ, List.foldl_cons]; exact ih
  unfold Lk.valL
  rw [List.foldl_append, h]
theorem edig_zeros (k : Nat) {l : List UInt8} (h : Lk.digL l = true) : Lk.digL (List.replicate k 48 ++ l) = true := by
  simp only [Lk.digL, Bool.and_eq_true] at h ⊢
  refine ⟨?_, ?_⟩
  · rw [List.all_append, h.1, List.all_replicate]
    simp; right; decide
  · have := h.2
    simp at this ⊢; intro _; exact this
/-- a blank, noughts, a number -/
theorem age_num (k n : Nat) (hn : n ≤ Lk.M64) : ageV (Lk.trimL ([32] ++ List.replicate k 48 ++ numL n)) = min n 7200 := by
  have h := numL_ok hn
  have hd := edig_zeros k h.1
  have ht : Lk.trimL ([32] ++ List.replicate k 48 ++ numL n) = List.replicate k 48 ++ numL n := by
    have := Lk.trim_eq (a := [32]) (b := []) (x := List.replicate k 48 ++ numL n) (by decide) rfl (digL_tight hd)
    simpa using this
  rw [ht]
  unfold ageV
  rw [hd, if_pos rfl, eval_zeros, h.2.1]
  have : Lk.sat n = n := by unfold Lk.sat; omega
  rw [this]
/-- tokens -/
theorem tok_not_sp {b : UInt8} (h : Lk.tokB b.toNat = true) : Lk.sp b = false ∧ b ≠ 44 := by
  refine ⟨?_, ?_⟩
  · cases hs : Lk.sp b
    · rfl
    · exfalso
      simp [Lk.sp, Lk.spB] at hs
      have : ∀ c : Int, c = 9 ∨ c = 10 ∨ c = 13 ∨ c = 32 → Lk.tokB c = false := by rintro c (rfl | rfl | rfl | rfl) <;> decide
      rw [this _ (by omega)] at h
      cases h
  · rintro rfl
    exact absurd h (by decide)
theorem tok_all {l : List UInt8} (h : Lk.tokL l = true) : (∀ b ∈ l, Lk.tokB b.toNat = true) ∧ l ≠ [] := by
  simp only [Lk.tokL, Bool.and_eq_true, List.all_eq_true] at h
  exact ⟨h.1, by simpa using h.2⟩
theorem tok_trim {l : List UInt8} (h : Lk.tokL l = true) : Lk.trimL l = l := Lk.trim_of_tight (tight_all fun b hb => (tok_not_sp ((tok_all h).1 b hb)).1)
theorem keep_toks : ∀ {l : List (List UInt8)}, tokAll l = true → Lk.keep l = l
  | [], _ => rfl
  | x :: r, h => by
    have hx : Lk.tokL x = true := by unfold tokAll at h; simp at h; exact h.1
    have hr : tokAll r = true := by unfold tokAll at h ⊢; simp at h ⊢; exact h.2
    rw [← List.singleton_append, Lk.keep_append, Lk.keep_one (by rw [tok_trim hx]; exact (tok_all hx).2), tok_trim hx, keep_toks hr]
theorem split_toks {l : List (List UInt8)} (h : tokAll l = true) : Lk.splitL (Lk.joinL l) = l := by
  rw [Lk.split_join l ?_, keep_toks h]
  intro x hx b hb
  unfold tokAll at h
  rw [List.all_eq_true] at h
  exact (tok_not_sp ((tok_all (h x hx)).1 b hb)).2
end Go.Proofs.YtnoiciakbbkngaaDoor
