/-
  Mathematics of hosts in the order of their last use: letters in a list without one twice. Plain lists and numbers. No conditions beyond those of each statement.
-/
import Derived.Test.YtmpaopfjpigneaaNAwake
namespace Go.Proofs.Ytmpaopfjpigneaa

/-- the key of a letter -/
def ltr (b : Nat) : ByteArray := ⟨#[UInt8.ofNat (97 + b)]⟩
theorem ltr_inj {a b : Nat} (ha : a < 26) (hb : b < 26) (h : ltr a = ltr b) : a = b := by
  unfold ltr at h
  injection h with h
  have h1 := congrArg (fun x : Array UInt8 => (x.toList.map UInt8.toNat)) h
  simp at h1
  omega
theorem short_of_nodup : ∀ (n : Nat) (l : List Nat), l.Nodup → (∀ x ∈ l, x < n) → l.length ≤ n
  | 0, l, _, h => by
    cases l with
    | nil => simp
    | cons x r => exact absurd (h x List.mem_cons_self) (by omega)
  | n + 1, l, hn, h => by
    have h1 := short_of_nodup n (l.erase n) (hn.erase n) (fun x hx => by
      have h2 := h x (List.mem_of_mem_erase hx)
      have h3 : x ≠ n := by
        intro e
        subst e
        exact (List.Nodup.not_mem_erase hn) hx
      omega)
    have h4 : l.length ≤ (l.erase n).length + 1 := by
      by_cases hm : n ∈ l
      · rw [List.length_erase_of_mem hm]; omega
      · rw [List.erase_of_not_mem hm]; omega
    omega
/-- the letters but for one -/
def less (b : Nat) (ks : List Nat) : List Nat := ks.filter (fun x => decide (x ≠ b))
/-- letters, each at most once -/
structure Ltrs (ks : List Nat) : Prop where
  nd : ks.Nodup
  lt : ∀ x ∈ ks, x < 26
theorem Ltrs.nil : Ltrs [] := ⟨List.nodup_nil, by simp⟩
theorem Ltrs.len {ks : List Nat} (h : Ltrs ks) : ks.length ≤ 26 := short_of_nodup 26 ks h.nd h.lt
theorem Ltrs.next {ks : List Nat} (h : Ltrs ks) {b : Nat} (hb : b < 26) : Ltrs (less b ks ++ [b]) := by
  refine ⟨?_, fun x hx => ?_⟩
  · rw [List.nodup_append]
    refine ⟨h.nd.filter _, by simp, fun x hx y hy => ?_⟩
    simp at hy
    subst hy
    simpa using (List.mem_filter.1 hx).2
  · rcases List.mem_append.1 hx with h1 | h1
    · exact h.lt x (List.mem_filter.1 h1).1
    · simp at h1; omega
/-- hosts of these letters, none with a use -/
def zeros (ks : List Nat) : List Ho := ks.map (fun b => (ltr b, 0))
theorem zeros_len (ks : List Nat) : (zeros ks).length = ks.length := by simp [zeros]
theorem zeros_nth {ks : List Nat} {j : Nat} (hj : j < ks.length) : nthH (zeros ks) j = (ltr ks[j], 0) := by simp [nthH, zeros, hj]
theorem zeros_append (a b : List Nat) : zeros (a ++ b) = zeros a ++ zeros b := by simp [zeros]
theorem less_erase {ks : List Nat} (h : ks.Nodup) {j : Nat} (hj : j < ks.length) : less ks[j] ks = ks.eraseIdx j := by
  have e : ks.take j ++ ks[j] :: ks.drop (j + 1) = ks := by simp
  obtain ⟨b, hb⟩ : ∃ b, b = ks[j] := ⟨_, rfl⟩
  rw [← hb] at e ⊢
  rw [List.eraseIdx_eq_take_drop_succ]
  obtain ⟨l1, h1⟩ : ∃ l1, l1 = ks.take j := ⟨_, rfl⟩
  obtain ⟨l2, h2⟩ : ∃ l2, l2 = ks.drop (j + 1) := ⟨_, rfl⟩
  rw [← h1, ← h2] at e ⊢
  rw [← e] at h ⊢
  rw [List.nodup_append, List.nodup_cons] at h
  unfold less
  rw [List.filter_append, List.filter_cons]
  have f1 : l1.filter (fun x => decide (x ≠ b)) = l1 := by
    rw [List.filter_eq_self]
    intro x hx
    simpa using h.2.2 x hx b List.mem_cons_self
  have f2 : l2.filter (fun x => decide (x ≠ b)) = l2 := by
    rw [List.filter_eq_self]
    intro x hx
    have : x ≠ b := fun e => h.2.1.1 (e ▸ hx)
    simpa using this
  rw [f1, f2]
  simp
/-- a use, and it freed: what is told, what is behind it -/
theorem order_use {ks : List Nat} (h : Ltrs ks) {b : Nat} (hb : b < 26) : useG 32 (zeros ks) (ltr b) = ⟨#[]⟩ ∧ useC 32 (zeros ks) (ltr b) = 0 ∧ useS 32 (zeros ks) (ltr b) = zeros (less b ks) ++ [(ltr b, 1)] := by
  by_cases hm : b ∈ ks
  · obtain ⟨j, hj, e⟩ := List.mem_iff_getElem.1 hm
    have hf : (zeros ks).findIdx (keyB (ltr b)) = j := by
      refine place_first (by rw [zeros_len]; exact hj) ?_ (fun i hi => ?_)
      · rw [zeros_nth hj, e]; exact keyB_iff.2 rfl
      · rw [zeros_nth (by omega)]
        refine keyB_no.2 (fun h1 => ?_)
        have h2 := ltr_inj (h.lt _ (List.getElem_mem _)) hb h1
        rw [← e] at h2
        exact absurd ((List.getElem_inj h.nd).1 h2) (by omega)
    have hz : (zeros ks).eraseIdx j = zeros (less b ks) := by
      rw [← e, less_erase h.nd hj]
      unfold zeros
      rw [List.eraseIdx_eq_take_drop_succ, List.eraseIdx_eq_take_drop_succ, List.map_append, List.map_take, List.map_drop]
    unfold useG useC useS
    rw [hf, zeros_len, if_pos hj, if_pos hj, if_pos hj, zeros_nth hj, hz]
    simp
  · have hl : less b ks = ks := by
      unfold less
      rw [List.filter_eq_self]
      intro x hx
      have : x ≠ b := fun e => hm (e ▸ hx)
      simpa using this
    rw [hl]
    exact use_miss (fun x hx e => by
      unfold zeros at hx
      obtain ⟨a, ha, rfl⟩ := List.mem_map.1 hx
      exact hm ((ltr_inj (h.lt a ha) hb e) ▸ ha)) (by rw [zeros_len]; have := h.len; omega)
theorem order_last {ks : List Nat} (h : Ltrs ks) {b : Nat} (hb : b < 26) (n : Nat) : (zeros (less b ks) ++ [((ltr b, n) : Ho)]).findIdx (keyB (ltr b)) = (less b ks).length := by
  refine place_first (by rw [List.length_append, zeros_len]; simp) ?_ (fun i hi => ?_)
  · unfold nthH
    rw [List.getD_eq_getElem?_getD, List.getElem?_append_right (by rw [zeros_len]; omega), zeros_len, Nat.sub_self]
    exact keyB_iff.2 rfl
  · unfold nthH
    rw [List.getD_eq_getElem?_getD, List.getElem?_append_left (by rw [zeros_len]; omega), ← List.getD_eq_getElem?_getD]
    show keyB _ (nthH (zeros (less b ks)) i) = false
    rw [zeros_nth hi]
    refine keyB_no.2 (fun h1 => ?_)
    have hmem : (less b ks)[i] ∈ less b ks := List.getElem_mem _
    have h3 := List.mem_filter.1 hmem
    exact (of_decide_eq_true h3.2) (ltr_inj (h.lt _ h3.1) hb h1)
theorem nth_last (l : List Ho) (x : Ho) : nthH (l ++ [x]) l.length = x := by
  unfold nthH
  rw [List.getD_eq_getElem?_getD, List.getElem?_append_right (Nat.le_refl _), Nat.sub_self]
  rfl
theorem order_used {ks : List Nat} (h : Ltrs ks) {b : Nat} (hb : b < 26) (n : Nat) : usedC (zeros (less b ks) ++ [(ltr b, n)]) (ltr b) = n := by
  unfold usedC
  rw [order_last h hb, if_pos (by rw [List.length_append, zeros_len]; simp)]
  have := nth_last (zeros (less b ks)) (ltr b, n)
  rw [zeros_len] at this
  rw [this]
theorem order_free {ks : List Nat} (h : Ltrs ks) {b : Nat} (hb : b < 26) : freeC (zeros (less b ks) ++ [(ltr b, 1)]) (ltr b) = 0 ∧ freeS (zeros (less b ks) ++ [(ltr b, 1)]) (ltr b) = zeros (less b ks ++ [b]) := by
  have h1 := nth_last (zeros (less b ks)) (ltr b, 1)
  rw [zeros_len] at h1
  have hl : (less b ks).length < (zeros (less b ks) ++ [((ltr b, 1) : Ho)]).length := by rw [List.length_append, zeros_len]; simp
  have hne : ¬ ((ltr b, 1) : Ho).2 = 0 := by show ¬ (1 : Nat) = 0; omega
  unfold freeC freeS
  rw [order_last h hb, if_pos hl, if_pos hl, h1, if_neg hne, if_neg hne]
  refine ⟨rfl, ?_⟩
  rw [List.set_append_right _ _ (by rw [zeros_len]; omega), zeros_len, Nat.sub_self, zeros_append]
  rfl
theorem order_used0 {ks : List Nat} (h : Ltrs ks) {b : Nat} (hb : b < 26) : usedC (zeros (less b ks ++ [b])) (ltr b) = 0 := by
  rw [zeros_append]
  exact order_used h hb 0
theorem order_keys (ks : List Nat) : keysL (zeros ks) = ks.map ltr := by simp [keysL, zeros]
theorem less_take {ks : List Nat} {j : Nat} (hj : j < ks.length) (b : Nat) : less b (ks.take (j + 1)) = less b (ks.take j) ++ (if ks[j] = b then [] else [ks[j]]) := by
  unfold less
  rw [List.take_succ_eq_append_getElem hj, List.filter_append]
  congr 1
  by_cases h : ks[j] = b <;> simp [h]
end Go.Proofs.Ytmpaopfjpigneaa
