/-
  Plain mathematics of a heap in a list: the order of alarms, what rising and sinking keep, what is taken out. No program. No conditions beyond those of each statement.
-/
import Derived.Test.YtbpdemgbljbhcaaKBase
namespace Go.Proofs.Ytbpdemgbljbhcaa
open Go.RowKit

/-- an alarm: its time, its number, its tag -/
abbrev Al := Int × Int × Int
/-- due ahead -/
def bef (a b : Al) : Bool := if a.1 = b.1 then decide (a.2.1 < b.2.1) else decide (a.1 < b.1)
def aLe (a b : Al) : Prop := bef b a = false
theorem aLe_iff (a b : Al) : aLe a b ↔ a.1 < b.1 ∨ (a.1 = b.1 ∧ a.2.1 ≤ b.2.1) := by
  unfold aLe bef
  split <;> simp <;> omega
theorem bef_iff (a b : Al) : bef a b = true ↔ a.1 < b.1 ∨ (a.1 = b.1 ∧ a.2.1 < b.2.1) := by
  unfold bef
  split <;> simp <;> omega
theorem aLe.trans {a b c : Al} (h : aLe a b) (k : aLe b c) : aLe a c := by
  rw [aLe_iff] at *; omega
theorem aLe.refl (a : Al) : aLe a a := by rw [aLe_iff]; omega
theorem aLe_of_bef {a b : Al} (h : bef a b = true) : aLe a b := by
  rw [bef_iff] at h; rw [aLe_iff]; omega
theorem aLe_of_not {a b : Al} (h : bef a b = false) : aLe b a := h

def nth (l : List Al) (i : Nat) : Al := l.getD i (0, 0, 0)
theorem nth_eq {l : List Al} {i : Nat} (h : i < l.length) : nth l i = l[i] := by simp [nth, List.getD, h]
theorem nth_mem {l : List Al} {i : Nat} (h : i < l.length) : nth l i ∈ l := by rw [nth_eq h]; exact List.getElem_mem h
theorem nth_set {l : List Al} {i k : Nat} {x : Al} (h : i < l.length) : nth (l.set i x) k = if k = i then x else nth l k := by
  unfold nth
  rw [List.getD_eq_getElem?_getD, List.getD_eq_getElem?_getD, List.getElem?_set]
  by_cases e : i = k
  · subst e; simp [h]
  · rw [if_neg e, if_neg (fun e2 => e e2.symm)]
def swp (l : List Al) (i j : Nat) : List Al := (l.set i (nth l j)).set j (nth l i)
theorem swp_len (l : List Al) (i j : Nat) : (swp l i j).length = l.length := by simp [swp]
theorem nth_swp {l : List Al} {i j : Nat} (hi : i < l.length) (hj : j < l.length) (k : Nat) : nth (swp l i j) k = if k = j then nth l i else if k = i then nth l j else nth l k := by
  unfold swp
  rw [nth_set (by simpa using hj), nth_set hi]
theorem swp_perm {l : List Al} {i j : Nat} (hi : i < l.length) (hj : j < l.length) : (swp l i j).Perm l := by
  unfold swp
  rw [nth_eq hi, nth_eq hj]
  exact List.set_set_perm hi hj

/-- a heap -/
def HeapL (l : List Al) : Prop := ∀ i, 0 < i → i < l.length → aLe (nth l ((i - 1) / 2)) (nth l i)
/-- a heap but for what may have to rise at p -/
def RiseAt (l : List Al) (p : Nat) : Prop :=
  (∀ i, 0 < i → i < l.length → i ≠ p → aLe (nth l ((i - 1) / 2)) (nth l i)) ∧
  (∀ i, 0 < i → i < l.length → (i - 1) / 2 = p → 0 < p → aLe (nth l ((p - 1) / 2)) (nth l i))
theorem RiseAt.zero {l : List Al} (h : RiseAt l 0) : HeapL l := fun i h0 h1 => h.1 i h0 h1 (by omega)
theorem RiseAt.stop {l : List Al} {p : Nat} (h : RiseAt l p) (hb : bef (nth l ((p - 1) / 2)) (nth l p) = true) : HeapL l := by
  intro i h0 h1
  by_cases e : i = p
  · subst e; exact aLe_of_bef hb
  · exact h.1 i h0 h1 e
theorem RiseAt.step {l : List Al} {p q : Nat} (h : RiseAt l p) (hp : 0 < p) (hl : p < l.length) (hq : (p - 1) / 2 = q) (hb : bef (nth l q) (nth l p) = false) : RiseAt (swp l q p) q := by
  have hqp : q < p := by omega
  have hql : q < l.length := by omega
  have hle := aLe_of_not hb
  constructor
  · intro i h0 h1 hne
    rw [swp_len] at h1
    rw [nth_swp hql hl, nth_swp hql hl]
    by_cases e1 : i = p
    · subst e1
      rw [if_pos rfl, hq, if_neg (by omega), if_pos rfl]
      exact hle
    · rw [if_neg e1, if_neg hne]
      by_cases e2 : (i - 1) / 2 = p
      · rw [if_pos e2]
        have := h.2 i h0 h1 e2 hp
        rw [hq] at this
        exact this
      · rw [if_neg e2]
        by_cases e3 : (i - 1) / 2 = q
        · rw [if_pos e3]
          have := h.1 i h0 h1 e1
          rw [e3] at this
          exact hle.trans this
        · rw [if_neg e3]
          exact h.1 i h0 h1 e1
  · intro i h0 h1 hi hq0
    rw [swp_len] at h1
    have hg := h.1 q hq0 hql (by omega)
    rw [nth_swp hql hl, nth_swp hql hl, if_neg (by omega), if_neg (by omega)]
    by_cases e1 : i = p
    · rw [if_pos e1]; exact hg
    · rw [if_neg e1, if_neg (by omega)]
      have := h.1 i h0 h1 e1
      rw [hi] at this
      exact hg.trans this
/-- what holds while the alarm that was laid at q sinks, and is at p -/
structure SinkAt (l : List Al) (q p : Nat) : Prop where
  le : q ≤ p
  s1 : ∀ i, 0 < i → i < l.length → i ≠ q → (i - 1) / 2 ≠ p → aLe (nth l ((i - 1) / 2)) (nth l i)
  s2 : p ≠ q → ∀ i, 0 < i → i < l.length → (i - 1) / 2 = p → aLe (nth l ((p - 1) / 2)) (nth l i)
  s3 : 0 < q → p = q → ∀ i, 0 < i → i < l.length → (i - 1) / 2 = q → aLe (nth l ((q - 1) / 2)) (nth l i)
  s4 : 0 < q → p ≠ q → aLe (nth l ((q - 1) / 2)) (nth l q)
theorem SinkAt.stop {l : List Al} {q p : Nat} (h : SinkAt l q p) (hm : ∀ i, 0 < i → i < l.length → (i - 1) / 2 = p → aLe (nth l p) (nth l i)) : RiseAt l q := by
  have full : ∀ i, 0 < i → i < l.length → i ≠ q → aLe (nth l ((i - 1) / 2)) (nth l i) := by
    intro i h0 h1 hne
    by_cases e : (i - 1) / 2 = p
    · rw [e]; exact hm i h0 h1 e
    · exact h.s1 i h0 h1 hne e
  refine ⟨full, ?_⟩
  intro i h0 h1 hi hq
  by_cases e : p = q
  · exact h.s3 hq e i h0 h1 hi
  · have h4 := h.s4 hq e
    have := full i h0 h1 (by omega)
    rw [hi] at this
    exact h4.trans this
theorem SinkAt.step {l : List Al} {q p c : Nat} (h : SinkAt l q p) (hc : c < l.length) (hc0 : 0 < c) (hcp : (c - 1) / 2 = p) (hb : bef (nth l c) (nth l p) = true)
    (hm : ∀ i, 0 < i → i < l.length → (i - 1) / 2 = p → aLe (nth l c) (nth l i)) : SinkAt (swp l p c) q c := by
  have hpc : p < c := by omega
  have hpl : p < l.length := by omega
  have hqp := h.le
  have hle := aLe_of_bef hb
  refine ⟨by omega, ?_, ?_, fun _ e => by omega, ?_⟩
  · intro i h0 h1 hne hpar
    rw [swp_len] at h1
    rw [nth_swp hpl hc, nth_swp hpl hc, if_neg hpar]
    by_cases e1 : (i - 1) / 2 = p
    · rw [if_pos e1]
      by_cases e2 : i = c
      · rw [if_pos e2]; exact hle
      · rw [if_neg e2, if_neg (by omega)]; exact hm i h0 h1 e1
    · rw [if_neg e1, if_neg (by rintro rfl; exact e1 hcp)]
      by_cases e2 : i = p
      · subst e2
        rw [if_pos rfl]
        exact h.s2 hne c hc0 hc hcp
      · rw [if_neg e2]; exact h.s1 i h0 h1 hne e1
  · intro _ i h0 h1 hi
    rw [swp_len] at h1
    rw [nth_swp hpl hc, nth_swp hpl hc, hcp, if_neg (by omega), if_pos rfl, if_neg (by omega), if_neg (by omega)]
    have := h.s1 i h0 h1 (by omega) (by omega)
    rw [hi] at this
    exact this
  · intro hq _
    rw [nth_swp hpl hc, nth_swp hpl hc, if_neg (by omega), if_neg (by omega), if_neg (by omega)]
    by_cases e : q = p
    · rw [if_pos e]
      exact h.s3 hq e.symm c hc0 hc (by omega)
    · rw [if_neg e]
      exact h.s4 hq (by omega)
theorem bef_trans {a b c : Al} (h : bef a b = true) (k : bef b c = true) : bef a c = true := by
  rw [bef_iff] at *; omega
/-- what the scan of the children of k ahead of j has found: the first of them and of k itself -/
structure Scan (l : List Al) (k j m : Nat) : Prop where
  lt : m < l.length
  is : m = k ∨ ((m - 1) / 2 = k ∧ 0 < m ∧ bef (nth l m) (nth l k) = true)
  all : ∀ i, i < j → 0 < i → i < l.length → (i - 1) / 2 = k → aLe (nth l m) (nth l i)
theorem Scan.start {l : List Al} {k : Nat} (h : k < l.length) : Scan l k (2 * k + 1) k := ⟨h, .inl rfl, fun i h1 h2 _ h4 => by omega⟩
theorem Scan.yes {l : List Al} {k j m : Nat} (h : Scan l k j m) (hj : j < l.length) (hjk : (j - 1) / 2 = k) (h0 : 0 < j) (hb : bef (nth l j) (nth l m) = true) : Scan l k (j + 1) j := by
  refine ⟨hj, .inr ⟨hjk, h0, ?_⟩, ?_⟩
  · rcases h.is with rfl | ⟨_, _, h3⟩
    · exact hb
    · exact bef_trans hb h3
  · intro i h1 h2 h3 h4
    by_cases e : i = j
    · subst e; exact aLe.refl _
    · exact (aLe_of_bef hb).trans (h.all i (by omega) h2 h3 h4)
theorem Scan.no {l : List Al} {k j m : Nat} (h : Scan l k j m) (hb : bef (nth l j) (nth l m) = false) : Scan l k (j + 1) m := by
  refine ⟨h.lt, h.is, ?_⟩
  intro i h1 h2 h3 h4
  by_cases e : i = j
  · subst e; exact aLe_of_not hb
  · exact h.all i (by omega) h2 h3 h4
theorem Scan.whole {l : List Al} {k j m : Nat} (h : Scan l k j m) (he : 2 * k + 2 < j ∨ l.length ≤ j) : ∀ i, 0 < i → i < l.length → (i - 1) / 2 = k → aLe (nth l m) (nth l i) :=
  fun i h1 h2 h3 => h.all i (by omega) h1 h2 h3
theorem HeapL.least {l : List Al} (h : HeapL l) : ∀ i, i < l.length → aLe (nth l 0) (nth l i) := by
  intro i
  induction i using Nat.strongRecOn with
  | _ i ih =>
    intro hi
    by_cases e : i = 0
    · subst e; exact aLe.refl _
    · exact (ih ((i - 1) / 2) (by omega) (by omega)).trans (h i (by omega) hi)
theorem nth_append {l : List Al} {x : Al} {i : Nat} (h : i < l.length) : nth (l ++ [x]) i = nth l i := by
  rw [nth_eq (by simp; omega), nth_eq h, List.getElem_append_left h]
theorem HeapL.push {l : List Al} (h : HeapL l) (x : Al) : RiseAt (l ++ [x]) l.length := by
  constructor
  · intro i h0 h1 hne
    rw [List.length_append, List.length_singleton] at h1
    rw [nth_append (by omega), nth_append (by omega)]
    exact h i h0 (by omega)
  · intro i h0 h1 hi
    rw [List.length_append, List.length_singleton] at h1
    omega
/-- the alarm at k taken out: the last one is laid there -/
def outAt (l : List Al) (k : Nat) : List Al := (l.set k (nth l (l.length - 1))).take (l.length - 1)
theorem outAt_len (l : List Al) (k : Nat) : (outAt l k).length = l.length - 1 := by simp [outAt]
theorem nth_take {l : List Al} {i n : Nat} (h : i < n) : nth (l.take n) i = nth l i := by
  unfold nth
  rw [List.getD_eq_getElem?_getD, List.getD_eq_getElem?_getD, List.getElem?_take, if_pos h]
theorem nth_out {l : List Al} {k i : Nat} (hk : k < l.length) (hi : i < l.length - 1) : nth (outAt l k) i = if i = k then nth l (l.length - 1) else nth l i := by
  unfold outAt
  rw [nth_take hi, nth_set hk]
theorem HeapL.outLast {l : List Al} (h : HeapL l) {k : Nat} (hk : k < l.length) (e : k = l.length - 1) : HeapL (outAt l k) := by
  intro i h0 h1
  rw [outAt_len] at h1
  rw [nth_out hk (by omega), nth_out hk h1, if_neg (by omega), if_neg (by omega)]
  exact h i h0 (by omega)
theorem HeapL.out {l : List Al} (h : HeapL l) {k : Nat} (hk : k < l.length - 1) : SinkAt (outAt l k) k k := by
  refine ⟨Nat.le_refl _, ?_, fun e => absurd rfl e, ?_, fun _ e => absurd rfl e⟩
  · intro i h0 h1 hne hpar
    rw [outAt_len] at h1
    rw [nth_out (by omega) (by omega), nth_out (by omega) h1, if_neg hpar, if_neg hne]
    exact h i h0 (by omega)
  · intro hk0 _ i h0 h1 hi
    rw [outAt_len] at h1
    rw [nth_out (by omega) (by omega), nth_out (by omega) h1, if_neg (by omega), if_neg (by omega)]
    have h2 := h i h0 (by omega)
    rw [hi] at h2
    exact (h k hk0 (by omega)).trans h2
theorem set_perm {A B : List Al} {x z : Al} : (x :: (A ++ z :: B)).Perm (A ++ x :: B ++ [z]) := by
  refine (List.perm_middle.symm : (x :: (A ++ z :: B)).Perm (A ++ x :: (z :: B))).trans ?_
  rw [List.append_assoc]
  refine List.Perm.append_left A ?_
  show (x :: (z :: B)).Perm (x :: (B ++ [z]))
  refine List.Perm.cons x ?_
  have := (List.perm_append_comm : (B ++ [z]).Perm ([z] ++ B))
  exact this.symm
theorem out_perm {l : List Al} {k : Nat} (hk : k < l.length) : (nth l k :: outAt l k).Perm l := by
  have hne : l ≠ [] := by rintro rfl; simp at hk
  obtain ⟨m, z, rfl⟩ : ∃ m z, l = m ++ [z] := ⟨l.dropLast, l.getLast hne, (List.dropLast_concat_getLast hne).symm⟩
  have hz : nth (m ++ [z]) ((m ++ [z]).length - 1) = z := by
    rw [nth_eq (by simp)]; simp
  unfold outAt
  rw [hz]
  rw [List.length_append, List.length_singleton] at hk ⊢
  by_cases e : k = m.length
  · subst e
    rw [nth_eq (by simp)]
    simp only [List.getElem_concat_length, Nat.add_sub_cancel]
    have : ((m ++ [z]).set m.length z).take m.length = m := by
      rw [List.set_append_right _ _ (Nat.le_refl _)]
      simp
    rw [this]
    exact List.perm_append_comm (l₁ := [z])
  · have hkm : k < m.length := by omega
    rw [nth_append hkm, nth_eq hkm, List.set_append_left _ _ hkm, Nat.add_sub_cancel, List.take_append_of_le_length (by simp), List.take_of_length_le (by simp)]
    have h1 : m = m.take k ++ m[k] :: m.drop (k + 1) := by simp
    have h2 : m.set k z = m.take k ++ z :: m.drop (k + 1) := List.set_eq_take_append_cons_drop.trans (by rw [if_pos hkm])
    rw [h2]
    refine (set_perm (A := m.take k) (B := m.drop (k + 1)) (x := m[k]) (z := z)).trans ?_
    rw [← h1]
end Go.Proofs.Ytbpdemgbljbhcaa
