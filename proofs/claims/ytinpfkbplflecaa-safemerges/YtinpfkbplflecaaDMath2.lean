/-
  Plain mathematics of rows of texts that rise, each once: sorting and leaving out neighbours that are alike, or putting each in its place, come to the same. No conditions beyond those of each statement.
-/
import Derived.Test.YtinpfkbplflecaaDMath
import Derived.Lib.SlicesCompact
namespace Go.Proofs.Ytinpfkbplflecaa

abbrev Tx := List UInt8
theorem tx_lt_irrefl (a : Tx) : ¬ a < a := List.lt_irrefl a
theorem tx_lt_trans {a b c : Tx} (h : a < b) (k : b < c) : a < c := List.lt_trans h k
theorem tx_le_trans {a b c : Tx} (h : a ≤ b) (k : b ≤ c) : a ≤ c := List.le_trans h k
theorem tx_le_lt {a b c : Tx} (h : a ≤ b) (k : b < c) : a < c := List.lt_of_le_of_lt h k
theorem tx_total (a b : Tx) : a ≤ b ∨ b ≤ a := List.le_total a b
theorem tx_anti {a b : Tx} (h : a ≤ b) (k : b ≤ a) : a = b := List.le_antisymm h k
theorem tx_le_refl (a : Tx) : a ≤ a := List.le_refl a
theorem tx_not_lt {a b : Tx} : ¬ a < b ↔ b ≤ a := List.not_lt
theorem tx_lt_of {a b : Tx} (h : a ≤ b) (k : a ≠ b) : a < b := by
  by_cases hl : a < b
  · exact hl
  · exact absurd (tx_anti h (tx_not_lt.1 hl)) k
theorem tx_ne {a b : Tx} (h : a < b) : a ≠ b := by rintro rfl; exact tx_lt_irrefl _ h

def Up (l : List Tx) : Prop := l.Pairwise (· < ·)
theorem up_unique : ∀ {a b : List Tx}, Up a → Up b → (∀ x, x ∈ a ↔ x ∈ b) → a = b
  | [], [], _, _, _ => rfl
  | [], y :: _, _, _, h => by have := (h y).2 (by simp); simp at this
  | x :: _, [], _, _, h => by have := (h x).1 (by simp); simp at this
  | x :: a, y :: b, ha, hb, h => by
    have ha' := List.pairwise_cons.1 ha
    have hb' := List.pairwise_cons.1 hb
    have e : x = y := by
      rcases List.mem_cons.1 ((h x).1 (by simp)) with e | hx
      · exact e
      · rcases List.mem_cons.1 ((h y).2 (by simp)) with e | hy
        · exact e.symm
        · exact absurd (tx_lt_trans (hb'.1 x hx) (ha'.1 y hy)) (tx_lt_irrefl _)
    subst e
    rw [up_unique ha'.2 hb'.2 fun z => ?_]
    constructor
    · intro hz
      rcases List.mem_cons.1 ((h z).1 (List.mem_cons_of_mem _ hz)) with e | k
      · exact absurd (ha'.1 z hz) (by rw [e]; exact tx_lt_irrefl _)
      · exact k
    · intro hz
      rcases List.mem_cons.1 ((h z).2 (List.mem_cons_of_mem _ hz)) with e | k
      · exact absurd (hb'.1 z hz) (by rw [e]; exact tx_lt_irrefl _)
      · exact k

/-- neighbours that are alike left out of a row that does not fall -/
theorem compactUpTo_up (d : Array Tx) (hd : ∀ i, i + 1 < d.size → d[i]! ≤ d[i + 1]!) : ∀ m, m ≤ d.size →
    Up (Lib.compactUpTo d m) ∧ (∀ x, x ∈ Lib.compactUpTo d m ↔ ∃ j, j < m ∧ d[j]! = x) ∧ (∀ x ∈ Lib.compactUpTo d m, x ≤ d[m - 1]!)
  | 0, _ => by
    refine ⟨by simp [Lib.compactUpTo, Up], fun x => by simp [Lib.compactUpTo], fun x hx => by simp [Lib.compactUpTo] at hx⟩
  | m + 1, hm => by
    obtain ⟨h1, h2, h3⟩ := compactUpTo_up d hd m (by omega)
    rw [Lib.compactUpTo_succ]
    have hle : 0 < m → d[m - 1]! ≤ d[m]! := fun h0 => by
      have := hd (m - 1) (by omega)
      rwa [show m - 1 + 1 = m by omega] at this
    have hmem : ∀ x ∈ Lib.compactUpTo d m, x ≤ d[m]! := by
      intro x hx
      obtain ⟨j, hj, _⟩ := (h2 x).1 hx
      exact tx_le_trans (h3 x hx) (hle (by omega))
    cases hk : Lib.keeps d m
    · have hk' : ¬ (m = 0 ∨ d[m]! ≠ d[m - 1]!) := by simpa [Lib.keeps] using hk
      have hm0 : 0 < m := Nat.pos_of_ne_zero fun h => hk' (.inl h)
      have he : d[m]! = d[m - 1]! := Classical.byContradiction fun h => hk' (.inr h)
      simp only [Bool.false_eq_true, if_false, List.append_nil]
      refine ⟨h1, fun x => ?_, fun x hx => by simpa using hmem x hx⟩
      rw [h2 x]
      constructor
      · rintro ⟨j, hj, e⟩; exact ⟨j, by omega, e⟩
      · rintro ⟨j, hj, e⟩
        rcases (by omega : j < m ∨ j = m) with h | rfl
        · exact ⟨j, h, e⟩
        · exact ⟨j - 1, by omega, by rw [← he, e]⟩
    · simp only [if_true]
      have hk' : m = 0 ∨ d[m]! ≠ d[m - 1]! := by simpa [Lib.keeps] using hk
      refine ⟨?_, fun x => ?_, fun x hx => ?_⟩
      · refine List.pairwise_append.2 ⟨h1, by simp, fun x hx y hy => ?_⟩
        obtain rfl : y = d[m]! := by simpa using hy
        obtain ⟨j, hj, _⟩ := (h2 x).1 hx
        rcases hk' with h | h
        · omega
        · exact tx_le_lt (h3 x hx) (tx_lt_of (hle (by omega)) (fun e => h e.symm))
      · rw [List.mem_append, h2 x]
        constructor
        · rintro (⟨j, hj, e⟩ | h)
          · exact ⟨j, by omega, e⟩
          · exact ⟨m, by omega, (List.mem_singleton.1 h).symm⟩
        · rintro ⟨j, hj, e⟩
          rcases (by omega : j < m ∨ j = m) with h | rfl
          · exact .inl ⟨j, h, e⟩
          · exact .inr (by simp [e])
      · rcases List.mem_append.1 hx with h | h
        · simpa using hmem x h
        · obtain rfl : x = d[m]! := by simpa using h
          exact tx_le_refl _
theorem bang_at (l : List Tx) (i : Nat) (h : i < l.length) : l.toArray[i]! = l[i] := by simp [h]
theorem compact_up {l : List Tx} (hl : l.Pairwise (· ≤ ·)) : Up (Lib.compact l) ∧ ∀ x, x ∈ Lib.compact l ↔ x ∈ l := by
  obtain ⟨h1, h2, _⟩ := compactUpTo_up l.toArray (fun i hi => by
    have hi' : i + 1 < l.length := by simpa using hi
    rw [bang_at l i (by omega), bang_at l (i + 1) hi']
    exact List.pairwise_iff_getElem.1 hl i (i + 1) (by omega) hi' (by omega)) l.length (by simp)
  refine ⟨h1, fun x => ?_⟩
  rw [show (x ∈ Lib.compact l ↔ _) from h2 x]
  constructor
  · rintro ⟨j, hj, e⟩; rw [bang_at l j hj] at e; exact e ▸ List.getElem_mem hj
  · intro hx
    obtain ⟨j, hj, e⟩ := List.mem_iff_getElem.1 hx
    exact ⟨j, hj, by rw [bang_at l j hj, e]⟩
def sortT (l : List Tx) : List Tx := l.mergeSort fun x y => decide (x ≤ y)
theorem sort_up (l : List Tx) : (sortT l).Pairwise (· ≤ ·) := by
  have h := List.pairwise_mergeSort (le := fun x y : Tx => decide (x ≤ y)) (by
    intro a b c h1 h2
    simp only [decide_eq_true_eq] at h1 h2 ⊢
    exact tx_le_trans h1 h2) (by
    intro a b
    simp only [Bool.or_eq_true, decide_eq_true_eq]
    exact tx_total a b) l
  exact h.imp (by simp)
theorem sort_mem (l : List Tx) (x : Tx) : x ∈ sortT l ↔ x ∈ l := List.mem_mergeSort

/-- a text put in its place, if it is not there -/
def insU (acc : List Tx) (x : Tx) : List Tx :=
  if (acc.dropWhile (fun y => decide (y < x))).head? = some x then acc else acc.takeWhile (fun y => decide (y < x)) ++ x :: acc.dropWhile (fun y => decide (y < x))
def risL (l : List Tx) : List Tx := l.foldl insU []
theorem ris_snoc (l : List Tx) (x : Tx) : risL (l ++ [x]) = insU (risL l) x := by simp [risL]
theorem while_at (p : Tx → Bool) : ∀ (l : List Tx) (k : Nat), k ≤ l.length → (∀ j (h : j < l.length), j < k → p l[j] = true) → (∀ h : k < l.length, p l[k] = false) → l.takeWhile p = l.take k ∧ l.dropWhile p = l.drop k
  | [], k, _, _, _ => by simp
  | x :: r, 0, _, _, h => by
    have : p x = false := h (by simp)
    simp [this]
  | x :: r, k + 1, hk, h1, h2 => by
    have hx : p x = true := h1 0 (by simp) (by omega)
    obtain ⟨e1, e2⟩ := while_at p r k (by simpa using hk) (fun j hj hjk => h1 (j + 1) (by simpa using hj) (by omega)) (fun h => h2 (by simpa using h))
    simp [hx, e1, e2]
theorem ins_there {acc : List Tx} {x : Tx} {k : Nat} (hk : k < acc.length) (h1 : ∀ j (h : j < acc.length), j < k → acc[j] < x) (h2 : acc[k] = x) : insU acc x = acc := by
  obtain ⟨_, e2⟩ := while_at (fun y => decide (y < x)) acc k (by omega) (fun j h hj => by simpa using h1 j h hj) (fun h => decide_eq_false (by rw [h2]; exact tx_lt_irrefl x))
  unfold insU
  rw [e2, if_pos (by rw [List.drop_eq_getElem_cons hk, h2]; rfl)]
theorem ins_new {acc : List Tx} {x : Tx} {k : Nat} (hk : k ≤ acc.length) (h1 : ∀ j (h : j < acc.length), j < k → acc[j] < x) (h2 : ∀ h : k < acc.length, ¬ acc[k] < x ∧ acc[k] ≠ x) : insU acc x = acc.take k ++ x :: acc.drop k := by
  obtain ⟨e1, e2⟩ := while_at (fun y => decide (y < x)) acc k hk (fun j h hj => by simpa using h1 j h hj) (fun h => by simpa using (h2 h).1)
  unfold insU
  rw [e2, e1, if_neg]
  intro e
  by_cases h : k < acc.length
  · rw [List.drop_eq_getElem_cons h] at e
    exact (h2 h).2 (Option.some.inj e)
  · rw [List.drop_of_length_le (by omega)] at e; cases e
theorem ins_mem (acc : List Tx) (x y : Tx) : y ∈ insU acc x ↔ y = x ∨ y ∈ acc := by
  have hs : acc.takeWhile (fun y => decide (y < x)) ++ acc.dropWhile (fun y => decide (y < x)) = acc := List.takeWhile_append_dropWhile
  unfold insU
  split
  · rename_i h
    constructor
    · exact .inr
    · rintro (rfl | h2)
      · rw [← hs]
        refine List.mem_append_right _ ?_
        cases hd : acc.dropWhile (fun z => decide (z < y)) with
        | nil => rw [hd] at h; cases h
        | cons z r => rw [hd] at h; simp at h; simp [h]
      · exact h2
  · constructor
    · intro h
      rcases List.mem_append.1 h with h | h
      · exact .inr (by rw [← hs]; exact List.mem_append_left _ h)
      · rcases List.mem_cons.1 h with h | h
        · exact .inl h
        · exact .inr (by rw [← hs]; exact List.mem_append_right _ h)
    · rintro (rfl | h)
      · simp
      · rw [← hs] at h
        rcases List.mem_append.1 h with h | h
        · exact List.mem_append_left _ h
        · exact List.mem_append_right _ (List.mem_cons_of_mem _ h)
theorem takeWhile_lt (x : Tx) : ∀ (l : List Tx), ∀ y ∈ l.takeWhile (fun y => decide (y < x)), y < x
  | [], y, h => by simp at h
  | z :: r, y, h => by
    rw [List.takeWhile_cons] at h
    split at h
    · rcases List.mem_cons.1 h with rfl | h
      · simpa using ‹decide (y < x) = true›
      · exact takeWhile_lt x r y h
    · simp at h
theorem ins_up {acc : List Tx} (h : Up acc) (x : Tx) : Up (insU acc x) := by
  have hs : acc.takeWhile (fun y => decide (y < x)) ++ acc.dropWhile (fun y => decide (y < x)) = acc := List.takeWhile_append_dropWhile
  have hw := takeWhile_lt x acc
  have h' := h
  unfold Up at h'
  rw [← hs] at h'
  obtain ⟨p1, p2, p3⟩ := List.pairwise_append.1 h'
  unfold insU
  split
  · exact h
  · rename_i hne
    refine List.pairwise_append.2 ⟨p1, List.pairwise_cons.2 ⟨?_, p2⟩, ?_⟩
    · cases hd : acc.dropWhile (fun z => decide (z < x)) with
      | nil => intro a ha; simp at ha
      | cons z r =>
        rw [hd] at hne p2
        have hz : ¬ z < x := by
          have : (acc.dropWhile (fun z => decide (z < x))).head? = some z := by rw [hd]; rfl
          have := List.head?_dropWhile_not (fun z => decide (z < x)) acc
          rw [hd] at this
          simpa using this
        have hzx : x < z := tx_lt_of (tx_not_lt.1 hz) (fun e => hne (by simp [e]))
        intro a ha
        rcases List.mem_cons.1 ha with rfl | ha
        · exact hzx
        · exact tx_lt_trans hzx ((List.pairwise_cons.1 p2).1 a ha)
    · intro a ha b hb
      rcases List.mem_cons.1 hb with rfl | hb
      · exact hw a ha
      · exact p3 a ha b hb
theorem fold_ins (l : List Tx) : ∀ acc, Up acc → Up (l.foldl insU acc) ∧ ∀ x, x ∈ l.foldl insU acc ↔ x ∈ acc ∨ x ∈ l := by
  induction l with
  | nil => intro acc h; exact ⟨h, by simp⟩
  | cons y r ih =>
    intro acc h
    obtain ⟨h1, h2⟩ := ih (insU acc y) (ins_up h y)
    refine ⟨h1, fun x => ?_⟩
    rw [List.foldl_cons, h2 x, ins_mem, List.mem_cons]
    constructor
    · rintro ((rfl | h) | h)
      · exact .inr (.inl rfl)
      · exact .inl h
      · exact .inr (.inr h)
    · rintro (h | rfl | h)
      · exact .inl (.inr h)
      · exact .inl (.inl rfl)
      · exact .inr h
theorem ris_up (l : List Tx) : Up (risL l) := (fold_ins l [] (by simp [Up])).1
theorem ris_mem (l : List Tx) (x : Tx) : x ∈ risL l ↔ x ∈ l := by rw [show (x ∈ risL l ↔ _) from (fold_ins l [] (by simp [Up])).2 x]; simp
theorem compact_sort (l : List Tx) : Lib.compact (sortT l) = risL l :=
  up_unique (compact_up (sort_up l)).1 (ris_up l) fun x => by rw [(compact_up (sort_up l)).2 x, sort_mem, ris_mem]
theorem ins_len (acc : List Tx) (x : Tx) : (insU acc x).length ≤ acc.length + 1 := by
  have hs := congrArg List.length (List.takeWhile_append_dropWhile (p := fun y => decide (y < x)) (l := acc))
  unfold insU
  split
  · omega
  · simp only [List.length_append, List.length_cons] at hs ⊢; omega
theorem fold_ins_len (l : List Tx) : ∀ acc, (l.foldl insU acc).length ≤ acc.length + l.length := by
  induction l with
  | nil => intro acc; simp
  | cons y r ih => intro acc; have := ih (insU acc y); have := ins_len acc y; simp only [List.foldl_cons, List.length_cons]; omega
theorem ris_len (l : List Tx) : (risL l).length ≤ l.length := by have := fold_ins_len l []; simpa [risL] using this

def namesH (l : List Hd) : List Tx := risL (l.map (fun h => Lk.lower h.1))
theorem names_norm (l : List Hd) : namesH (normL l) = namesH l := by
  unfold namesH normL
  rw [List.map_map]
  congr 1
  apply List.map_congr_left
  intro h _
  exact Lk.lower_lower h.1
theorem names_len (l : List Hd) : (namesH l).length ≤ l.length := by have := ris_len (l.map (fun h => Lk.lower h.1)); simpa [namesH] using this
theorem names_mem (l : List Hd) (x : Tx) : x ∈ namesH l ↔ ∃ h ∈ l, Lk.lower h.1 = x := by unfold namesH; rw [ris_mem]; simp
theorem names_got (l : List Hd) (n : Tx) : gotH l n = decide (Lk.lower n ∈ namesH l) := by
  rw [Bool.eq_iff_iff, decide_eq_true_eq, names_mem]
  simp [gotH, Lk.foldL]
theorem names_each {l : List Hd} {x : Tx} (h : x ∈ namesH l) : gotH l x = true := by
  obtain ⟨g, hg, e⟩ := (names_mem l x).1 h
  unfold gotH
  rw [List.any_eq_true]
  exact ⟨g, hg, by rw [← e, fold_comm, fold_lower]; exact fold_refl _⟩
end Go.Proofs.Ytinpfkbplflecaa
