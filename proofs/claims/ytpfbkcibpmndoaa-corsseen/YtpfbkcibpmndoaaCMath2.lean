/-
  Plain mathematics of the law CorsSeen: headers, each followed by one that asks for it to be read; what is then read. No conditions beyond those of each statement.
-/
import Derived.Test.YtpfbkcibpmndoaaCMath
namespace Go.Proofs.Ytpfbkcibpmndoaa

theorem tight_all {l : List UInt8} (h : ∀ b ∈ l, Lk.sp b = false) : Lk.Tight l := by
  by_cases hn : l = []
  · exact .inl hn
  · right
    refine ⟨⟨l.head hn, l.tail, (List.cons_head_tail hn).symm, h _ (List.head_mem hn)⟩, ⟨l.getLast hn, l.dropLast, (List.dropLast_concat_getLast hn).symm, h _ (List.getLast_mem hn)⟩⟩
/-- tokens -/
theorem tok_not_sp {b : UInt8} (h : Lk.tokB b.toNat = true) : Lk.sp b = false ∧ b ≠ 44 := by
  refine ⟨?_, ?_⟩
  · cases hs : Lk.sp b
    · rfl
    · exfalso
      simp [Lk.sp, Lk.spB] at hs
      have : ∀ c : Int, c = 9 ∨ c = 10 ∨ c = 13 ∨ c = 32 → Lk.tokB c = false := by rintro c (rfl | rfl | rfl | rfl) <;> decide
      rw [this _ (by omega)] at h
      cases h
  · rintro rfl
    exact absurd h (by decide)
theorem tok_all {l : List UInt8} (h : Lk.tokL l = true) : (∀ b ∈ l, Lk.tokB b.toNat = true) ∧ l ≠ [] := by
  simp only [Lk.tokL, Bool.and_eq_true, List.all_eq_true] at h
  exact ⟨h.1, by simpa using h.2⟩
theorem tok_trim {l : List UInt8} (h : Lk.tokL l = true) : Lk.trimL l = l := Lk.trim_of_tight (tight_all fun b hb => (tok_not_sp ((tok_all h).1 b hb)).1)

def expC : List UInt8 := [65, 99, 99, 101, 115, 115, 45, 67, 111, 110, 116, 114, 111, 108, 45, 69, 120, 112, 111, 115, 101, 45, 72, 101, 97, 100, 101, 114, 115]
/-- what asks for a header: its name, or a star -/
def valE (star : Bool) (h : Hd) : List UInt8 := if star then [42] else h.1
def inter (star : Bool) (l : List Hd) : List Hd := l.flatMap (fun h => [h, (expC, valE star h)])
def OkN (h : Hd) : Prop := Lk.tokL h.1 = true ∧ Lk.foldL h.1 expN = false
theorem inter_nil (star : Bool) : inter star [] = [] := rfl
theorem inter_cons (star : Bool) (h : Hd) (l : List Hd) : inter star (h :: l) = h :: (expC, valE star h) :: inter star l := rfl
theorem inter_snoc (star : Bool) (l : List Hd) (h : Hd) : inter star (l ++ [h]) = inter star l ++ [h] ++ [(expC, valE star h)] := by simp [inter]
theorem inter_len (star : Bool) (l : List Hd) : (inter star l).length = 2 * l.length := by
  induction l with
  | nil => rfl
  | cons h r ih => rw [inter_cons, List.length_cons, List.length_cons, ih, List.length_cons]; omega
theorem lower_exp : Lk.lower expC = expN := by decide
theorem fold_exp : Lk.foldL expC expN = true := by decide
theorem norm_exp (v : List UInt8) : (normH (expC, v)).1 = expN := lower_exp
theorem vals_inter (star : Bool) : ∀ l : List Hd, (∀ h ∈ l, OkN h) → valsH (inter star l) expN = l.map (fun h => valE star h)
  | [], _ => rfl
  | h :: r, hl => by
    have h1 := hl h (by simp)
    have h2 : Lk.trimL (valE star h) = valE star h := by
      unfold valE
      split
      · decide
      · exact tok_trim h1.1
    rw [inter_cons, vals_cons, vals_cons, h1.2, show Lk.foldL (expC, valE star h).1 expN = true from fold_exp, vals_inter star r (fun x hx => hl x (List.mem_cons_of_mem _ hx))]
    simp [h2]
theorem shown_inter (star : Bool) (l : List Hd) (hl : ∀ h ∈ l, OkN h) : shownH (inter star l) = l.map (fun h => Lk.lower (valE star h)) := by
  have ht : ∀ x ∈ l.map (fun h => valE star h), Lk.tokL x = true := by
    intro x hx
    obtain ⟨h, hh, rfl⟩ := List.mem_map.1 hx
    unfold valE
    split
    · decide
    · exact (hl h hh).1
  have hk : ∀ L : List (List UInt8), (∀ x ∈ L, Lk.tokL x = true) → Lk.keep L = L := by
    intro L
    induction L with
    | nil => intro _; rfl
    | cons x r ih =>
      intro h
      have hx := h x (by simp)
      rw [← List.singleton_append, Lk.keep_append, Lk.keep_one (by rw [tok_trim hx]; exact (tok_all hx).2), tok_trim hx, ih (fun y hy => h y (List.mem_cons_of_mem _ hy))]
  unfold shownH getH
  rw [vals_inter star l hl, Lk.split_join _ (fun x hx b hb => (tok_not_sp ((tok_all (ht x hx)).1 b hb)).2), hk _ ht, List.map_map]
  rfl
theorem sees_own (star cr : Bool) (l : List Hd) (hl : ∀ h ∈ l, OkN h) (hsc : (star && cr) = false) (h : Hd) (hh : h ∈ l) : seesH cr (shownH (inter star l)) (normH h).1 = !hidS (normH h).1 := by
  unfold seesH
  rw [shown_inter star l hl]
  cases star
  · have e : memS (l.map (fun h => Lk.lower (valE false h))) (normH h).1 = true := by
      rw [memS_iff]
      exact List.mem_map.2 ⟨h, hh, rfl⟩
    rw [e]; simp
  · obtain rfl : cr = false := by simpa using hsc
    have e : memS (l.map (fun h => Lk.lower (valE true h))) [42] = true := by
      rw [memS_iff]
      exact List.mem_map.2 ⟨h, hh, by show Lk.lower [42] = [42]; decide⟩
    rw [e]; simp
theorem drop_cons' {α : Type} {l : List α} {k : Nat} {x : α} {r : List α} (h : l.drop k = x :: r) : ∃ hk : k < l.length, l[k] = x ∧ l.drop (k + 1) = r := by
  have hk : k < l.length := by
    rcases Nat.lt_or_ge k l.length with h1 | h1
    · exact h1
    · rw [List.drop_eq_nil_of_le h1] at h; cases h
  rw [List.drop_eq_getElem_cons hk] at h
  injection h with h1 h2
  exact ⟨hk, h1, h2⟩
/-- what is still to be seen: some that ask, then what is read of the rest -/
def Pend (Sn : List Hd) (p : Hd → Bool) (star : Bool) (R : List Hd) (k : Nat) : Prop := ∃ E : List Hd, (∀ e ∈ E, e.1 = expN) ∧ Sn.drop k = E ++ (normL (inter star R)).filter p
theorem pend_start (p : Hd → Bool) (star : Bool) (l : List Hd) : Pend ((normL (inter star l)).filter p) p star l 0 := ⟨[], by simp, rfl⟩
theorem filt_two (p : Hd → Bool) (star : Bool) (h : Hd) (R : List Hd) : (normL (inter star (h :: R))).filter p = (if p (normH h) then [normH h] else []) ++ ((if p (normH (expC, valE star h)) then [normH (expC, valE star h)] else []) ++ (normL (inter star R)).filter p) := by
  have e : normL (inter star (h :: R)) = normH h :: normH (expC, valE star h) :: normL (inter star R) := rfl
  rw [e, List.filter_cons, List.filter_cons]
  cases p (normH h) <;> cases p (normH (expC, valE star h)) <;> rfl
theorem ask_name (p : Hd → Bool) (star : Bool) (h : Hd) : ∀ e ∈ (if p (normH (expC, valE star h)) then [normH (expC, valE star h)] else []), e.1 = expN := by
  intro e he
  split at he
  · simp at he; rw [he]; exact norm_exp _
  · simp at he
theorem pend_hid {Sn : List Hd} {p : Hd → Bool} {star : Bool} {h : Hd} {R : List Hd} {k : Nat} (H : Pend Sn p star (h :: R) k) (hp : p (normH h) = false) : Pend Sn p star R k := by
  obtain ⟨E, h1, h2⟩ := H
  refine ⟨E ++ (if p (normH (expC, valE star h)) then [normH (expC, valE star h)] else []), fun e he => ?_, ?_⟩
  · rcases List.mem_append.1 he with he | he
    · exact h1 e he
    · exact ask_name p star h e he
  · rw [h2, filt_two, hp, List.append_assoc]; rfl
theorem pend_look {Sn : List Hd} {p : Hd → Bool} {star : Bool} {h : Hd} {R : List Hd} {k : Nat} (H : Pend Sn p star (h :: R) k) (hp : p (normH h) = true) :
    ∃ hk : k < Sn.length, (Sn[k].1 = expN ∧ Pend Sn p star (h :: R) (k + 1)) ∨ (Sn[k] = normH h ∧ Pend Sn p star R (k + 1)) := by
  obtain ⟨E, h1, h2⟩ := H
  cases E with
  | nil =>
    rw [List.nil_append, filt_two, hp, if_pos rfl, List.singleton_append] at h2
    obtain ⟨hk, e1, e2⟩ := drop_cons' h2
    exact ⟨hk, .inr ⟨e1, _, ask_name p star h, e2⟩⟩
  | cons e E =>
    rw [List.cons_append] at h2
    obtain ⟨hk, e1, e2⟩ := drop_cons' h2
    exact ⟨hk, .inl ⟨by rw [e1]; exact h1 e (by simp), E, fun x hx => h1 x (List.mem_cons_of_mem _ hx), e2⟩⟩
theorem own_ne {h : Hd} (ho : OkN h) : (normH h).1 ≠ expN := by
  intro e
  have h1 := ho.2
  unfold Lk.foldL at h1
  rw [show Lk.lower h.1 = expN from e, show Lk.lower expN = expN by decide] at h1
  simp at h1
theorem seen_hid (cr : Bool) (l : List Hd) : ∀ h ∈ seenH cr l, hidS h.1 = false := by
  intro h hh
  unfold seenH at hh
  have := (List.mem_filter.1 hh).2
  unfold seesH at this
  cases hs : hidS h.1
  · rfl
  · rw [hs] at this; simp at this
theorem seen_len2 (cr : Bool) (l : List Hd) : (seenH cr l).length ≤ l.length := by
  unfold seenH
  exact Nat.le_trans (List.length_filter_le _ _) (by simp [normL])
theorem inter_sm {star : Bool} {l : List Hd} (hn : l.length ≤ 40) (hs : ∀ h ∈ l, h.1.length ≤ 100 ∧ h.2.length ≤ 5000) : Sm (inter star l) := by
  refine ⟨by rw [inter_len]; omega, fun h hh => ?_⟩
  unfold inter at hh
  obtain ⟨x, hx, hm⟩ := List.mem_flatMap.1 hh
  have := hs x hx
  simp at hm
  rcases hm with rfl | rfl
  · omega
  · refine ⟨by show expC.length ≤ _; decide, ?_⟩
    show (valE star x).length ≤ _
    unfold valE
    split
    · decide
    · omega
end Go.Proofs.Ytpfbkcibpmndoaa
