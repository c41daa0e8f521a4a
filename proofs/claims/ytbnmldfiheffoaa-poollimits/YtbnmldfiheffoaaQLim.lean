/-
  Mathematics of the limits of a pool: what holds of it, besides, when only four hosts are asked for and numbers are not alike. Plain lists and numbers. No conditions beyond those of each statement.
-/
import Derived.Test.YtbnmldfiheffoaaQFour
namespace Go.Proofs.Ytbnmldfiheffoaa

/-- numbers are not alike -/
def Uniq (l : List Cn) : Prop := l.Pairwise (fun a b => a.n ≠ b.n)
theorem Uniq.perm {l m : List Cn} (h : Uniq l) (p : l.Perm m) : Uniq m := (p.pairwise_iff (fun h => h.symm)).1 h
theorem Uniq.at_ {l : List Cn} (h : Uniq l) {i j : Nat} (hi : i < l.length) (hj : j < l.length) (e : l[i].n = l[j].n) : i = j := by
  rcases Nat.lt_trichotomy i j with h1 | h1 | h1
  · exact absurd e (List.pairwise_iff_getElem.1 h i j hi hj h1)
  · exact h1
  · exact absurd e.symm (List.pairwise_iff_getElem.1 h j i hj hi h1)
theorem Uniq.find {l : List Cn} (h : Uniq l) {i : Nat} (hi : i < l.length) : l.findIdx (connB (l[i].n : Int)) = i :=
  first_first hi (by rw [nthC_eq hi]; exact connB_hit _) (fun j hj => by
    rw [nthC_eq (by omega)]
    unfold connB
    refine decide_eq_false (fun e => ?_)
    have := h.at_ (i := j) (j := i) (by omega) hi (by omega)
    omega)
theorem Uniq.gone {l : List Cn} (h : Uniq l) {i : Nat} (hi : i < l.length) : ¬ (l.eraseIdx i).findIdx (connB (l[i].n : Int)) < (l.eraseIdx i).length := by
  intro hh
  have h1 := first_hit hh
  have h2 := nthC_mem hh
  obtain ⟨j, hj, hne, e⟩ := List.mem_eraseIdx_iff_getElem.1 h2
  rw [← e] at h1
  unfold connB at h1
  have h3 := of_decide_eq_true h1
  exact hne (h.at_ hj hi (by omega))
theorem perm_out {l : List Cn} {i : Nat} (hi : i < l.length) : l.Perm (l[i] :: l.eraseIdx i) := by
  rw [List.eraseIdx_eq_take_drop_succ]
  have h1 : (l.take i ++ l[i] :: l.drop (i + 1)).Perm (l[i] :: (l.take i ++ l.drop (i + 1))) := List.perm_middle
  have h2 : l.take i ++ l[i] :: l.drop (i + 1) = l := by rw [← List.drop_eq_getElem_cons hi, List.take_append_drop]
  rw [h2] at h1
  exact h1
theorem give_no {i : Int} {now : Nat} {kp : Bool} {s : Pv} (h : ¬ s.b.findIdx (connB i) < s.b.length) : giveC i s = 11 ∧ giveS i now kp s = s := by
  unfold giveC giveS
  rw [if_neg h, if_neg h]
  exact ⟨rfl, rfl⟩
/-- what holds all through -/
structure LimOk (K m : Nat) (s : Pv) : Prop where
  ok : PvOk s
  t : s.t = K
  last : s.last ≤ m
  uniq : Uniq (s.b ++ s.i)
  six : ∀ k, usedB s.b k ≤ 6
  four : ∀ c ∈ s.b, ∃ q, q < 4 ∧ c.k = kE q
theorem LimOk.start {K : Nat} (h1 : 1 ≤ K) (h2 : K ≤ 32) : LimOk K 0 ⟨K, 5, 0, [], [], []⟩ := ⟨PvOk.new h1 h2 (by omega), rfl, Nat.le_refl _, List.Pairwise.nil, fun _ => Nat.zero_le _, fun c hc => by simp at hc⟩
theorem mid_sub (k : ByteArray) (now : Nat) (s : Pv) : (midP k now s).i.Sublist s.i := by
  have h1 : (shutP (dueB now) s).i.Sublist s.i := List.filter_sublist
  unfold midP useP
  split
  · exact List.Sublist.trans List.filter_sublist h1
  · exact h1
theorem LimOk.take {K m q : Nat} {s : Pv} (h : LimOk K m s) (hq : q < 4) (now : Nat) (hc : canP s (kE q) = true) :
    takeC (kE q) s = 0 ∧ LimOk K (m + 1) (takeS (kE q) now s) ∧ connsL (takeS (kE q) now s).b = connsL s.b ++ [(takeN (kE q) now s : Int)] := by
  have hu : usedB s.b (kE q) < 6 := by unfold canP at hc; simp only [Bool.and_eq_true, decide_eq_true_eq] at hc; exact hc.2
  have hok := h.ok.take (kE q) now
  obtain ⟨e1, e2, e3, e4⟩ := midP_last (kE q) now s
  have hsub := mid_sub (kE q) now s
  have hun : Uniq (s.b ++ (midP (kE q) now s).i) := List.Pairwise.sublist (List.Sublist.append (List.Sublist.refl _) hsub) h.uniq
  refine ⟨by unfold takeC; rw [if_pos hc], ?_, ?_⟩
  · unfold takeS at hok ⊢
    rw [if_pos hc] at hok ⊢
    cases hl : lastO (ckeyB (kE q)) (midP (kE q) now s).i with
    | some j =>
      rw [hl] at hok
      obtain ⟨h1, h2, _⟩ := lastO_is hl
      have hk := ckeyB_iff.1 h2
      refine ⟨hok, e3.trans h.t, by show (midP (kE q) now s).last ≤ _; rw [e1]; have := h.last; omega, ?_, fun k => ?_, fun c hc => ?_⟩
      · show Uniq (((midP (kE q) now s).b ++ [nthC (midP (kE q) now s).i j]) ++ (midP (kE q) now s).i.eraseIdx j)
        rw [e2, nthC_eq h1, List.append_assoc]
        refine hun.perm (List.Perm.append_left _ ?_)
        exact perm_out h1
      · show usedB ((midP (kE q) now s).b ++ [nthC (midP (kE q) now s).i j]) k ≤ 6
        rw [e2, usedB_snoc, hk]
        have := h.six k
        split
        · rename_i e; subst e; omega
        · omega
      · change c ∈ (midP (kE q) now s).b ++ [nthC (midP (kE q) now s).i j] at hc
        rw [e2] at hc
        rcases List.mem_append.1 hc with h3 | h3
        · exact h.four c h3
        · simp at h3; subst h3; exact ⟨q, hq, hk⟩
    | none =>
      rw [hl] at hok
      have hsub2 : (openP (kE q) (midP (kE q) now s)).i.Sublist (midP (kE q) now s).i := by
        unfold openP
        split
        · exact List.drop_sublist _ _
        · exact List.Sublist.refl _
      refine ⟨hok, e3.trans h.t, by show (midP (kE q) now s).last + 1 ≤ _; rw [e1]; have := h.last; omega, ?_, fun k => ?_, fun c hc => ?_⟩
      · show Uniq (((midP (kE q) now s).b ++ [⟨(midP (kE q) now s).last + 1, kE q, 0⟩]) ++ (openP (kE q) (midP (kE q) now s)).i)
        rw [e2, e1]
        have hun2 : Uniq (s.b ++ (openP (kE q) (midP (kE q) now s)).i) := List.Pairwise.sublist (List.Sublist.append (List.Sublist.refl _) hsub2) hun
        have hall : ∀ c ∈ s.b ++ (openP (kE q) (midP (kE q) now s)).i, c.n ≤ s.last := by
          intro c hc
          refine h.ok.nums c ?_
          rcases List.mem_append.1 hc with h3 | h3
          · exact List.mem_append_left _ h3
          · exact List.mem_append_right _ (hsub.subset (hsub2.subset h3))
        have h5 : Uniq (⟨s.last + 1, kE q, 0⟩ :: (s.b ++ (openP (kE q) (midP (kE q) now s)).i)) := List.Pairwise.cons (fun c hc => by have := hall c hc; show s.last + 1 ≠ c.n; omega) hun2
        refine h5.perm ?_
        rw [List.append_assoc]
        exact (List.perm_middle (a := (⟨s.last + 1, kE q, 0⟩ : Cn)) (l₁ := s.b) (l₂ := (openP (kE q) (midP (kE q) now s)).i)).symm
      · show usedB ((midP (kE q) now s).b ++ [⟨(midP (kE q) now s).last + 1, kE q, 0⟩]) k ≤ 6
        rw [e2, usedB_snoc]
        have := h.six k
        show usedB s.b k + (if kE q = k then 1 else 0) ≤ 6
        split
        · rename_i e; subst e; omega
        · omega
      · change c ∈ (midP (kE q) now s).b ++ [⟨(midP (kE q) now s).last + 1, kE q, 0⟩] at hc
        rw [e2] at hc
        rcases List.mem_append.1 hc with h3 | h3
        · exact h.four c h3
        · simp at h3; subst h3; exact ⟨q, hq, rfl⟩
  · unfold takeS takeN
    rw [if_pos hc, if_pos hc]
    cases hl : lastO (ckeyB (kE q)) (midP (kE q) now s).i with
    | some j =>
      show connsL ((midP (kE q) now s).b ++ [nthC (midP (kE q) now s).i j]) = _
      rw [e2]; simp [connsL]
    | none =>
      show connsL ((midP (kE q) now s).b ++ [⟨(midP (kE q) now s).last + 1, kE q, 0⟩]) = _
      rw [e2, e1]; simp [connsL]
theorem take_no {k : ByteArray} {now : Nat} {s : Pv} (hc : canP s k = false) : takeC k s = 10 ∧ takeS k now s = s ∧ takeN k now s = 0 ∧ takeF k now s = false := by
  unfold takeC takeS takeN takeF
  rw [hc]
  exact ⟨rfl, rfl, rfl, rfl⟩
theorem LimOk.give {K m n : Nat} {s : Pv} (h : LimOk K m s) (hn : n < s.b.length) (now : Nat) (kp : Bool) :
    giveC (s.b[n].n : Int) s = 0 ∧ LimOk K m (giveS (s.b[n].n : Int) now kp s) ∧ (giveS (s.b[n].n : Int) now kp s).b = s.b.eraseIdx n ∧
    ∀ now2 kp2, giveC (s.b[n].n : Int) (giveS (s.b[n].n : Int) now kp s) = 11 ∧ giveS (s.b[n].n : Int) now2 kp2 (giveS (s.b[n].n : Int) now kp s) = giveS (s.b[n].n : Int) now kp s := by
  have hub : Uniq s.b := List.Pairwise.sublist (List.sublist_append_left _ _) h.uniq
  have hf := hub.find hn
  have hg := hub.gone hn
  have hb : (giveS (s.b[n].n : Int) now kp s).b = s.b.eraseIdx n := by
    unfold giveS
    rw [hf, if_pos hn]
  have hi : (giveS (s.b[n].n : Int) now kp s).i = if kp = true ∧ s.keep ≠ 0 then s.i ++ [{ s.b[n] with u := sumT now s.keep }] else s.i := by
    unfold giveS
    rw [hf, if_pos hn, nthC_eq hn]
  have htl : (giveS (s.b[n].n : Int) now kp s).t = s.t ∧ (giveS (s.b[n].n : Int) now kp s).last = s.last := by
    unfold giveS
    rw [hf, if_pos hn]
    exact ⟨rfl, rfl⟩
  have hsix : ∀ k, usedB (s.b.eraseIdx n) k ≤ 6 := fun k => by have h1 := usedB_erase hn k; have h2 := h.six k; omega
  refine ⟨by unfold giveC; rw [hf, if_pos hn], ⟨h.ok.give _ now kp, by rw [htl.1]; exact h.t, by rw [htl.2]; exact h.last, ?_, by rw [hb]; exact hsix, ?_⟩, hb, fun now2 kp2 => give_no (by rw [hb]; exact hg)⟩
  · rw [hb, hi]
    have p1 : (s.b ++ s.i).Perm (s.b.eraseIdx n ++ (s.i ++ [s.b[n]])) := by
      have p2 := perm_out hn
      refine (List.Perm.append_right s.i p2).trans ?_
      rw [← List.append_assoc]
      exact (List.perm_append_singleton s.b[n] (s.b.eraseIdx n ++ s.i)).symm
    have h1 := h.uniq.perm p1
    split
    · unfold Uniq at h1 ⊢
      rw [← List.append_assoc, List.pairwise_append] at h1 ⊢
      refine ⟨h1.1, List.pairwise_singleton _ _, fun a ha b hb => ?_⟩
      simp at hb
      subst hb
      exact h1.2.2 a ha s.b[n] (by simp)
    · rw [← List.append_assoc] at h1
      exact List.Pairwise.sublist (List.sublist_append_left _ _) h1
  · rw [hb]
    exact fun c hc => h.four c (List.mem_of_mem_eraseIdx hc)
theorem LimOk.more {K m m' : Nat} {s : Pv} (h : LimOk K m s) (hm : m ≤ m') : LimOk K m' s := ⟨h.ok, h.t, Nat.le_trans h.last hm, h.uniq, h.six, h.four⟩
theorem four_sum : ∀ {b : List Cn}, (∀ c ∈ b, ∃ q, q < 4 ∧ c.k = kE q) → usedB b (kE 0) + usedB b (kE 1) + usedB b (kE 2) + usedB b (kE 3) = b.length
  | [], _ => rfl
  | x :: r, h => by
    have h1 := four_sum (b := r) (fun c hc => h c (List.mem_cons_of_mem _ hc))
    obtain ⟨q, hq, e⟩ := h x (by simp)
    have h2 : ∀ p, p < 4 → usedB (x :: r) (kE p) = usedB r (kE p) + (if p = q then 1 else 0) := by
      intro p hp
      unfold usedB
      by_cases e2 : p = q
      · rw [if_pos e2, List.filter_cons_of_pos (ckeyB_iff.2 (by rw [e2]; exact e)), List.length_cons]
      · rw [if_neg e2, List.filter_cons_of_neg (by rw [ckeyB_no.2 (fun e3 => e2 (kE_inj hp hq (e3.symm.trans e)))]; simp)]
        rfl
    rw [h2 0 (by omega), h2 1 (by omega), h2 2 (by omega), h2 3 (by omega), List.length_cons]
    rcases (by omega : q = 0 ∨ q = 1 ∨ q = 2 ∨ q = 3) with rfl | rfl | rfl | rfl <;> simp <;> omega
theorem connsL_erase (l : List Cn) (n : Nat) : connsL (l.eraseIdx n) = (connsL l).take n ++ (connsL l).drop (n + 1) := by
  unfold connsL
  rw [List.eraseIdx_eq_take_drop_succ, List.map_append, List.map_take, List.map_drop]
end Go.Proofs.Ytbnmldfiheffoaa
