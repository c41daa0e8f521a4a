/-
  Mathematics of a pool: what holds of it at any time stays so through each call; what Use makes of it is what the document says. Plain lists and numbers. No conditions beyond those of each statement.
-/
import Derived.Test.YtbnmldfiheffoaaQOpen
namespace Go.Proofs.Ytbnmldfiheffoaa

section
variable {l : List Ho} {k k' : ByteArray}
theorem has_iff : hasC l k = true ↔ ∃ x ∈ l, x.1 = k := by
  unfold hasC
  rw [decide_eq_true_iff]
  constructor
  · intro h
    exact ⟨_, nthH_mem h, keyB_iff.1 (place_hit h)⟩
  · rintro ⟨x, hx, e⟩
    rw [List.findIdx_lt_length]
    exact ⟨x, hx, keyB_iff.2 e⟩
theorem has_no : hasC l k = false ↔ ∀ x ∈ l, x.1 ≠ k := by
  rw [← Bool.not_eq_true, has_iff]
  exact ⟨fun h x hx e => h ⟨x, hx, e⟩, fun h ⟨x, hx, e⟩ => h x hx e⟩
theorem used_none (h : ∀ x ∈ l, x.1 ≠ k) : usedC l k = 0 := by
  unfold usedC
  rw [if_neg]
  rw [place_none (fun x hx => keyB_no.2 (h x hx))]
  omega
theorem once_at {i j : Nat} (h : KeysOnce l) (hi : i < l.length) (hj : j < l.length) (e : l[i].1 = l[j].1) : i = j := by
  rcases Nat.lt_trichotomy i j with h1 | h1 | h1
  · exact absurd e (List.pairwise_iff_getElem.1 h i j hi hj h1)
  · exact h1
  · exact absurd e.symm (List.pairwise_iff_getElem.1 h j i hj hi h1)
theorem place_of {i : Nat} (h : KeysOnce l) (hi : i < l.length) : l.findIdx (keyB l[i].1) = i :=
  place_first hi (by rw [nthH_eq hi]; exact keyB_iff.2 rfl) (fun j hj => by
    rw [nthH_eq (by omega)]
    exact keyB_no.2 (fun e => by have := once_at h (by omega) hi e; omega))
theorem used_of {x : Ho} (h : KeysOnce l) (hx : x ∈ l) : usedC l x.1 = x.2 := by
  obtain ⟨i, hi, rfl⟩ := List.getElem_of_mem hx
  unfold usedC
  rw [place_of h hi, if_pos hi, nthH_eq hi]
theorem mem_erase {i : Nat} (h : KeysOnce l) (hi : i < l.length) {x : Ho} : x ∈ l.eraseIdx i ↔ x ∈ l ∧ x.1 ≠ l[i].1 := by
  rw [List.mem_eraseIdx_iff_getElem]
  constructor
  · rintro ⟨j, hj, hne, rfl⟩
    exact ⟨List.getElem_mem _, fun e => hne (once_at h hj hi e)⟩
  · rintro ⟨hx, hne⟩
    obtain ⟨j, hj, rfl⟩ := List.getElem_of_mem hx
    exact ⟨j, hj, fun e => hne (by subst e; rfl), rfl⟩
theorem KeysOnce.erase (h : KeysOnce l) (i : Nat) : KeysOnce (l.eraseIdx i) := List.Pairwise.sublist (List.eraseIdx_sublist l i) h
theorem KeysOnce.snoc (h : KeysOnce l) {n : Nat} (hk : ∀ x ∈ l, x.1 ≠ k) : KeysOnce (l ++ [(k, n)]) := by
  unfold KeysOnce
  rw [List.pairwise_append]
  refine ⟨h, List.pairwise_singleton _ _, fun a ha b hb => ?_⟩
  simp at hb
  subst hb
  exact hk a ha
end
theorem usedB_le (l : List Cn) (k : ByteArray) : usedB l k ≤ l.length := List.length_filter_le _ _
theorem usedB_pos {l : List Cn} {k : ByteArray} : 0 < usedB l k ↔ ∃ c ∈ l, c.k = k := by
  unfold usedB
  rw [List.length_pos_iff_exists_mem]
  constructor
  · rintro ⟨c, hc⟩; rw [List.mem_filter] at hc; exact ⟨c, hc.1, ckeyB_iff.1 hc.2⟩
  · rintro ⟨c, hc, e⟩; exact ⟨c, List.mem_filter.2 ⟨hc, ckeyB_iff.2 e⟩⟩
theorem usedB_snoc (l : List Cn) (c : Cn) (k : ByteArray) : usedB (l ++ [c]) k = usedB l k + (if c.k = k then 1 else 0) := by
  unfold usedB
  rw [List.filter_append, List.length_append]
  by_cases h : c.k = k
  · rw [if_pos h]; simp [ckeyB_iff.2 h]
  · rw [if_neg h]; simp [ckeyB_no.2 h]
theorem usedB_erase {l : List Cn} {i : Nat} (hi : i < l.length) (k : ByteArray) : usedB l k = usedB (l.eraseIdx i) k + (if l[i].k = k then 1 else 0) := by
  unfold usedB
  rw [List.eraseIdx_eq_take_drop_succ]
  have h0 : l = l.take i ++ l[i] :: l.drop (i + 1) := by rw [← List.drop_eq_getElem_cons hi, List.take_append_drop]
  have h1 : (l.filter (ckeyB k)).length = ((l.take i).filter (ckeyB k)).length + ((l[i] :: l.drop (i + 1)).filter (ckeyB k)).length := by
    conv => lhs; rw [h0]
    rw [List.filter_append, List.length_append]
  rw [h1, List.filter_append, List.length_append]
  by_cases h : l[i].k = k
  · rw [if_pos h, List.filter_cons_of_pos (ckeyB_iff.2 h), List.length_cons]; omega
  · rw [if_neg h, List.filter_cons_of_neg (by rw [ckeyB_no.2 h]; simp)]; omega
/-- so many hosts with other keys, each of a connection: there are as many connections -/
theorem keys_fit : ∀ {l : List Ho} {b : List Cn}, KeysOnce l → (∀ x ∈ l, ∃ c ∈ b, c.k = x.1) → l.length ≤ b.length
  | [], b, _, _ => by simp
  | x :: l, b, h, hb => by
    obtain ⟨c, hc, e⟩ := hb x (by simp)
    obtain ⟨h1, h2⟩ := List.pairwise_cons.1 h
    obtain ⟨i, hi, rfl⟩ := List.getElem_of_mem hc
    have h3 := keys_fit (l := l) (b := b.eraseIdx i) h2 (fun y hy => by
      obtain ⟨c, hc, e2⟩ := hb y (by simp [hy])
      refine ⟨c, ?_, e2⟩
      obtain ⟨j, hj, rfl⟩ := List.getElem_of_mem hc
      exact List.mem_eraseIdx_iff_getElem.2 ⟨j, hj, fun e3 => h1 y hy (by subst e3; exact e.symm.trans e2), rfl⟩)
    rw [List.length_eraseIdx, if_pos hi] at h3
    rw [List.length_cons]
    omega

/-- how a use comes about -/
inductive UseWay (l : List Ho) (k : ByteArray) : Prop
  | old (i : Nat) (hi : i < l.length) (hk : l[i].1 = k) (h6 : l[i].2 < 6) (hs : useS 32 l k = l.eraseIdx i ++ [(k, l[i].2 + 1)]) (hg : useG 32 l k = ⟨#[]⟩)
  | new (hk : ∀ x ∈ l, x.1 ≠ k) (hl : l.length < 32) (hs : useS 32 l k = l ++ [(k, 1)]) (hg : useG 32 l k = ⟨#[]⟩)
  | room (hk : ∀ x ∈ l, x.1 ≠ k) (hl : 32 ≤ l.length) (i : Nat) (hi : i < l.length) (h0 : l[i].2 = 0) (hs : useS 32 l k = l.eraseIdx i ++ [(k, 1)]) (hg : useG 32 l k = l[i].1)
theorem use_way {s : Pv} {k : ByteArray} (ok : PvOk s) (hc : canP s k = true) : UseWay s.h k := by
  unfold canP at hc
  simp only [Bool.and_eq_true, decide_eq_true_eq] at hc
  obtain ⟨hb, hu⟩ := hc
  by_cases h1 : s.h.findIdx (keyB k) < s.h.length
  · have hk : s.h[s.h.findIdx (keyB k)].1 = k := by have := keyB_iff.1 (place_hit h1); rwa [nthH_eq h1] at this
    have h6 : s.h[s.h.findIdx (keyB k)].2 < 6 := by
      have h2 := used_of ok.once (List.getElem_mem h1)
      rw [hk, ok.used k] at h2
      omega
    refine .old _ h1 hk h6 ?_ ?_
    · unfold useS; rw [if_pos h1, nthH_eq h1, if_neg (by omega)]
    · unfold useG; rw [if_pos h1]
  · have hk : ∀ x ∈ s.h, x.1 ≠ k := fun x hx => keyB_no.1 (place_miss h1 x hx)
    by_cases h2 : s.h.length < 32
    · refine .new hk h2 ?_ ?_
      · unfold useS; rw [if_neg h1, if_pos h2]
      · unfold useG; rw [if_neg h1, if_pos h2]
    · have h3 : s.h.findIdx idleB < s.h.length := by
        rcases Nat.lt_or_ge (s.h.findIdx idleB) s.h.length with h3 | h3
        · exact h3
        · exfalso
          have h4 := place_miss (p := idleB) (l := s.h) (by omega)
          have h5 := keys_fit (l := s.h) (b := s.b) ok.once (fun x hx => by
            have h6 := used_of ok.once hx
            rw [ok.used] at h6
            refine usedB_pos.1 ?_
            have h7 := h4 x hx
            unfold idleB at h7
            simp at h7
            omega)
          have := ok.t2
          omega
      have h0 : s.h[s.h.findIdx idleB].2 = 0 := by
        have := place_hit h3
        rw [nthH_eq h3] at this
        exact of_decide_eq_true this
      refine .room hk (by omega) _ h3 h0 ?_ ?_
      · unfold useS; rw [if_neg h1, if_neg h2, if_pos h3]
      · unfold useG; rw [if_neg h1, if_neg h2, if_pos h3, nthH_eq h3]
theorem UseWay.once {l : List Ho} {k : ByteArray} (h : KeysOnce l) (w : UseWay l k) : KeysOnce (useS 32 l k) := by
  cases w with
  | old i hi hk h6 hs hg =>
    rw [hs]
    exact (h.erase i).snoc (fun x hx => by rw [mem_erase h hi] at hx; rw [← hk]; exact hx.2)
  | new hk hl hs hg => rw [hs]; exact h.snoc hk
  | room hk hl i hi h0 hs hg =>
    rw [hs]
    exact (h.erase i).snoc (fun x hx => by rw [mem_erase h hi] at hx; exact hk x hx.1)
theorem UseWay.used {l : List Ho} {k : ByteArray} (h : KeysOnce l) (w : UseWay l k) (q : ByteArray) : usedC (useS 32 l k) q = usedC l q + (if k = q then 1 else 0) := by
  have ho := w.once h
  by_cases hq : k = q
  · subst hq
    rw [if_pos rfl]
    cases w with
    | old i hi hk h6 hs hg =>
      have h1 := used_of h (List.getElem_mem hi)
      have h2 := used_of ho (x := (k, l[i].2 + 1)) (by rw [hs]; simp)
      rw [hk] at h1
      simp only at h2
      omega
    | new hk hl hs hg =>
      have h1 := used_none hk
      have h2 := used_of ho (x := (k, 1)) (by rw [hs]; simp)
      simp only at h2
      omega
    | room hk hl i hi h0 hs hg =>
      have h1 := used_none hk
      have h2 := used_of ho (x := (k, 1)) (by rw [hs]; simp)
      simp only at h2
      omega
  · rw [if_neg hq, Nat.add_zero]
    by_cases hh : ∃ x ∈ l, x.1 = q
    · obtain ⟨x, hx, rfl⟩ := hh
      rw [used_of h hx]
      cases w with
      | old i hi hk h6 hs hg =>
        refine used_of ho ?_
        rw [hs]
        exact List.mem_append_left _ ((mem_erase h hi).2 ⟨hx, fun e => hq (by rw [← hk]; exact e.symm)⟩)
      | new hk hl hs hg =>
        refine used_of ho ?_
        rw [hs]
        exact List.mem_append_left _ hx
      | room hk hl i hi h0 hs hg =>
        by_cases e : x.1 = l[i].1
        · obtain ⟨j, hj, rfl⟩ := List.getElem_of_mem hx
          obtain rfl := once_at h hj hi e
          rw [h0]
          refine used_none (fun y hy => ?_)
          rw [hs] at hy
          rcases List.mem_append.1 hy with h1 | h1
          · exact ((mem_erase h hi).1 h1).2
          · simp at h1; subst h1; exact hq
        · refine used_of ho ?_
          rw [hs]
          exact List.mem_append_left _ ((mem_erase h hi).2 ⟨hx, e⟩)
    · have h1 : ∀ x ∈ l, x.1 ≠ q := fun x hx e => hh ⟨x, hx, e⟩
      rw [used_none h1]
      refine used_none (fun y hy => ?_)
      cases w with
      | old i hi hk h6 hs hg =>
        rw [hs] at hy
        rcases List.mem_append.1 hy with h2 | h2
        · exact h1 y ((mem_erase h hi).1 h2).1
        · simp at h2; subst h2; exact hq
      | new hk hl hs hg =>
        rw [hs] at hy
        rcases List.mem_append.1 hy with h2 | h2
        · exact h1 y h2
        · simp at h2; subst h2; exact hq
      | room hk hl i hi h0 hs hg =>
        rw [hs] at hy
        rcases List.mem_append.1 hy with h2 | h2
        · exact h1 y ((mem_erase h hi).1 h2).1
        · simp at h2; subst h2; exact hq
/-- what Use makes of the pool is what the document says -/
theorem useQ_eq {s : Pv} {k : ByteArray} (ok : PvOk s) (hc : canP s k = true) : useQ k s = useP k s := by
  have w := use_way ok hc
  unfold useQ useP
  have keep : (∀ x ∈ s.h, ∃ y ∈ useS 32 s.h k, y.1 = x.1) → useG 32 s.h k = ⟨#[]⟩ → (if hasC (useS 32 s.h k) (useG 32 s.h k) = false then { shutP (ckeyB (useG 32 s.h k)) s with h := useS 32 s.h k } else { s with h := useS 32 s.h k }) = ({ s with h := useS 32 s.h k } : Pv) := by
    intro hk hg
    rw [hg]
    split
    · rename_i hn
      have h1 : s.i.filter (fun c => !ckeyB ⟨#[]⟩ c) = s.i := by
        refine List.filter_eq_self.2 (fun c hc => ?_)
        obtain ⟨x, hx, e⟩ := has_iff.1 (ok.idle c hc)
        obtain ⟨y, hy, e2⟩ := hk x hx
        have h3 := has_no.1 hn y hy
        rw [ckeyB_no.2 (fun e3 => h3 (e2.trans (e.trans e3)))]
        rfl
      unfold shutP
      rw [h1]
    · rfl
  cases w with
  | old i hi hk h6 hs hg =>
    have hh : hasC s.h k = true := has_iff.2 ⟨s.h[i], List.getElem_mem hi, hk⟩
    refine (keep (fun x hx => ?_) hg).trans (if_neg (fun h => by rw [hh] at h; cases h.1)).symm
    rw [hs]
    by_cases e : x.1 = s.h[i].1
    · exact ⟨(k, s.h[i].2 + 1), by simp, by rw [e]; exact hk.symm⟩
    · exact ⟨x, List.mem_append_left _ ((mem_erase ok.once hi).2 ⟨hx, e⟩), rfl⟩
  | new hk hl hs hg =>
    refine (keep (fun x hx => ?_) hg).trans (if_neg (fun h => by omega)).symm
    rw [hs]
    exact ⟨x, List.mem_append_left _ hx, rfl⟩
  | room hk hl i hi h0 hs hg =>
    have h1 : hasC (useS 32 s.h k) (useG 32 s.h k) = false := by
      rw [has_no, hs, hg]
      intro y hy
      rcases List.mem_append.1 hy with h2 | h2
      · exact ((mem_erase ok.once hi).1 h2).2
      · simp at h2; subst h2; exact fun e => hk _ (List.getElem_mem hi) e.symm
    rw [if_pos h1, if_pos ⟨has_no.2 hk, hl⟩]
theorem PvOk.shut {s : Pv} (ok : PvOk s) (p : Cn → Bool) : PvOk (shutP p s) := by
  have h1 := List.length_filter_le (fun c => !p c) s.i
  exact ⟨ok.hosts, ok.once, ok.t1, ok.t2, by have := ok.len; show s.b.length + (s.i.filter _).length ≤ s.t; omega, ok.used, fun c hc => ok.idle c (List.mem_filter.1 hc).1, ok.keep,
    fun c hc => ok.times c (by rcases List.mem_append.1 hc with h | h; exact List.mem_append_left _ h; exact List.mem_append_right _ (List.mem_filter.1 h).1),
    fun c hc => ok.nums c (by rcases List.mem_append.1 hc with h | h; exact List.mem_append_left _ h; exact List.mem_append_right _ (List.mem_filter.1 h).1)⟩
/-- behind Use: the host has a use more than connections -/
structure MidOk (k : ByteArray) (s : Pv) : Prop where
  hosts : HoOk 32 s.h
  once : KeysOnce s.h
  t1 : 1 ≤ s.t
  t2 : s.t ≤ 32
  lt : s.b.length < s.t
  len : s.b.length + s.i.length ≤ s.t
  used : ∀ q, usedC s.h q = usedB s.b q + (if k = q then 1 else 0)
  idle : ∀ c ∈ s.i, hasC s.h c.k = true
  keep : s.keep < 18446744073709551616
  times : ∀ c ∈ s.b ++ s.i, c.u < 18446744073709551616
  nums : ∀ c ∈ s.b ++ s.i, c.n ≤ s.last
theorem PvOk.use {s : Pv} {k : ByteArray} (ok : PvOk s) (hc : canP s k = true) : MidOk k (useP k s) := by
  have w := use_way ok hc
  have hb : s.b.length < s.t := by unfold canP at hc; simp only [Bool.and_eq_true, decide_eq_true_eq] at hc; exact hc.1
  obtain ⟨e1, e2, e3, e4⟩ := useP_last k s
  have hh : (useP k s).h = useS 32 s.h k := by unfold useP; split <;> rfl
  have hi : ∀ c ∈ (useP k s).i, c ∈ s.i ∧ ((hasC s.h k = false ∧ 32 ≤ s.h.length) → c.k ≠ useG 32 s.h k) := by
    intro c hc
    unfold useP at hc
    by_cases h1 : hasC s.h k = false ∧ 32 ≤ s.h.length
    · rw [if_pos h1] at hc
      simp only [shutP] at hc
      obtain ⟨h2, h3⟩ := List.mem_filter.1 hc
      refine ⟨h2, fun _ => ckeyB_no.1 ?_⟩
      simpa using h3
    · rw [if_neg h1] at hc
      exact ⟨hc, fun h => absurd h h1⟩
  have hil : (useP k s).i.length ≤ s.i.length := by
    unfold useP
    split
    · exact List.length_filter_le _ _
    · exact Nat.le_refl _
  refine ⟨by rw [hh]; exact ok.hosts.use k, by rw [hh]; exact w.once ok.once, by rw [e3]; exact ok.t1, by rw [e3]; exact ok.t2, by rw [e2, e3]; exact hb, by rw [e2, e3]; have := ok.len; omega, fun q => by rw [hh, e2, w.used ok.once q, ok.used], fun c hc => ?_, by rw [e4]; exact ok.keep, fun c hc => ?_, fun c hc => ?_⟩
  · obtain ⟨h1, h2⟩ := hi c hc
    rw [hh, has_iff]
    obtain ⟨x, hx, e⟩ := has_iff.1 (ok.idle c h1)
    cases w with
    | old i hi hk h6 hs hg =>
      rw [hs]
      by_cases e5 : x.1 = s.h[i].1
      · exact ⟨(k, s.h[i].2 + 1), by simp, by rw [← e, e5]; exact hk.symm⟩
      · exact ⟨x, List.mem_append_left _ ((mem_erase ok.once hi).2 ⟨hx, e5⟩), e⟩
    | new hk hl hs hg => rw [hs]; exact ⟨x, List.mem_append_left _ hx, e⟩
    | room hk hl i hi h0 hs hg =>
      rw [hs]
      have h3 := h2 ⟨has_no.2 hk, hl⟩
      rw [hg] at h3
      exact ⟨x, List.mem_append_left _ ((mem_erase ok.once hi).2 ⟨hx, fun e5 => h3 (by rw [← e, e5])⟩), e⟩
  · rw [e2] at hc
    rcases List.mem_append.1 hc with h | h
    · exact ok.times c (List.mem_append_left _ h)
    · exact ok.times c (List.mem_append_right _ (hi c h).1)
  · rw [e2] at hc
    rw [e1]
    rcases List.mem_append.1 hc with h | h
    · exact ok.nums c (List.mem_append_left _ h)
    · exact ok.nums c (List.mem_append_right _ (hi c h).1)
theorem MidOk.open_ {s : Pv} {k : ByteArray} (ok : MidOk k s) : PvOk (openP k s) := by
  have h1 : (openP k s).i.length + s.b.length + 1 ≤ s.t ∧ ∀ c ∈ (openP k s).i, c ∈ s.i := by
    have := ok.len; have := ok.lt
    unfold openP
    split
    · exact ⟨by simp; omega, fun c hc => List.mem_of_mem_drop hc⟩
    · exact ⟨by simp; omega, fun c hc => hc⟩
  refine ⟨ok.hosts, ok.once, ok.t1, ok.t2, ?_, fun q => ?_, fun c hc => ok.idle c (h1.2 c hc), ok.keep, fun c hc => ?_, fun c hc => ?_⟩
  · have := h1.1
    show (s.b ++ [_]).length + (openP k s).i.length ≤ s.t
    rw [List.length_append]; simp; omega
  · show usedC s.h q = usedB (s.b ++ [_]) q
    rw [usedB_snoc, ok.used]
  · rcases List.mem_append.1 hc with h | h
    · rcases List.mem_append.1 h with h | h
      · exact ok.times c (List.mem_append_left _ h)
      · simp at h; subst h; show (0 : Nat) < _; omega
    · exact ok.times c (List.mem_append_right _ (h1.2 c h))
  · show c.n ≤ s.last + 1
    rcases List.mem_append.1 hc with h | h
    · rcases List.mem_append.1 h with h | h
      · have := ok.nums c (List.mem_append_left _ h); omega
      · simp at h; subst h; show s.last + 1 ≤ s.last + 1; omega
    · have := ok.nums c (List.mem_append_right _ (h1.2 c h)); omega
theorem MidOk.again {s : Pv} {k : ByteArray} {j : Nat} (ok : MidOk k s) (hj : j < s.i.length) (hk : (nthC s.i j).k = k) : PvOk (againP j s) := by
  have hm : ∀ c ∈ (againP j s).b ++ (againP j s).i, c ∈ s.b ++ s.i := by
    intro c hc
    rcases List.mem_append.1 hc with h | h
    · rcases List.mem_append.1 h with h | h
      · exact List.mem_append_left _ h
      · simp at h; subst h; exact List.mem_append_right _ (nthC_mem hj)
    · exact List.mem_append_right _ (List.mem_of_mem_eraseIdx h)
  refine ⟨ok.hosts, ok.once, ok.t1, ok.t2, ?_, fun q => ?_, fun c hc => ok.idle c (List.mem_of_mem_eraseIdx hc), ok.keep, fun c hc => ok.times c (hm c hc), fun c hc => ok.nums c (hm c hc)⟩
  · show (s.b ++ [_]).length + (s.i.eraseIdx j).length ≤ s.t
    rw [List.length_append, List.length_eraseIdx, if_pos hj]
    have := ok.len
    simp; omega
  · show usedC s.h q = usedB (s.b ++ [_]) q
    rw [usedB_snoc, ok.used, hk]
theorem can_shut {s : Pv} {k : ByteArray} (p : Cn → Bool) : canP (shutP p s) k = canP s k := rfl
theorem PvOk.take {s : Pv} (ok : PvOk s) (k : ByteArray) (now : Nat) : PvOk (takeS k now s) := by
  unfold takeS
  by_cases hc : canP s k = true
  · rw [if_pos hc]
    have hm : MidOk k (midP k now s) := (ok.shut (dueB now)).use hc
    split
    · rename_i j hj
      obtain ⟨h1, h2, _⟩ := lastO_is hj
      exact hm.again h1 (ckeyB_iff.1 h2)
    · exact hm.open_
  · rw [if_neg hc]; exact ok
theorem PvOk.give {s : Pv} (ok : PvOk s) (i : Int) (now : Nat) (kp : Bool) : PvOk (giveS i now kp s) := by
  unfold giveS
  by_cases h1 : s.b.findIdx (connB i) < s.b.length
  · rw [if_pos h1]
    obtain ⟨p, hp⟩ : ∃ p, p = s.b.findIdx (connB i) := ⟨_, rfl⟩
    rw [← hp] at h1 ⊢
    clear hp
    have hy : (nthC s.b p) = s.b[p] := nthC_eq h1
    have hmem : s.b[p] ∈ s.b := List.getElem_mem h1
    have hpos : 0 < usedC s.h s.b[p].k := by rw [ok.used]; exact usedB_pos.2 ⟨_, hmem, rfl⟩
    have hhas : ∃ x ∈ s.h, x.1 = s.b[p].k := by
      rcases Classical.em (∃ x ∈ s.h, x.1 = s.b[p].k) with h | h
      · exact h
      · rw [used_none (fun x hx e => h ⟨x, hx, e⟩)] at hpos; omega
    obtain ⟨x, hx, e⟩ := hhas
    obtain ⟨q, hq, rfl⟩ := List.getElem_of_mem hx
    have hu : s.h[q].2 = usedC s.h s.b[p].k := by rw [← e, used_of ok.once hx]
    have hf : freeS s.h s.b[p].k = s.h.set q (s.b[p].k, s.h[q].2 - 1) := by
      unfold freeS
      rw [← e, place_of ok.once hq, if_pos hq, nthH_eq hq, if_neg (by omega)]
    have hkeys : ∀ (z : Ho), z ∈ freeS s.h s.b[p].k → ∃ y ∈ s.h, y.1 = z.1 := by
      intro z hz
      rw [hf] at hz
      rcases List.mem_or_eq_of_mem_set hz with h | h
      · exact ⟨z, h, rfl⟩
      · subst h; exact ⟨s.h[q], hx, e⟩
    have hkeys2 : ∀ y ∈ s.h, ∃ z ∈ freeS s.h s.b[p].k, z.1 = y.1 := by
      intro y hy
      rw [hf]
      obtain ⟨r, hr, rfl⟩ := List.getElem_of_mem hy
      refine ⟨(s.h.set q (s.b[p].k, s.h[q].2 - 1))[r]'(by rw [List.length_set]; exact hr), List.getElem_mem _, ?_⟩
      rw [List.getElem_set]
      split
      · rename_i h; subst h; exact e.symm
      · rfl
    have honce : KeysOnce (freeS s.h s.b[p].k) := by
      unfold KeysOnce
      rw [hf, List.pairwise_iff_getElem]
      intro a b ha hb hab
      rw [List.length_set] at ha hb
      have hne := List.pairwise_iff_getElem.1 ok.once a b ha hb hab
      rw [List.getElem_set, List.getElem_set]
      split
      · rename_i h; subst h
        rw [if_neg (by omega)]
        exact fun e4 => hne (e.trans e4)
      · split
        · rename_i h; subst h
          exact fun e4 => hne (e4.trans e.symm)
        · exact hne
    have hused : ∀ r, usedC (freeS s.h s.b[p].k) r = usedB (s.b.eraseIdx p) r := by
      intro r
      have h2 := usedB_erase h1 r
      have h3 := ok.used r
      by_cases hr : s.b[p].k = r
      · rw [if_pos hr] at h2
        have h4 := used_of honce (x := (s.b[p].k, s.h[q].2 - 1)) (by rw [hf]; exact List.mem_set hq _)
        simp only at h4
        rw [hr] at h4 hu
        rw [hr, h4, hu]
        omega
      · rw [if_neg hr] at h2
        rcases Classical.em (∃ y ∈ s.h, y.1 = r) with h | h
        · obtain ⟨y, hy, e2⟩ := h
          have h5 : y ∈ freeS s.h s.b[p].k := by
            rw [hf]
            obtain ⟨m, hm, rfl⟩ := List.getElem_of_mem hy
            have hne : q ≠ m := fun e3 => hr (by subst e3; rw [← e, e2])
            have : (s.h.set q (s.b[p].k, s.h[q].2 - 1))[m]'(by rw [List.length_set]; exact hm) = s.h[m] := by rw [List.getElem_set, if_neg hne]
            rw [← this]
            exact List.getElem_mem _
          have h6 := used_of honce h5
          have h7 := used_of ok.once hy
          rw [e2] at h6 h7
          omega
        · rw [used_none (fun y hy e2 => h ⟨y, hy, e2⟩)] at h3
          rw [used_none (fun y hy e2 => by obtain ⟨z, hz, e3⟩ := hkeys y hy; exact h ⟨z, hz, e3.trans e2⟩)]
          omega
    have hb : ∀ c ∈ s.b.eraseIdx p, c ∈ s.b := fun c hc => List.mem_of_mem_eraseIdx hc
    have hlen : (s.b.eraseIdx p).length + 1 = s.b.length := by rw [List.length_eraseIdx, if_pos h1]; omega
    rw [hy]
    have hsum : sumT now s.keep < 18446744073709551616 := by unfold sumT; split <;> omega
    refine ⟨ok.hosts.free _, honce, ok.t1, ok.t2, ?_, hused, fun c hc => ?_, ok.keep, fun c hc => ?_, fun c hc => ?_⟩
    · have := ok.len
      show (s.b.eraseIdx p).length + (if kp = true ∧ s.keep ≠ 0 then s.i ++ [_] else s.i).length ≤ s.t
      split
      · rw [List.length_append]; simp; omega
      · omega
    · rw [has_iff]
      have h2 : ∃ y ∈ s.h, y.1 = c.k := by
        change c ∈ (if kp = true ∧ s.keep ≠ 0 then s.i ++ [_] else s.i) at hc
        split at hc
        · rcases List.mem_append.1 hc with h | h
          · exact has_iff.1 (ok.idle c h)
          · simp at h; subst h; exact ⟨s.h[q], hx, e⟩
        · exact has_iff.1 (ok.idle c hc)
      obtain ⟨y, hy2, e2⟩ := h2
      obtain ⟨z, hz, e3⟩ := hkeys2 y hy2
      exact ⟨z, hz, e3.trans e2⟩
    · rcases List.mem_append.1 hc with h | h
      · exact ok.times c (List.mem_append_left _ (hb c h))
      · change c ∈ (if kp = true ∧ s.keep ≠ 0 then s.i ++ [_] else s.i) at h
        split at h
        · rcases List.mem_append.1 h with h | h
          · exact ok.times c (List.mem_append_right _ h)
          · simp at h; subst h; exact hsum
        · exact ok.times c (List.mem_append_right _ h)
    · rcases List.mem_append.1 hc with h | h
      · exact ok.nums c (List.mem_append_left _ (hb c h))
      · change c ∈ (if kp = true ∧ s.keep ≠ 0 then s.i ++ [_] else s.i) at h
        split at h
        · rcases List.mem_append.1 h with h | h
          · exact ok.nums c (List.mem_append_right _ h)
          · simp at h; subst h; show s.b[p].n ≤ s.last; exact ok.nums _ (List.mem_append_left _ hmem)
        · exact ok.nums c (List.mem_append_right _ h)
  · rw [if_neg h1]; exact ok
theorem PvOk.new {t keep : Nat} (h1 : 1 ≤ t) (h2 : t ≤ 32) (hk : keep < 18446744073709551616) : PvOk ⟨t, keep, 0, [], [], []⟩ :=
  ⟨HoOk.new (by omega) (by omega), List.Pairwise.nil, h1, h2, by simp, fun _ => rfl, fun c hc => by simp at hc, hk, fun c hc => by simp at hc, fun c hc => by simp at hc⟩
end Go.Proofs.Ytbnmldfiheffoaa
