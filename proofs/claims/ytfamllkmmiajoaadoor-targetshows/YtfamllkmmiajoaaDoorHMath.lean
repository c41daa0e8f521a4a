/-
  The plain mathematics of layer 4 (target): segments, dots, clean paths. It speaks of no program. No conditions.
-/
import Derived.Test.YtfamllkmmiajoaaDoorGMath2
namespace Go.Proofs.YtfamllkmmiajoaaDoor

/-- 1: a segment is single; 2: it is double; 0: neither -/
def dotsT (t : List UInt8) : Int :=
  if t = [46] ∨ t = [37, 50, 101] then 1 else if t = [46, 46] ∨ t = [46, 37, 50, 101] ∨ t = [37, 50, 101, 46] ∨ t = [37, 50, 101, 37, 50, 101] then 2 else 0
def dotsL (l : List UInt8) : Int := dotsT (Lk.lower l)
theorem dots_cases (l : List UInt8) : dotsL l = 0 ∨ dotsL l = 1 ∨ dotsL l = 2 := by
  unfold dotsL dotsT; split; exact .inr (.inl rfl); split; exact .inr (.inr rfl); exact .inl rfl
theorem dots_nil : dotsL [] = 0 := by decide
theorem dots_len {l : List UInt8} (h : dotsL l ≠ 0) : 1 ≤ l.length ∧ l.length ≤ 6 := by
  have e : (Lk.lower l).length = l.length := Lk.lower_len l
  unfold dotsL dotsT at h
  by_cases h1 : Lk.lower l = [46] ∨ Lk.lower l = [37, 50, 101]
  · rcases h1 with h1 | h1 <;> rw [h1] at e <;> simp at e <;> omega
  · rw [if_neg h1] at h
    by_cases h2 : Lk.lower l = [46, 46] ∨ Lk.lower l = [46, 37, 50, 101] ∨ Lk.lower l = [37, 50, 101, 46] ∨ Lk.lower l = [37, 50, 101, 37, 50, 101]
    · rcases h2 with h2 | h2 | h2 | h2 <;> rw [h2] at e <;> simp at e <;> omega
    · rw [if_neg h2] at h; exact absurd rfl h
theorem dots_long {l : List UInt8} (h : 6 < l.length) : dotsL l = 0 := by
  rcases dots_cases l with h0 | h0 | h0
  · exact h0
  · have := dots_len (l := l) (by rw [h0]; decide); omega
  · have := dots_len (l := l) (by rw [h0]; decide); omega

/-- one segment more -/
def stepL (acc : List (List UInt8)) (s : List UInt8) (last : Bool) : List (List UInt8) :=
  if dotsL s = 0 then acc ++ [s] else (if dotsL s = 2 then acc.dropLast else acc) ++ (if last then [[]] else [])
def keepL (acc : List (List UInt8)) : List (List UInt8) → List (List UInt8)
  | [] => acc
  | s :: r => keepL (stepL acc s r.isEmpty) r
def joinS : List (List UInt8) → List UInt8
  | [] => []
  | s :: r => 47 :: (s ++ joinS r)
def stripS (l : List UInt8) : List UInt8 := if l.head? = some 47 then l.tail else l
def cleanL (l : List UInt8) : List UInt8 := joinS (keepL [] (parts 47 (stripS l)))

def noSl (l : List UInt8) : Prop := ∀ b ∈ l, b ≠ 47
theorem parts_noSl : ∀ (l p : List UInt8), p ∈ parts 47 l → noSl p
  | [], p, h => by simp [parts] at h; subst h; intro b hb; simp at hb
  | b :: l, p, h => by
    rw [parts] at h
    by_cases hb : b = 47
    · rw [if_pos hb] at h
      rcases List.mem_cons.1 h with rfl | h
      · intro x hx; simp at hx
      · exact parts_noSl l p h
    · rw [if_neg hb] at h
      cases hl : parts 47 l with
      | nil => exact absurd hl (parts_ne 47 l)
      | cons q r =>
        rw [hl] at h
        rcases List.mem_cons.1 h with rfl | h
        · intro x hx
          rcases List.mem_cons.1 hx with rfl | hx
          · exact hb
          · exact parts_noSl l q (by rw [hl]; simp) x hx
        · exact parts_noSl l p (by rw [hl]; simp [h])
theorem joinS_append : ∀ a b : List (List UInt8), joinS (a ++ b) = joinS a ++ joinS b
  | [], _ => rfl
  | s :: r, b => by simp [joinS, joinS_append r b]
theorem joinS_snoc (a : List (List UInt8)) (s : List UInt8) : joinS (a ++ [s]) = joinS a ++ 47 :: s := by simp [joinS_append, joinS]
theorem joinS_parts : ∀ l : List UInt8, joinS (parts 47 l) = 47 :: l
  | [] => rfl
  | b :: l => by
    have ih := joinS_parts l
    rw [parts]
    by_cases hb : b = 47
    · rw [if_pos hb, hb, joinS, ih]; rfl
    · rw [if_neg hb]
      cases hl : parts 47 l with
      | nil => exact absurd hl (parts_ne 47 l)
      | cons q r =>
        rw [hl] at ih
        simp only [joinS, List.cons.injEq, true_and] at ih
        simp only [glue1, joinS, List.cons_append, ih]
theorem parts_join : ∀ (s : List UInt8) (r : List (List UInt8)), noSl s → (∀ t ∈ r, noSl t) → parts 47 (s ++ joinS r) = s :: r
  | s, [], h, _ => by simp only [joinS, List.append_nil]; exact parts_none 47 s h
  | s, t :: r, h, k => by
    rw [joinS, parts_at 47 s _ h, parts_join t r (k t (by simp)) (fun x hx => k x (by simp [hx]))]
theorem strip_join (s : List UInt8) (r : List (List UInt8)) : stripS (joinS (s :: r)) = s ++ joinS r := by simp [joinS, stripS]
theorem parts_strip_join {l : List (List UInt8)} (h0 : l ≠ []) (h : ∀ t ∈ l, noSl t) : parts 47 (stripS (joinS l)) = l := by
  cases l with
  | nil => exact absurd rfl h0
  | cons s r => rw [strip_join, parts_join s r (h s (by simp)) (fun t ht => h t (by simp [ht]))]

/-- what holds of each segment that is there holds of each that is kept -/
theorem step_all {Q : List UInt8 → Prop} {acc : List (List UInt8)} {s : List UInt8} {b : Bool} (h : ∀ t ∈ acc, Q t) (hs : dotsL s = 0 → Q s) (h0 : Q []) : ∀ t ∈ stepL acc s b, Q t := by
  intro t ht
  unfold stepL at ht
  by_cases hd : dotsL s = 0
  · rw [if_pos hd] at ht
    rcases List.mem_append.1 ht with ht | ht
    · exact h t ht
    · simp at ht; subst ht; exact hs hd
  · rw [if_neg hd] at ht
    rcases List.mem_append.1 ht with ht | ht
    · split at ht
      · exact h t (List.dropLast_subset _ ht)
      · exact h t ht
    · cases b
      · simp at ht
      · simp at ht; subst ht; exact h0
theorem keep_all {Q : List UInt8 → Prop} (h0 : Q []) : ∀ (r acc : List (List UInt8)), (∀ t ∈ acc, Q t) → (∀ s ∈ r, dotsL s = 0 → Q s) → ∀ t ∈ keepL acc r, Q t
  | [], acc, h, _ => h
  | s :: r, acc, h, k => keep_all h0 r _ (step_all h (k s (by simp)) h0) (fun t ht => k t (by simp [ht]))
theorem step_ne (acc : List (List UInt8)) (s : List UInt8) : stepL acc s true ≠ [] := by
  unfold stepL; split <;> simp
theorem keep_ne : ∀ (r acc : List (List UInt8)), r ≠ [] → keepL acc r ≠ []
  | [], _, h => absurd rfl h
  | [s], acc, _ => by simp only [keepL, List.isEmpty_nil]; exact step_ne acc s
  | s :: t :: r, acc, _ => by rw [keepL]; exact keep_ne (t :: r) _ (by simp)
theorem keep_id : ∀ (r acc : List (List UInt8)), (∀ s ∈ r, dotsL s = 0) → keepL acc r = acc ++ r
  | [], acc, _ => by simp [keepL]
  | s :: r, acc, h => by
    rw [keepL, keep_id r _ (fun t ht => h t (by simp [ht]))]
    unfold stepL
    rw [if_pos (h s (by simp))]
    simp
theorem clean_segs (l : List UInt8) : ∃ ss : List (List UInt8), cleanL l = joinS ss ∧ ss ≠ [] ∧ (∀ t ∈ ss, noSl t) ∧ (∀ t ∈ ss, dotsL t = 0) := by
  refine ⟨keepL [] (parts 47 (stripS l)), rfl, keep_ne _ _ (parts_ne 47 _), ?_, ?_⟩
  · exact keep_all (by intro b hb; simp at hb) _ _ (by simp) (fun s hs _ => parts_noSl _ s hs)
  · exact keep_all dots_nil _ _ (by simp) (fun s _ h => h)
theorem clean_join {ss : List (List UInt8)} (h0 : ss ≠ []) (h : ∀ t ∈ ss, noSl t) : cleanL (joinS ss) = joinS (keepL [] ss) := by
  rw [cleanL, parts_strip_join h0 h]
theorem clean_id {ss : List (List UInt8)} (h0 : ss ≠ []) (h : ∀ t ∈ ss, noSl t) (hd : ∀ t ∈ ss, dotsL t = 0) : cleanL (joinS ss) = joinS ss := by
  rw [clean_join h0 h, keep_id ss [] hd]; rfl
theorem clean_clean (l : List UInt8) : cleanL (cleanL l) = cleanL l := by
  obtain ⟨ss, e, h0, h1, h2⟩ := clean_segs l
  rw [e, clean_id h0 h1 h2]
theorem clean_head (l : List UInt8) : (cleanL l).head? = some 47 := by
  obtain ⟨ss, e, h0, _, _⟩ := clean_segs l
  rw [e]
  cases ss with
  | nil => exact absurd rfl h0
  | cons s r => rfl

/-- how long, of which bytes -/
theorem joinS_dropLast (a : List (List UInt8)) : (joinS a.dropLast).length ≤ (joinS a).length := by
  rcases List.eq_nil_or_concat a with rfl | ⟨b, s, rfl⟩
  · simp
  · rw [List.concat_eq_append, List.dropLast_concat, joinS_snoc]; simp
theorem step_len (acc : List (List UInt8)) (s : List UInt8) (b : Bool) : (joinS (stepL acc s b)).length ≤ (joinS acc).length + (s.length + 1) := by
  unfold stepL
  by_cases hd : dotsL s = 0
  · rw [if_pos hd, joinS_snoc]; simp
  · rw [if_neg hd, joinS_append, List.length_append]
    have h1 := (dots_len hd).1
    have h2 := joinS_dropLast acc
    have h3 : (joinS (if b = true then [[]] else [])).length ≤ 1 := by cases b <;> simp [joinS]
    split <;> omega
theorem keep_len : ∀ (r acc : List (List UInt8)), (joinS (keepL acc r)).length ≤ (joinS acc).length + (joinS r).length
  | [], acc => by simp [keepL, joinS]
  | s :: r, acc => by
    have h1 := keep_len r (stepL acc s r.isEmpty)
    have h2 := step_len acc s r.isEmpty
    rw [keepL]
    simp only [joinS, List.length_cons, List.length_append]
    omega
theorem clean_len1 (l : List UInt8) : (cleanL l).length ≤ (stripS l).length + 1 := by
  have h := keep_len (parts 47 (stripS l)) []
  rw [joinS_parts] at h
  simpa [cleanL, joinS] using h
theorem strip_len (l : List UInt8) : (stripS l).length ≤ l.length := by unfold stripS; split <;> simp
theorem clean_len (l : List UInt8) : (cleanL l).length ≤ l.length + 1 := by have := clean_len1 l; have := strip_len l; omega
theorem clean_len_sl {l : List UInt8} (h : l.head? = some 47) : (cleanL l).length ≤ l.length := by
  have h1 := clean_len1 l
  have h2 : (stripS l).length + 1 = l.length := by
    unfold stripS; rw [if_pos h]
    cases l with
    | nil => simp at h
    | cons x r => simp
  omega
theorem joinS_mem : ∀ (ss : List (List UInt8)) (b : UInt8), b ∈ joinS ss → b = 47 ∨ ∃ s ∈ ss, b ∈ s
  | [], b, h => by simp [joinS] at h
  | s :: r, b, h => by
    simp only [joinS, List.mem_cons, List.mem_append] at h
    rcases h with h | h | h
    · exact .inl h
    · exact .inr ⟨s, by simp, h⟩
    · rcases joinS_mem r b h with h | ⟨t, ht, hb⟩
      · exact .inl h
      · exact .inr ⟨t, by simp [ht], hb⟩
theorem parts_sub : ∀ (l p : List UInt8), p ∈ parts 47 l → ∀ b ∈ p, b ∈ l := by
  intro l p hp b hb
  have h : b ∈ joinS (parts 47 l) := by
    generalize parts 47 l = ss at hp
    induction ss with
    | nil => simp at hp
    | cons s r ih =>
      simp only [joinS, List.mem_cons, List.mem_append]
      rcases List.mem_cons.1 hp with rfl | hp
      · exact .inr (.inl hb)
      · exact .inr (.inr (ih hp))
  rw [joinS_parts] at h
  rcases List.mem_cons.1 h with rfl | h
  · exact absurd rfl (parts_noSl l p hp _ hb)
  · exact h
theorem strip_sub (l : List UInt8) : ∀ b ∈ stripS l, b ∈ l := by
  intro b hb
  unfold stripS at hb
  split at hb
  · exact List.mem_of_mem_tail hb
  · exact hb
theorem clean_sub (l : List UInt8) : ∀ b ∈ cleanL l, b = 47 ∨ b ∈ l := by
  intro b hb
  rcases joinS_mem _ b hb with h | ⟨s, hs, hbs⟩
  · exact .inl h
  · refine .inr ?_
    have := keep_all (Q := fun t => ∀ b ∈ t, b ∈ l) (by simp) (parts 47 (stripS l)) [] (by simp) (fun s hs _ b hb => strip_sub l b (parts_sub _ s hs b hb)) s hs
    exact this b hbs

/-- where a byte stands last -/
theorem last_cases (c : UInt8) (l : List UInt8) : (∀ b ∈ l, b ≠ c) ∨ ∃ a b, l = a ++ c :: b ∧ ∀ x ∈ b, x ≠ c := by
  rcases at_cases c l.reverse with h | ⟨a, b, e, h⟩
  · exact .inl (fun x hx => h x (by simpa using hx))
  · refine .inr ⟨b.reverse, a.reverse, ?_, fun x hx => h x (by simpa using hx)⟩
    have := congrArg List.reverse e
    simpa using this
theorem app_inj_last {c : UInt8} {a b a' b' : List UInt8} (e : a ++ c :: b = a' ++ c :: b') (h : ∀ x ∈ b, x ≠ c) (h' : ∀ x ∈ b', x ≠ c) : a = a' := by
  have e1 : b.reverse ++ c :: a.reverse = b'.reverse ++ c :: a'.reverse := by have := congrArg List.reverse e; simpa using this
  have s1 := split1_at c b.reverse a.reverse (fun x hx => h x (by simpa using hx))
  have s2 := split1_at c b'.reverse a'.reverse (fun x hx => h' x (by simpa using hx))
  rw [e1, s2] at s1
  simp only [Prod.mk.injEq, Option.some.injEq, List.reverse_inj] at s1
  exact s1.2.symm
end Go.Proofs.YtfamllkmmiajoaaDoor
