/-
  More of the plain mathematics of layer 4: bytes of paths and of queries, what a URL is told as, what a text is read as. It speaks of no program. No conditions.
-/
import Derived.Test.YtfamllkmmiajoaaDoorHMath
namespace Go.Proofs.YtfamllkmmiajoaaDoor

def noPathL : List UInt8 := [34, 35, 60, 62, 63, 92, 94, 96, 123, 124, 125]
def noQueryL : List UInt8 := [34, 35, 60, 62]
def freeB (bar : List UInt8) (b : UInt8) : Bool := decide (33 ≤ b.toNat) && decide (b.toNat ≤ 126) && !bar.contains b
def freeL (bar l : List UInt8) : Bool := l.all (freeB bar)
def pathL (l : List UInt8) : Bool := freeL noPathL l && (cleanL l == l)
def queryL (l : List UInt8) : Bool := l.isEmpty || ((l.head? == some 63) && freeL noQueryL l)
def nsq (b : UInt8) : Bool := !(b == 47 || b == 63)
def nq (b : UInt8) : Bool := !(b == 63)

structure Url where
  sc : List UInt8
  h : List UInt8
  p : Int
  pa : List UInt8
  q : List UInt8
def Url.zero : Url := ⟨[], [], 0, [], []⟩
def Url.len (u : Url) : Nat := (showL u.sc u.h u.p).length + u.pa.length + u.q.length
def Url.ok (u : Url) : Bool := checkL u.sc u.h u.p && pathL u.pa && queryL u.q && decide (u.len ≤ 512)
def Url.show_ (u : Url) : List UInt8 := if u.ok then showL u.sc u.h u.p ++ u.pa ++ u.q else []

/-- behind the origin -/
def restL (sc h : List UInt8) (p : Int) (r : List UInt8) : Url × Int :=
  if (freeL noPathL (r.takeWhile nq) && freeL noQueryL (r.dropWhile nq)) = false then (Url.zero, 3)
  else if 512 < (⟨sc, h, p, cleanL (r.takeWhile nq), r.dropWhile nq⟩ : Url).len then (Url.zero, 4)
  else (⟨sc, h, p, cleanL (r.takeWhile nq), r.dropWhile nq⟩, 0)
def headL (a b : List UInt8) : List UInt8 := a ++ [58, 47, 47] ++ b.takeWhile nsq
def textL (l : List UInt8) : Url × Int :=
  match seek l with
  | none => (Url.zero, 3)
  | some (a, b) => match parseL (headL a b) with
    | none => (Url.zero, 3)
    | some (sc, h, p) => restL sc h p (b.dropWhile nsq)
def tgtL (l : List UInt8) : Url × Int := if 512 < l.length then (Url.zero, 4) else textL (split1 35 l).1

theorem free_mem {bar l : List UInt8} (h : freeL bar l = true) : ∀ b ∈ l, 33 ≤ b.toNat ∧ b.toNat ≤ 126 ∧ b ∉ bar := by
  intro b hb
  have := List.all_eq_true.1 h b hb
  simpa [freeB, and_assoc] using this
theorem free_47 : freeB noPathL 47 = true := by decide
theorem free_clean {l : List UInt8} (h : freeL noPathL l = true) : freeL noPathL (cleanL l) = true := by
  unfold freeL at *
  rw [List.all_eq_true] at *
  intro b hb
  rcases clean_sub l b hb with rfl | hb
  · exact free_47
  · exact h b hb
theorem path_clean {l : List UInt8} (h : freeL noPathL l = true) : pathL (cleanL l) = true := by
  unfold pathL; rw [free_clean h, clean_clean]; simp
theorem path_parts {l : List UInt8} (h : pathL l = true) : freeL noPathL l = true ∧ cleanL l = l := by
  unfold pathL at h; simpa using h
theorem path_head {l : List UInt8} (h : pathL l = true) : l.head? = some 47 := by
  have := clean_head l; rwa [(path_parts h).2] at this
theorem drop_nq (l : List UInt8) : l.dropWhile nq = [] ∨ (l.dropWhile nq).head? = some 63 := by
  cases e : l.dropWhile nq with
  | nil => exact .inl rfl
  | cons x r =>
    refine .inr ?_
    have h : ∀ (l : List UInt8) (x : UInt8) (r : List UInt8), l.dropWhile nq = x :: r → x = 63 := by
      intro l
      induction l with
      | nil => intro x r h; simp at h
      | cons y l ih =>
        intro x r h
        rw [List.dropWhile_cons] at h
        by_cases hy : nq y = true
        · rw [if_pos hy] at h; exact ih x r h
        · rw [if_neg hy] at h
          injection h with h1 _
          subst h1
          simpa [nq] using hy
    rw [h l x r e]; rfl
theorem query_of {l : List UInt8} (h : l = [] ∨ l.head? = some 63) (hf : freeL noQueryL l = true) : queryL l = true := by
  unfold queryL
  rcases h with h | h
  · simp [h]
  · simp [h, hf]
theorem query_parts {l : List UInt8} (h : queryL l = true) : (l = [] ∨ l.head? = some 63) ∧ freeL noQueryL l = true := by
  unfold queryL at h
  cases l with
  | nil => exact ⟨.inl rfl, rfl⟩
  | cons x r => simp at h; exact ⟨.inr (by simp [h.1]), h.2⟩
theorem ok_parts {u : Url} (h : u.ok = true) : checkL u.sc u.h u.p = true ∧ pathL u.pa = true ∧ queryL u.q = true ∧ u.len ≤ 512 := by
  unfold Url.ok at h; simpa [and_assoc] using h
theorem zero_ok : Url.zero.ok = false := by
  have : checkL [] [] 0 = false := by simp [checkL, defL]
  unfold Url.ok; rw [show Url.zero.sc = [] from rfl, show Url.zero.h = [] from rfl, show Url.zero.p = 0 from rfl, this]; rfl
theorem show_ok {u : Url} (h : u.ok = true) : u.show_ = showL u.sc u.h u.p ++ u.pa ++ u.q := by rw [Url.show_, if_pos h]
theorem show_no {u : Url} (h : u.ok = false) : u.show_ = [] := by rw [Url.show_, h]; rfl
theorem ushow_len (u : Url) : u.show_.length ≤ 512 := by
  cases h : u.ok
  · rw [show_no h]; simp
  · rw [show_ok h]; have := (ok_parts h).2.2.2; unfold Url.len at this; simp; omega

theorem rest_cases (sc h : List UInt8) (p : Int) (r : List UInt8) :
    (restL sc h p r = (Url.zero, 3)) ∨ (restL sc h p r = (Url.zero, 4)) ∨
    (restL sc h p r = (⟨sc, h, p, cleanL (r.takeWhile nq), r.dropWhile nq⟩, 0) ∧ freeL noPathL (r.takeWhile nq) = true ∧ freeL noQueryL (r.dropWhile nq) = true ∧ (⟨sc, h, p, cleanL (r.takeWhile nq), r.dropWhile nq⟩ : Url).len ≤ 512) := by
  unfold restL
  by_cases h1 : (freeL noPathL (r.takeWhile nq) && freeL noQueryL (r.dropWhile nq)) = false
  · rw [if_pos h1]; exact .inl rfl
  · rw [if_neg h1]
    have h1' : freeL noPathL (r.takeWhile nq) = true ∧ freeL noQueryL (r.dropWhile nq) = true := by simpa using h1
    by_cases h2 : 512 < (⟨sc, h, p, cleanL (r.takeWhile nq), r.dropWhile nq⟩ : Url).len
    · rw [if_pos h2]; exact .inr (.inl rfl)
    · rw [if_neg h2]; exact .inr (.inr ⟨rfl, h1'.1, h1'.2, by omega⟩)
theorem tgt_cases (l : List UInt8) : (tgtL l = (Url.zero, 3)) ∨ (tgtL l = (Url.zero, 4)) ∨ ((tgtL l).2 = 0 ∧ (tgtL l).1.ok = true) := by
  unfold tgtL
  by_cases h0 : 512 < l.length
  · rw [if_pos h0]; exact .inr (.inl rfl)
  rw [if_neg h0]
  unfold textL
  cases hs : seek (split1 35 l).1 with
  | none => exact .inl rfl
  | some q =>
    obtain ⟨a, b⟩ := q
    simp only
    cases hp : parseL (headL a b) with
    | none => exact .inl rfl
    | some o =>
      obtain ⟨sc, h, p⟩ := o
      simp only
      rcases rest_cases sc h p (b.dropWhile nsq) with e | e | ⟨e, f1, f2, f3⟩
      · exact .inl e
      · exact .inr (.inl e)
      · refine .inr (.inr ?_)
        rw [e]
        refine ⟨rfl, ?_⟩
        unfold Url.ok
        have c1 : checkL sc h p = true := parse_check hp
        simp only [c1, path_clean f1, query_of (drop_nq _) f2, Bool.true_and, decide_eq_true_eq]
        exact f3

/-- what is told is read back -/
theorem take_stop {P : UInt8 → Bool} {a b : List UInt8} (ha : ∀ x ∈ a, P x = true) (hb : b = [] ∨ ∃ x r, b = x :: r ∧ P x = false) : (a ++ b).takeWhile P = a ∧ (a ++ b).dropWhile P = b := by
  induction a with
  | nil =>
    rcases hb with rfl | ⟨x, r, rfl, h⟩
    · exact ⟨rfl, rfl⟩
    · simp [h]
  | cons y a ih =>
    have hy := ha y (by simp)
    have := ih (fun x hx => ha x (by simp [hx]))
    simp only [List.cons_append, List.takeWhile_cons, List.dropWhile_cons, hy, if_true]
    exact ⟨by rw [this.1], this.2⟩
theorem nsq_of {b : UInt8} (h1 : b ≠ 47) (h2 : b ≠ 63) : nsq b = true := by simp [nsq, h1, h2]
theorem nq_of {b : UInt8} (h2 : b ≠ 63) : nq b = true := by simp [nq, h2]
theorem host_plain {h : List UInt8} (hh : hostL h = true) : ∀ b ∈ h, b ≠ 35 ∧ b ≠ 47 ∧ b ≠ 63 := by
  intro b hb
  rcases host_bytes hh b hb with rfl | hx
  · decide
  · have := hostB_bd hx
    refine ⟨?_, ?_, ?_⟩ <;> (rintro rfl; simp at this)
theorem num_plain {n : Nat} (hn : n ≤ 65535) : ∀ b ∈ numL n, b ≠ 35 ∧ b ≠ 47 ∧ b ≠ 63 := by
  intro b hb
  have := dig_all (numL_ok (n := n) (by unfold Lk.M64; omega)).1 b hb
  refine ⟨?_, ?_, ?_⟩ <;> (rintro rfl; simp at this)
/-- an origin that is told: its scheme, and a host with or without a port -/
theorem show_split {sc h : List UInt8} {p : Int} (hc : checkL sc h p = true) : ∃ t, showL sc h p = sc ++ [58, 47, 47] ++ t ∧ (∀ b ∈ t, b ≠ 35 ∧ b ≠ 47 ∧ b ≠ 63) := by
  obtain ⟨h1, h2, h3, h4⟩ := check_parts hc
  rw [showL, if_pos hc]
  by_cases hd : p = defL sc
  · rw [if_pos hd]; exact ⟨h, rfl, host_plain h2⟩
  · rw [if_neg hd]
    refine ⟨h ++ [58] ++ numL p.toNat, by simp, ?_⟩
    intro b hb
    simp only [List.mem_append, List.mem_cons, List.not_mem_nil, or_false] at hb
    rcases hb with (hb | rfl) | hb
    · exact host_plain h2 b hb
    · decide
    · exact num_plain (by omega) b hb
theorem scheme_plain {sc : List UInt8} (h : defL sc ≠ 0) : ∀ b ∈ sc, b ≠ 35 ∧ b ≠ 58 := by
  rcases def_cases h with ⟨rfl, _⟩ | ⟨rfl, _⟩ <;> decide
theorem tgt_show {u : Url} (hu : u.ok = true) : tgtL u.show_ = (u, 0) := by
  obtain ⟨hc, hp, hq, hl⟩ := ok_parts hu
  obtain ⟨t, et, ht⟩ := show_split hc
  obtain ⟨h1, h2, h3, h4⟩ := check_parts hc
  have hsc := scheme_plain h1
  have ⟨pf, pc⟩ := path_parts hp
  have ⟨qh, qf⟩ := query_parts hq
  have hlen := ushow_len u
  rw [tgtL, if_neg (by omega)]
  have e : u.show_ = u.sc ++ [58, 47, 47] ++ (t ++ (u.pa ++ u.q)) := by rw [show_ok hu, et]; simp
  have n35 : ∀ b ∈ u.show_, b ≠ 35 := by
    rw [e]
    intro b hb
    simp only [List.mem_append, List.mem_cons, List.not_mem_nil, or_false] at hb
    rcases hb with (hb | rfl | rfl | rfl) | hb | hb | hb
    · exact (hsc b hb).1
    · decide
    · decide
    · decide
    · exact (ht b hb).1
    · rintro rfl; exact (free_mem pf _ hb).2.2 (by decide)
    · rintro rfl; exact (free_mem qf _ hb).2.2 (by decide)
  rw [split1_none 35 _ n35]
  unfold textL
  rw [e, seek_mk _ _ (fun x hx => (hsc x hx).2)]
  have hpa := path_head hp
  have st := take_stop (P := nsq) (a := t) (b := u.pa ++ u.q) (fun x hx => nsq_of (ht x hx).2.1 (ht x hx).2.2) (.inr (by
    cases hx : u.pa with
    | nil => rw [hx] at hpa; simp at hpa
    | cons x r => rw [hx] at hpa; simp at hpa; exact ⟨x, r ++ u.q, rfl, by subst hpa; decide⟩))
  have hh : headL u.sc (t ++ (u.pa ++ u.q)) = showL u.sc u.h u.p := by rw [headL, st.1, et]
  simp only [hh, parse_show hc, st.2]
  have sq := take_stop (P := nq) (a := u.pa) (b := u.q) (fun x hx => nq_of (by rintro rfl; exact (free_mem pf _ hx).2.2 (by decide))) (by
    rcases qh with qh | qh
    · exact .inl qh
    · cases hx : u.q with
      | nil => exact .inl rfl
      | cons x r => rw [hx] at qh; simp at qh; exact .inr ⟨x, r, rfl, by subst qh; decide⟩)
  unfold restL
  rw [sq.1, sq.2, pf, qf, pc]
  have : (⟨u.sc, u.h, u.p, u.pa, u.q⟩ : Url) = u := rfl
  rw [this, if_neg (by simp), if_neg (by omega)]

/-- what stands behind a number sign counts for nothing -/
theorem tgt_frag (s t : List UInt8) (h : (s ++ 35 :: t).length ≤ 512) : tgtL (s ++ 35 :: t) = tgtL s := by
  have h2 : s.length ≤ 512 := by simp at h; omega
  rw [tgtL, tgtL, if_neg (by omega), if_neg (by omega)]
  rcases at_cases 35 s with hn | ⟨a, b, rfl, hn⟩
  · rw [split1_at 35 s t hn, split1_none 35 s hn]
  · rw [List.append_assoc, List.cons_append, split1_at 35 a _ hn, split1_at 35 a b hn]

/-- a beginning that holds an origin -/
theorem pre_append {s : List UInt8} (h : [58, 47, 47].isPrefixOf s = true) (t : List UInt8) : [58, 47, 47].isPrefixOf (s ++ t) = true ∧ (s ++ t).drop 3 = s.drop 3 ++ t := by
  rw [List.isPrefixOf_iff_prefix] at *
  obtain ⟨r, rfl⟩ := h
  exact ⟨⟨r ++ t, by simp⟩, by simp⟩
theorem seek_append : ∀ (s a b : List UInt8), seek s = some (a, b) → ∀ t, seek (s ++ t) = some (a, b ++ t)
  | [], a, b, h, _ => by simp [seek] at h
  | x :: s, a, b, h, t => by
    rw [seek] at h
    rw [List.cons_append, seek]
    by_cases hp : [58, 47, 47].isPrefixOf (x :: s) = true
    · rw [if_pos hp] at h
      simp only [Option.some.injEq, Prod.mk.injEq] at h
      obtain ⟨rfl, rfl⟩ := h
      have := pre_append hp t
      rw [List.cons_append] at this
      rw [if_pos this.1, this.2]
    · rw [if_neg hp] at h
      cases hs : seek s with
      | none => rw [hs] at h; simp at h
      | some q =>
        rw [hs] at h
        simp only [Option.map_some, Option.some.injEq, Prod.mk.injEq] at h
        obtain ⟨rfl, rfl⟩ := h
        have ih := seek_append s q.1 q.2 hs t
        have hno : ¬ [58, 47, 47].isPrefixOf (x :: (s ++ t)) = true := by
          intro hy
          have hlen : 3 ≤ s.length := by have := congrArg List.length (seek_eq s q.1 q.2 hs); simp at this; omega
          rw [List.isPrefixOf_iff_prefix] at hy
          obtain ⟨r, hr⟩ := hy
          apply hp
          rw [List.isPrefixOf_iff_prefix]
          have := congrArg (List.take 3) hr
          have e3 : List.take 3 ([58, 47, 47] ++ r) = [58, 47, 47] := by simp
          rw [e3] at this
          refine ⟨(x :: s).drop 3, ?_⟩
          have e2 : (x :: (s ++ t)).take 3 = (x :: s).take 3 := by
            rw [← List.cons_append, List.take_append_of_le_length (by simp; omega)]
          rw [this, e2, List.take_append_drop]
        rw [if_neg hno, ih]; rfl
theorem show_len_parse {l sc h : List UInt8} {p : Int} (hp : parseL l = some (sc, h, p)) : (showL sc h p).length ≤ l.length := by
  have hc := parse_check hp
  have hl : (Lk.lower l).length = l.length := Lk.lower_len l
  unfold parseL at hp
  cases hs : seek (Lk.lower l) with
  | none => rw [hs] at hp; simp at hp
  | some q =>
    obtain ⟨a, r⟩ := q
    rw [hs] at hp
    simp only at hp
    have e := congrArg List.length (seek_eq _ _ _ hs)
    simp only [List.length_append, List.length_cons, List.length_nil] at e
    rcases at_cases 58 r with hn | ⟨x, y, rfl, hn⟩
    · rw [split1_none 58 r hn] at hp
      replace hp : (if checkL a r (defL a) = true then some (a, r, defL a) else none) = some (sc, h, p) := hp
      by_cases hq : checkL a r (defL a) = true
      · rw [if_pos hq] at hp
        simp only [Option.some.injEq, Prod.mk.injEq] at hp
        obtain ⟨rfl, rfl, rfl⟩ := hp
        rw [showL, if_pos hc, if_pos rfl]; simp; omega
      · rw [if_neg hq] at hp; cases hp
    · rw [split1_at 58 x y hn] at hp
      replace hp : (if checkL a x (portL y : Int) = true then some (a, x, (portL y : Int)) else none) = some (sc, h, p) := hp
      by_cases hq : checkL a x (portL y : Int) = true
      · rw [if_pos hq] at hp
        simp only [Option.some.injEq, Prod.mk.injEq] at hp
        obtain ⟨rfl, rfl, rfl⟩ := hp
        have h1 := (check_parts hc).2.2.1
        have hy : numL (portL y) = y := by
          have h1' : portL y ≠ 0 := by omega
          unfold portL at h1' ⊢
          by_cases hx : 5 < y.length ∨ y.head? = some 48
          · rw [if_pos hx] at h1'; exact absurd rfl h1'
          · rw [if_neg hx] at h1' ⊢
            cases hd : Lk.digL y
            · rw [hd] at h1'; exact absurd rfl h1'
            · rw [if_pos rfl]; exact num_val y (by omega) hd (fun e => hx (.inr e))
        rw [showL, if_pos hc]
        simp only [List.length_append, List.length_cons] at e
        split
        · simp; omega
        · simp [hy]; omega
      · rw [if_neg hq] at hp; cases hp
theorem tgt_origin {s a b p : List UInt8} (hk : seek s = some (a, b)) (hl : s.length + p.length + 2 ≤ 500) (h35 : ∀ x ∈ s, x ≠ 35) (h47 : ∀ x ∈ b, x ≠ 47) (h63 : ∀ x ∈ s, x ≠ 63) :
    (parseL s = none ∧ tgtL (s ++ 47 :: p) = (Url.zero, 3)) ∨
    ∃ sc h n, parseL s = some (sc, h, n) ∧ (tgtL (s ++ 47 :: p) = (Url.zero, 3) ∨ ∃ pa q, tgtL (s ++ 47 :: p) = (⟨sc, h, n, pa, q⟩, 0)) := by
  have es := seek_eq s a b hk
  obtain ⟨p', hp', hpl⟩ : ∃ p', (split1 35 (s ++ 47 :: p)).1 = s ++ 47 :: p' ∧ p'.length ≤ p.length := by
    rcases at_cases 35 p with hn | ⟨x, y, rfl, hn⟩
    · refine ⟨p, ?_, Nat.le_refl _⟩
      rw [split1_none 35 _]
      intro z hz
      rcases List.mem_append.1 hz with hz | hz
      · exact h35 z hz
      · rcases List.mem_cons.1 hz with rfl | hz
        · decide
        · exact hn z hz
    · refine ⟨x, ?_, by simp⟩
      have := split1_at 35 (s ++ 47 :: x) y (by
        intro z hz
        rcases List.mem_append.1 hz with hz | hz
        · exact h35 z hz
        · rcases List.mem_cons.1 hz with rfl | hz
          · decide
          · exact hn z hz)
      rw [show s ++ 47 :: (x ++ 35 :: y) = (s ++ 47 :: x) ++ 35 :: y by simp, this]
  have et : tgtL (s ++ 47 :: p) = textL (s ++ 47 :: p') := by
    rw [tgtL, if_neg (by simp; omega), hp']
  rw [et]
  unfold textL
  rw [seek_append s a b hk (47 :: p')]
  have hb63 : ∀ x ∈ b, x ≠ 63 := fun x hx => h63 x (by rw [es]; simp [hx])
  have st := take_stop (P := nsq) (a := b) (b := 47 :: p') (fun x hx => nsq_of (h47 x hx) (hb63 x hx)) (.inr ⟨47, p', rfl, by decide⟩)
  have hh : headL a (b ++ 47 :: p') = s := by rw [headL, st.1, es]
  simp only [hh, st.2]
  cases hp : parseL s with
  | none => exact .inl ⟨rfl, rfl⟩
  | some o =>
    obtain ⟨sc, h, n⟩ := o
    refine .inr ⟨sc, h, n, rfl, ?_⟩
    simp only
    rcases rest_cases sc h n (47 :: p') with e | e | ⟨e, _⟩
    · exact .inl e
    · exfalso
      unfold restL at e
      split at e
      · simp at e
      · split at e
        · rename_i _ hbig
          have h1 := show_len_parse hp
          have h2 : ((47 :: p').takeWhile nq).head? = some 47 := by simp [nq]
          have h3 := clean_len_sl h2
          have h4 : ((47 :: p').takeWhile nq).length + ((47 :: p').dropWhile nq).length = p'.length + 1 := by
            rw [← List.length_append, List.takeWhile_append_dropWhile]; simp
          unfold Url.len at hbig
          simp only at hbig
          omega
        · simp at e
    · exact .inr ⟨_, _, e⟩
end Go.Proofs.YtfamllkmmiajoaaDoor
