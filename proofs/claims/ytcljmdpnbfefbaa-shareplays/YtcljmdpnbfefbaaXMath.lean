/-
  Mathematics of preflights that are shared: preflights in a list, the oldest first, each with its number, its want and its members; what a call is told and what is behind it. Plain lists and numbers. No conditions beyond those of each statement.
-/
import Derived.Test.YtcljmdpnbfefbaaKBase
namespace Go.Proofs.Ytcljmdpnbfefbaa

/-- a want: an origin, a URL, with or without credentials, a method, names -/
structure Wt where
  o : ByteArray
  u : ByteArray
  c : Bool
  m : ByteArray
  s : ByteArray
/-- a preflight: its number, its want, its members -/
structure Pv where
  n : Nat
  w : Wt
  i : List Int
abbrev noT : ByteArray := ⟨#[]⟩
abbrev zW : Wt := ⟨noT, noT, false, noT, noT⟩
def zP : Pv := ⟨0, zW, []⟩
def tB (a b : ByteArray) : Bool := a.toList == b.toList
theorem tB_iff {a b : ByteArray} : tB a b = true ↔ a = b := by
  unfold tB
  rw [beq_iff_eq]
  constructor
  · intro e; exact WideShapes.bytes_inj (by rw [ByteArray.toList_eq, ByteArray.toList_eq] at e; exact e)
  · intro e; rw [e]
def wB (a b : Wt) : Bool := tB a.o b.o && tB a.u b.u && (a.c == b.c) && tB a.m b.m && tB a.s b.s
theorem wB_iff {a b : Wt} : wB a b = true ↔ a = b := by
  unfold wB
  simp only [Bool.and_eq_true, tB_iff, beq_iff_eq]
  constructor
  · rintro ⟨⟨⟨⟨h1, h2⟩, h3⟩, h4⟩, h5⟩; cases a; cases b; simp at h1 h2 h3 h4 h5; simp [h1, h2, h3, h4, h5]
  · rintro rfl; exact ⟨⟨⟨⟨rfl, rfl⟩, rfl⟩, rfl⟩, rfl⟩
theorem wB_no {a b : Wt} : wB a b = false ↔ a ≠ b := by rw [← Bool.not_eq_true, wB_iff]
theorem wB_self (a : Wt) : wB a a = true := wB_iff.2 rfl

def hasI (i : Int) (p : Pv) : Bool := p.i.contains i
def numB (k : Int) (p : Pv) : Bool := decide ((p.n : Int) = k)
def ofB (w : Wt) (p : Pv) : Bool := wB p.w w
theorem hasI_iff {i : Int} {p : Pv} : hasI i p = true ↔ i ∈ p.i := by unfold hasI; rw [List.contains_iff_mem]
theorem numB_iff {k : Int} {p : Pv} : numB k p = true ↔ (p.n : Int) = k := by unfold numB; exact decide_eq_true_iff
theorem ofB_iff {w : Wt} {p : Pv} : ofB w p = true ↔ p.w = w := wB_iff
def nthP (l : List Pv) (k : Nat) : Pv := l.getD k zP
theorem nthP_eq {l : List Pv} {k : Nat} (h : k < l.length) : nthP l k = l[k] := by simp [nthP, h]
theorem nthP_mem {l : List Pv} {k : Nat} (h : k < l.length) : nthP l k ∈ l := by rw [nthP_eq h]; exact List.getElem_mem h
def spotI (p : Pv → Bool) (l : List Pv) : Int := if l.findIdx p < l.length then (l.findIdx p : Int) else -1
theorem spot_hit {p : Pv → Bool} {l : List Pv} (h : l.findIdx p < l.length) : p (nthP l (l.findIdx p)) = true := by
  rw [nthP_eq h]; exact List.findIdx_getElem (w := h)
theorem spot_first {p : Pv → Bool} {l : List Pv} {k : Nat} (hk : k < l.length) (h1 : p (nthP l k) = true) (h2 : ∀ j, j < k → p (nthP l j) = false) : l.findIdx p = k := by
  rw [List.findIdx_eq hk]
  rw [nthP_eq hk] at h1
  exact ⟨h1, fun j hj => by have := h2 j hj; rwa [nthP_eq (by omega)] at this⟩
theorem spotI_yes {p : Pv → Bool} {l : List Pv} (h : l.findIdx p < l.length) : spotI p l = (l.findIdx p : Int) := by unfold spotI; rw [if_pos h]
theorem spotI_no {p : Pv → Bool} {l : List Pv} (h : ¬ l.findIdx p < l.length) : spotI p l = -1 := by unfold spotI; rw [if_neg h]
theorem spot_none {p : Pv → Bool} {l : List Pv} (h : ∀ j, j < l.length → p (nthP l j) = false) : ¬ l.findIdx p < l.length := fun hc => by
  have h1 := spot_hit hc
  rw [h _ hc] at h1
  cases h1
theorem spot_no {p : Pv → Bool} {l : List Pv} (h : ¬ l.findIdx p < l.length) {x : Pv} (hx : x ∈ l) : p x = false := by
  have h1 := List.findIdx_le_length (p := p) (xs := l)
  have h2 := List.findIdx_eq_length.1 (show l.findIdx p = l.length by omega) x hx
  simpa using h2
theorem spot_mem {p : Pv → Bool} {l : List Pv} {x : Pv} (hx : x ∈ l) (h : p x = true) : l.findIdx p < l.length := by
  by_cases h1 : l.findIdx p < l.length
  · exact h1
  · rw [spot_no h1 hx] at h; cases h

def sumL (l : List Pv) : Nat := (l.map (fun p => p.i.length)).sum
theorem sumL_nil : sumL [] = 0 := rfl
theorem sumL_cons (p : Pv) (l : List Pv) : sumL (p :: l) = p.i.length + sumL l := by simp [sumL]
theorem sumL_append (l m : List Pv) : sumL (l ++ m) = sumL l + sumL m := by simp [sumL]
theorem sumL_take {l : List Pv} {k : Nat} (h : k < l.length) : sumL (l.take (k + 1)) = sumL (l.take k) + (nthP l k).i.length := by
  rw [List.take_succ_eq_append_getElem h, sumL_append, nthP_eq h]; simp [sumL]
theorem sumL_take_le (l : List Pv) : ∀ k, sumL (l.take k) ≤ sumL l := by
  induction l with
  | nil => intro k; simp [sumL]
  | cons p r ih => intro k; cases k with
    | zero => simp [sumL]
    | succ k => rw [List.take_succ_cons, sumL_cons, sumL_cons]; have := ih k; omega
theorem sumL_mem {l : List Pv} {p : Pv} (h : p ∈ l) : p.i.length ≤ sumL l := by
  induction l with
  | nil => simp at h
  | cons q r ih =>
    rw [sumL_cons]
    rcases List.mem_cons.1 h with rfl | h1
    · omega
    · have := ih h1; omega
theorem sumL_erase (l : List Pv) : ∀ k, sumL (l.eraseIdx k) ≤ sumL l := by
  induction l with
  | nil => intro k; simp [sumL]
  | cons p r ih => intro k; cases k with
    | zero => rw [List.eraseIdx_zero, sumL_cons]; show sumL r ≤ _; omega
    | succ k => rw [List.eraseIdx_cons_succ, sumL_cons, sumL_cons]; have := ih k; omega
theorem sumL_set (l : List Pv) (q : Pv) : ∀ k, k < l.length → sumL (l.set k q) + (nthP l k).i.length = sumL l + q.i.length := by
  induction l with
  | nil => intro k h; simp at h
  | cons p r ih => intro k h; cases k with
    | zero => rw [List.set_cons_zero, sumL_cons, sumL_cons]; simp [nthP]; omega
    | succ k => rw [List.set_cons_succ, sumL_cons, sumL_cons]; have := ih k (by simpa using h); have e : nthP (p :: r) (k + 1) = nthP r k := by simp [nthP]
                rw [e]; omega
/-- with members each, they are no more than their members -/
theorem sumL_len {l : List Pv} (h : ∀ p ∈ l, p.i ≠ []) : l.length ≤ sumL l := by
  induction l with
  | nil => simp
  | cons p r ih =>
    rw [sumL_cons, List.length_cons]
    have h1 := ih (fun q hq => h q (by simp [hq]))
    have h2 := List.length_pos_iff.2 (h p (by simp))
    omega

/-- all that is to be known: the number given last, the preflights -/
structure Sv where
  last : Nat
  l : List Pv
def s0 : Sv := ⟨0, []⟩
def homeK (i : Int) (s : Sv) : Nat := s.l.findIdx (hasI i)
def spotK (k : Int) (s : Sv) : Nat := s.l.findIdx (numB k)
def wantK (w : Wt) (s : Sv) : Nat := s.l.findIdx (ofB w)
def joinC (i : Int) (s : Sv) : Nat :=
  if i < 1 then 2 else if homeK i s < s.l.length then 16 else if 64 ≤ sumL s.l then 10 else 0
def plus (p : Pv) (i : Int) : Pv := ⟨p.n, p.w, p.i ++ [i]⟩
def less (p : Pv) (i : Int) : Pv := ⟨p.n, p.w, p.i.erase i⟩
def addK (k : Nat) (i : Int) (s : Sv) : Sv := ⟨s.last, s.l.set k (plus (nthP s.l k) i)⟩
def openS (w : Wt) (i : Int) (s : Sv) : Sv := ⟨s.last + 1, s.l ++ [⟨s.last + 1, w, [i]⟩]⟩
def joinN (w : Wt) (i : Int) (s : Sv) : Nat :=
  if joinC i s = 0 then (if wantK w s < s.l.length then (nthP s.l (wantK w s)).n else s.last + 1) else 0
def joinF (w : Wt) (i : Int) (s : Sv) : Bool := decide (joinC i s = 0 ∧ ¬ wantK w s < s.l.length)
def joinS (w : Wt) (i : Int) (s : Sv) : Sv :=
  if joinC i s = 0 then (if wantK w s < s.l.length then addK (wantK w s) i s else openS w i s) else s
def outK (k : Nat) (s : Sv) : Sv := ⟨s.last, s.l.eraseIdx k⟩
def lessK (k : Nat) (i : Int) (s : Sv) : Sv := ⟨s.last, s.l.set k (less (nthP s.l k) i)⟩
def leaveO (i : Int) (s : Sv) : Bool := decide (homeK i s < s.l.length)
def leaveN (i : Int) (s : Sv) : Nat := if homeK i s < s.l.length then (nthP s.l (homeK i s)).n else 0
def leaveF (i : Int) (s : Sv) : Bool := decide (homeK i s < s.l.length ∧ (nthP s.l (homeK i s)).i.length = 1)
def leaveS (i : Int) (s : Sv) : Sv :=
  if homeK i s < s.l.length then (if (nthP s.l (homeK i s)).i.length = 1 then outK (homeK i s) s else lessK (homeK i s) i s) else s
def doneR (k : Int) (s : Sv) : List Int := if spotK k s < s.l.length then (nthP s.l (spotK k s)).i else []
def doneS (k : Int) (s : Sv) : Sv := if spotK k s < s.l.length then outK (spotK k s) s else s
def wantW (k : Int) (s : Sv) : Wt := if spotK k s < s.l.length then (nthP s.l (spotK k s)).w else zW
def wantO (k : Int) (s : Sv) : Bool := decide (spotK k s < s.l.length)

/-- what holds at any time -/
structure Ok (s : Sv) : Prop where
  nd : ∀ p ∈ s.l, p.i.Nodup
  ne : ∀ p ∈ s.l, p.i ≠ []
  ge : ∀ p ∈ s.l, ∀ i ∈ p.i, 1 ≤ i
  sum : sumL s.l ≤ 64
  lt : ∀ p ∈ s.l, 1 ≤ p.n ∧ p.n ≤ s.last
  nn : s.l.Pairwise (fun a b => a.n < b.n)
  ww : s.l.Pairwise (fun a b => a.w ≠ b.w)
  ii : s.l.Pairwise (fun a b => ∀ i ∈ a.i, i ∉ b.i)
theorem Ok.len {s : Sv} (h : Ok s) : s.l.length ≤ 64 := Nat.le_trans (sumL_len h.ne) h.sum
theorem Ok.mem {s : Sv} (h : Ok s) {p : Pv} (hp : p ∈ s.l) : p.i.length ≤ 64 := Nat.le_trans (sumL_mem hp) h.sum
theorem Ok.start : Ok s0 := ⟨by simp [s0], by simp [s0], by simp [s0], by simp [s0, sumL], by simp [s0], by simp [s0], by simp [s0], by simp [s0]⟩
/-- a relation that does not see what was turned holds on -/
theorem pair_set {α : Type} {R : α → α → Prop} {l : List α} {k : Nat} {y : α} (hk : k < l.length) (h : l.Pairwise R) (h1 : ∀ x ∈ l, R x l[k] → R x y) (h2 : ∀ x ∈ l, R l[k] x → R y x) : (l.set k y).Pairwise R := by
  induction l generalizing k with
  | nil => simp at hk
  | cons a r ih =>
    rw [List.pairwise_cons] at h
    cases k with
    | zero =>
      rw [List.set_cons_zero, List.pairwise_cons]
      exact ⟨fun x hx => h2 x (by simp [hx]) (h.1 x hx), h.2⟩
    | succ k =>
      have hk' : k < r.length := by simpa using hk
      rw [List.set_cons_succ, List.pairwise_cons]
      refine ⟨fun x hx => ?_, ih hk' h.2 (fun x hx hR => h1 x (by simp [hx]) hR) (fun x hx hR => h2 x (by simp [hx]) hR)⟩
      rcases List.mem_or_eq_of_mem_set hx with h3 | h3
      · exact h.1 x h3
      · subst h3; exact h1 a (by simp) (h.1 _ (List.getElem_mem hk'))
theorem pair_end {α : Type} {R : α → α → Prop} {l : List α} {y : α} (h : l.Pairwise R) (h1 : ∀ x ∈ l, R x y) : (l ++ [y]).Pairwise R := by
  rw [List.pairwise_append]
  exact ⟨h, by simp, fun a ha b hb => by simp at hb; subst hb; exact h1 a ha⟩
theorem set_mem {l : List Pv} {k : Nat} {p q : Pv} (h : p ∈ l.set k q) : p ∈ l ∨ p = q := List.mem_or_eq_of_mem_set h
/-- a row with one taken out -/
theorem Ok.out {s : Sv} (h : Ok s) (k : Nat) : Ok (outK k s) := by
  have hm : ∀ p ∈ s.l.eraseIdx k, p ∈ s.l := fun p hp => List.mem_of_mem_eraseIdx hp
  have hs := List.eraseIdx_sublist s.l k
  exact ⟨fun p hp => h.nd p (hm p hp), fun p hp => h.ne p (hm p hp), fun p hp => h.ge p (hm p hp), Nat.le_trans (sumL_erase _ _) h.sum, fun p hp => h.lt p (hm p hp), h.nn.sublist hs, h.ww.sublist hs, h.ii.sublist hs⟩
/-- members anew, of those there were -/
theorem Ok.turn {s : Sv} (h : Ok s) {k : Nat} (hk : k < s.l.length) {y : List Int} (n1 : y.Nodup) (n2 : y ≠ []) (n3 : ∀ i ∈ y, 1 ≤ i) (n4 : y.length + sumL s.l ≤ (nthP s.l k).i.length + 64)
    (n5 : ∀ i ∈ y, i ∈ (nthP s.l k).i ∨ ∀ p ∈ s.l, i ∉ p.i) : Ok ⟨s.last, s.l.set k ⟨(nthP s.l k).n, (nthP s.l k).w, y⟩⟩ := by
  have e := nthP_eq hk
  have hmem := nthP_mem hk
  have hsum := sumL_set s.l ⟨(nthP s.l k).n, (nthP s.l k).w, y⟩ k hk
  refine ⟨?_, ?_, ?_, by show sumL (s.l.set _ _) ≤ 64; simp only at hsum; omega, ?_, ?_, ?_, ?_⟩
  · intro p hp; rcases set_mem hp with h1 | rfl; exact h.nd p h1; exact n1
  · intro p hp; rcases set_mem hp with h1 | rfl; exact h.ne p h1; exact n2
  · intro p hp; rcases set_mem hp with h1 | rfl; exact h.ge p h1; exact n3
  · intro p hp; rcases set_mem hp with h1 | rfl; exact h.lt p h1; exact h.lt (nthP s.l k) hmem
  · refine pair_set hk h.nn ?_ ?_ <;> intro x _ hR <;> rw [← e] at hR <;> exact hR
  · refine pair_set hk h.ww ?_ ?_ <;> intro x _ hR <;> rw [← e] at hR <;> exact hR
  · refine pair_set hk h.ii ?_ ?_
    · intro x hx hR i hi hy
      rw [← e] at hR
      rcases n5 i hy with h1 | h1
      · exact hR i hi h1
      · exact h1 x hx hi
    · intro x hx hR i hi hy
      rw [← e] at hR
      rcases n5 i hi with h1 | h1
      · exact hR i h1 hy
      · exact h1 x hx hy
theorem joinC_zero {i : Int} {s : Sv} (h : joinC i s = 0) : 1 ≤ i ∧ ¬ homeK i s < s.l.length ∧ sumL s.l < 64 := by
  unfold joinC at h
  split at h
  · cases h
  split at h
  · cases h
  split at h
  · cases h
  exact ⟨by omega, by assumption, by omega⟩
theorem Ok.join {s : Sv} (h : Ok s) (w : Wt) (i : Int) : Ok (joinS w i s) := by
  unfold joinS
  split
  · rename_i hc
    obtain ⟨h1, h2, h3⟩ := joinC_zero hc
    have hno : ∀ p ∈ s.l, i ∉ p.i := fun p hp hi => by have := spot_no h2 hp; rw [hasI_iff.2 hi] at this; cases this
    split
    · rename_i hk
      have hmem := nthP_mem hk
      refine h.turn hk ?_ (by simp) ?_ (by simp; omega) ?_
      · rw [List.nodup_append]
        exact ⟨h.nd _ hmem, by simp, fun a ha b hb => by simp at hb; subst hb; rintro rfl; exact hno _ hmem ha⟩
      · intro j hj; rcases List.mem_append.1 hj with h4 | h4; exact h.ge _ hmem j h4; simp at h4; omega
      · intro j hj; rcases List.mem_append.1 hj with h4 | h4; exact .inl h4; simp at h4; subst h4; exact .inr hno
    · rename_i hk
      unfold openS
      refine ⟨?_, ?_, ?_, ?_, ?_, pair_end h.nn ?_, pair_end h.ww ?_, pair_end h.ii ?_⟩
      · intro p hp; rcases List.mem_append.1 hp with h4 | h4; exact h.nd p h4; simp at h4; subst h4; simp
      · intro p hp; rcases List.mem_append.1 hp with h4 | h4; exact h.ne p h4; simp at h4; subst h4; simp
      · intro p hp; rcases List.mem_append.1 hp with h4 | h4; exact h.ge p h4; simp at h4; subst h4; simp; exact h1
      · rw [sumL_append, sumL_cons, sumL_nil]; simp; omega
      · intro p hp; rcases List.mem_append.1 hp with h4 | h4
        · have := h.lt p h4; show _ ∧ _ ≤ s.last + 1; omega
        · simp at h4; subst h4; show 1 ≤ s.last + 1 ∧ s.last + 1 ≤ s.last + 1; omega
      · intro p hp; have := h.lt p hp; show p.n < s.last + 1; omega
      · intro p hp e; have := spot_no hk hp; rw [ofB_iff.2 e] at this; cases this
      · intro p hp j hj hm; simp at hm; subst hm; exact hno p hp hj
  · exact h
theorem Ok.leave {s : Sv} (h : Ok s) (i : Int) : Ok (leaveS i s) := by
  unfold leaveS
  split
  · rename_i hk
    have hmem := nthP_mem hk
    have hin : i ∈ (nthP s.l (homeK i s)).i := hasI_iff.1 (spot_hit hk)
    split
    · exact h.out _
    · rename_i h1
      have hle := List.length_erase_of_mem hin
      have hpos := List.length_pos_iff.2 (h.ne _ hmem)
      refine h.turn hk ((h.nd _ hmem).erase _) ?_ ?_ ?_ ?_
      · intro e; rw [e] at hle; simp at hle; omega
      · intro j hj; exact h.ge _ hmem j (List.mem_of_mem_erase hj)
      · have := h.sum; omega
      · intro j hj; exact .inl (List.mem_of_mem_erase hj)
  · exact h
theorem Ok.done {s : Sv} (h : Ok s) (k : Int) : Ok (doneS k s) := by
  unfold doneS; split; exact h.out _; exact h
theorem joinS_last (w : Wt) (i : Int) (s : Sv) : (joinS w i s).last ≤ s.last + 1 := by
  unfold joinS; split
  · split
    · show s.last ≤ _; omega
    · exact Nat.le_refl _
  · omega
theorem leaveS_last (i : Int) (s : Sv) : (leaveS i s).last = s.last := by
  unfold leaveS; split
  · split <;> rfl
  · rfl
theorem doneS_last (k : Int) (s : Sv) : (doneS k s).last = s.last := by unfold doneS; split <;> rfl
/-- as they are all unlike, all that are not the one are those without it -/
theorem filter_erase {l : List Int} {i : Int} (h : l.Nodup) : l.filter (fun m => !(m == i)) = l.erase i := by
  rw [h.erase_eq_filter]
  congr 1
theorem erase_idx {l : List Int} {i : Int} {k : Nat} (hk : k < l.length) (h1 : l[k] = i) (h2 : ∀ j (h : j < k), l[j]'(by omega) ≠ i) : l.eraseIdx k = l.erase i := by
  rw [List.erase_eq_eraseIdx_of_idxOf (i := k)]
  rw [List.idxOf, List.findIdx_eq hk]
  exact ⟨by simp [h1], fun j hj => by simp; exact h2 j hj⟩
end Go.Proofs.Ytcljmdpnbfefbaa
