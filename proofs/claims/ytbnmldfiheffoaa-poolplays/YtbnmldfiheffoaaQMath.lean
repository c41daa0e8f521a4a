/-
  Mathematics of a pool of connections: numbers, keys and times in lists, what a call is told and what is behind it. Plain lists and numbers. No conditions beyond those of each statement.
-/
import Derived.Test.YtbnmldfiheffoaaNMath
import Derived.Test.YtbnmldfiheffoaaKInts
namespace Go.Proofs.Ytbnmldfiheffoaa

/-- a connection: its number, its key, until when it is idle -/
structure Cn where
  n : Nat
  k : ByteArray
  u : Nat
abbrev connB (i : Int) (c : Cn) : Bool := decide ((c.n : Int) = i)
def ckeyB (k : ByteArray) (c : Cn) : Bool := c.k.toList == k.toList
def dueB (t : Nat) (c : Cn) : Bool := decide (c.u ≤ t)
theorem ckeyB_iff {k : ByteArray} {c : Cn} : ckeyB k c = true ↔ c.k = k := by
  unfold ckeyB
  rw [beq_iff_eq]
  constructor
  · intro e; exact WideShapes.bytes_inj (by rw [ByteArray.toList_eq, ByteArray.toList_eq] at e; exact e)
  · intro e; rw [e]
theorem ckeyB_no {k : ByteArray} {c : Cn} : ckeyB k c = false ↔ c.k ≠ k := by rw [← Bool.not_eq_true, ckeyB_iff]
def nthC (l : List Cn) (k : Nat) : Cn := l.getD k ⟨0, ⟨#[]⟩, 0⟩
theorem nthC_eq {l : List Cn} {k : Nat} (h : k < l.length) : nthC l k = l[k] := by simp [nthC, h]
theorem nthC_mem {l : List Cn} {k : Nat} (h : k < l.length) : nthC l k ∈ l := by rw [nthC_eq h]; exact List.getElem_mem h
/-- the first place of which p holds; below 0: there is none -/
def firstI (p : Cn → Bool) (l : List Cn) : Int := if l.findIdx p < l.length then (l.findIdx p : Int) else -1
theorem first_hit {p : Cn → Bool} {l : List Cn} (h : l.findIdx p < l.length) : p (nthC l (l.findIdx p)) = true := by
  rw [nthC_eq h]; exact List.findIdx_getElem
theorem first_first {p : Cn → Bool} {l : List Cn} {k : Nat} (hk : k < l.length) (h1 : p (nthC l k) = true) (h2 : ∀ j, j < k → p (nthC l j) = false) : l.findIdx p = k := by
  rw [List.findIdx_eq hk]
  refine ⟨by rw [← nthC_eq hk]; exact h1, fun j hj => ?_⟩
  rw [← nthC_eq (by omega)]; exact h2 j hj
theorem first_none {p : Cn → Bool} {l : List Cn} (h : ∀ x ∈ l, p x = false) : l.findIdx p = l.length := List.findIdx_eq_length.2 h
theorem first_miss {p : Cn → Bool} {l : List Cn} (h : ¬ l.findIdx p < l.length) : ∀ x ∈ l, p x = false := by
  have h1 := List.findIdx_le_length (p := p) (xs := l)
  exact List.findIdx_eq_length.1 (by omega)
theorem firstI_yes {p : Cn → Bool} {l : List Cn} (h : l.findIdx p < l.length) : firstI p l = (l.findIdx p : Int) := by unfold firstI; rw [if_pos h]
theorem firstI_no {p : Cn → Bool} {l : List Cn} (h : ¬ l.findIdx p < l.length) : firstI p l = -1 := by unfold firstI; rw [if_neg h]

/-- the last place of which p holds -/
def lastO (p : Cn → Bool) : List Cn → Option Nat
  | [] => none
  | x :: r => match lastO p r with
    | some j => some (j + 1)
    | none => if p x then some 0 else none
theorem lastO_none {p : Cn → Bool} : ∀ {l : List Cn}, (∀ j, j < l.length → p (nthC l j) = false) → lastO p l = none
  | [], _ => rfl
  | x :: r, h => by
    have h1 := lastO_none (l := r) (fun j hj => by simpa [nthC] using h (j + 1) (by simpa using hj))
    have h0 : p x = false := by simpa [nthC] using h 0 (by simp)
    simp [lastO, h1, h0]
theorem lastO_some {p : Cn → Bool} : ∀ {l : List Cn} {k : Nat}, k < l.length → p (nthC l k) = true → (∀ j, k < j → j < l.length → p (nthC l j) = false) → lastO p l = some k
  | [], k, hk, _, _ => by simp at hk
  | x :: r, 0, _, h1, h2 => by
    have h3 := lastO_none (p := p) (l := r) (fun j hj => by simpa [nthC] using h2 (j + 1) (by omega) (by simpa using hj))
    have h0 : p x = true := by simpa [nthC] using h1
    simp [lastO, h3, h0]
  | x :: r, k + 1, hk, h1, h2 => by
    have h3 := lastO_some (p := p) (l := r) (k := k) (by simpa using hk) (by simpa [nthC] using h1) (fun j hj hj2 => by simpa [nthC] using h2 (j + 1) (by omega) (by simpa using hj2))
    simp [lastO, h3]
theorem lastO_is {p : Cn → Bool} : ∀ {l : List Cn} {k : Nat}, lastO p l = some k → k < l.length ∧ p (nthC l k) = true ∧ ∀ j, k < j → j < l.length → p (nthC l j) = false
  | [], k, h => by simp [lastO] at h
  | x :: r, k, h => by
    unfold lastO at h
    cases hr : lastO p r with
    | some j =>
      rw [hr] at h
      simp at h
      subst h
      obtain ⟨h1, h2, h3⟩ := lastO_is hr
      refine ⟨by simpa using h1, by simpa [nthC] using h2, fun i hi hi2 => ?_⟩
      cases i with
      | zero => omega
      | succ i => simpa [nthC] using h3 i (by omega) (by simpa using hi2)
    | none =>
      rw [hr] at h
      have hn := lastO_no hr
      by_cases hx : p x = true
      · simp [hx] at h
        subst h
        refine ⟨by simp, by simpa [nthC] using hx, fun i hi hi2 => ?_⟩
        cases i with
        | zero => omega
        | succ i => simpa [nthC] using hn i (by simpa using hi2)
      · simp [hx] at h
where
  lastO_no {p : Cn → Bool} : ∀ {l : List Cn}, lastO p l = none → ∀ j, j < l.length → p (nthC l j) = false
  | [], _, j, hj => by simp at hj
  | x :: r, h, j, hj => by
    unfold lastO at h
    cases hr : lastO p r with
    | some i => rw [hr] at h; simp at h
    | none =>
      rw [hr] at h
      cases j with
      | zero => by_cases hx : p x = true
                · simp [hx] at h
                · simpa [nthC] using hx
      | succ j => simpa [nthC] using lastO_no hr j (by simpa using hj)
theorem lastO_no {p : Cn → Bool} {l : List Cn} (h : lastO p l = none) : ∀ j, j < l.length → p (nthC l j) = false := lastO_is.lastO_no h



def connsL (l : List Cn) : List Int := l.map (fun c => (c.n : Int))

/-- a pool's state: for how many, how long one is kept, the number that was given last, those in use, the idle ones, the table's hosts -/
structure Pv where
  t : Nat
  keep : Nat
  last : Nat
  b : List Cn
  i : List Cn
  h : List Ho
def usedB (l : List Cn) (k : ByteArray) : Nat := (l.filter (ckeyB k)).length
def canP (s : Pv) (k : ByteArray) : Bool := decide (s.b.length < s.t) && decide (usedB s.b k < 6)
def hostS (s : Pv) (i : Int) : ByteArray := if s.b.findIdx (connB i) < s.b.length then (nthC s.b (s.b.findIdx (connB i))).k else if s.i.findIdx (connB i) < s.i.length then (nthC s.i (s.i.findIdx (connB i))).k else ⟨#[]⟩
def hostB (s : Pv) (i : Int) : Bool := decide (s.b.findIdx (connB i) < s.b.length) || decide (s.i.findIdx (connB i) < s.i.length)
/-- the idle ones of which p holds are closed -/
def shutP (p : Cn → Bool) (s : Pv) : Pv := { s with i := s.i.filter (fun c => !p c) }
def shutG (p : Cn → Bool) (s : Pv) : List Int := sortI (connsL (s.i.filter p))
/-- the host gets a use; the idle ones of a host that made room are closed -/
def useP (k : ByteArray) (s : Pv) : Pv :=
  if hasC s.h k = false ∧ 32 ≤ s.h.length then { shutP (ckeyB (useG 32 s.h k)) s with h := useS 32 s.h k } else { s with h := useS 32 s.h k }
def openP (k : ByteArray) (s : Pv) : Pv :=
  { s with last := s.last + 1, i := if s.t ≤ s.b.length + s.i.length then s.i.drop 1 else s.i, b := s.b ++ [⟨s.last + 1, k, 0⟩] }
def againP (j : Nat) (s : Pv) : Pv := { s with i := s.i.eraseIdx j, b := s.b ++ [nthC s.i j] }
/-- behind Expire and Use -/
def midP (k : ByteArray) (now : Nat) (s : Pv) : Pv := useP k (shutP (dueB now) s)
def takeS (k : ByteArray) (now : Nat) (s : Pv) : Pv :=
  if canP s k then (match lastO (ckeyB k) (midP k now s).i with | some j => againP j (midP k now s) | none => openP k (midP k now s)) else s
def takeN (k : ByteArray) (now : Nat) (s : Pv) : Nat :=
  if canP s k then (match lastO (ckeyB k) (midP k now s).i with | some j => (nthC (midP k now s).i j).n | none => s.last + 1) else 0
def takeF (k : ByteArray) (now : Nat) (s : Pv) : Bool :=
  if canP s k then (match lastO (ckeyB k) (midP k now s).i with | some _ => false | none => true) else false
def takeC (k : ByteArray) (s : Pv) : Nat := if canP s k then 0 else 10
def sumT (a b : Nat) : Nat := if 18446744073709551615 < a + b then 18446744073709551615 else a + b
def giveC (i : Int) (s : Pv) : Nat := if s.b.findIdx (connB i) < s.b.length then 0 else 11
def giveS (i : Int) (now : Nat) (kp : Bool) (s : Pv) : Pv :=
  if s.b.findIdx (connB i) < s.b.length then
    { s with b := s.b.eraseIdx (s.b.findIdx (connB i)), h := freeS s.h (nthC s.b (s.b.findIdx (connB i))).k,
             i := if kp = true ∧ s.keep ≠ 0 then s.i ++ [{ nthC s.b (s.b.findIdx (connB i)) with u := sumT now s.keep }] else s.i }
  else s
theorem useP_last (k : ByteArray) (s : Pv) : (useP k s).last = s.last ∧ (useP k s).b = s.b ∧ (useP k s).t = s.t ∧ (useP k s).keep = s.keep := by
  unfold useP shutP; split <;> exact ⟨rfl, rfl, rfl, rfl⟩
theorem midP_last (k : ByteArray) (now : Nat) (s : Pv) : (midP k now s).last = s.last ∧ (midP k now s).b = s.b ∧ (midP k now s).t = s.t ∧ (midP k now s).keep = s.keep := useP_last k _

/-- keys of hosts stand once each -/
def KeysOnce (l : List Ho) : Prop := l.Pairwise (fun a b => a.1 ≠ b.1)
/-- what holds of a pool at any time -/
structure PvOk (s : Pv) : Prop where
  hosts : HoOk 32 s.h
  once : KeysOnce s.h
  t1 : 1 ≤ s.t
  t2 : s.t ≤ 32
  len : s.b.length + s.i.length ≤ s.t
  used : ∀ k, usedC s.h k = usedB s.b k
  idle : ∀ c ∈ s.i, hasC s.h c.k = true
  keep : s.keep < 18446744073709551616
  times : ∀ c ∈ s.b ++ s.i, c.u < 18446744073709551616
  nums : ∀ c ∈ s.b ++ s.i, c.n ≤ s.last
end Go.Proofs.Ytbnmldfiheffoaa
