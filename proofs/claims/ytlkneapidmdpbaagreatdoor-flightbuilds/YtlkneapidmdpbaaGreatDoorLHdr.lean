/-
  The plain mathematics and the contracts of header over this seat's program. Conditions: those of each statement.
-/
import Derived.Test.YtlkneapidmdpbaaGreatDoorLBase
import Derived.Lib.SlicesCompact
import Derived.Test.YtlkneapidmdpbaaGreatDoorLOct2
import Derived.Test.YtlkneapidmdpbaaGreatDoorLAny
import Derived.Sort.Grow
import Derived.Deep.AppendLies
import Derived.ProofKit
import Derived.Deep.SlicePairs
namespace Go.Proofs.YtlkneapidmdpbaaGreatDoor

abbrev Hd := List UInt8 × List UInt8
def normH (h : Hd) : Hd := (Lk.lower h.1, Lk.trimL h.2)
def badB (l : List UInt8) : Bool := Lk.inL 0 l || Lk.inL 10 l || Lk.inL 13 l
def nameOk (n : List UInt8) : Bool := decide (n.length ≤ 64) && Lk.tokL n
def valOk (v : List UInt8) : Bool := decide (v.length ≤ 4096) && !badB v
def okH (h : Hd) : Bool := nameOk h.1 && valOk (Lk.trimL h.2)
def checkH (l : List Hd) : Int := if 32 < l.length then 4 else if l.all okH then 0 else 6
def normL (l : List Hd) : List Hd := l.map normH
def sameH (a b : List Hd) : Bool := decide (normL a = normL b)
def valsH (l : List Hd) (n : List UInt8) : List (List UInt8) := (l.filter (fun h => Lk.foldL h.1 n)).map (fun h => Lk.trimL h.2)
def gotH (l : List Hd) (n : List UInt8) : Bool := l.any (fun h => Lk.foldL h.1 n)
def getH (l : List Hd) (n : List UInt8) : List UInt8 := Lk.joinL (valsH l n)
def setR (n v : List UInt8) : Bool → List Hd → List Hd
  | _, [] => []
  | f, h :: r => if Lk.foldL h.1 n then (if f then setR n v true r else (h.1, v) :: setR n v true r) else h :: setR n v f r
def setH (l : List Hd) (n v : List UInt8) : List Hd := setR n v false l ++ (if gotH l n then [] else [(n, v)])

theorem fold_refl (a : List UInt8) : Lk.foldL a a = true := by simp [Lk.foldL]
theorem fold_trans {a b c : List UInt8} (h : Lk.foldL a b = true) : Lk.foldL a c = Lk.foldL b c := by
  have : Lk.lower a = Lk.lower b := by simpa [Lk.foldL] using h
  simp [Lk.foldL, this]
theorem fold_lower (a b : List UInt8) : Lk.foldL (Lk.lower a) b = Lk.foldL a b := by simp [Lk.foldL, Lk.lower_lower]
theorem fold_comm (a b : List UInt8) : Lk.foldL a b = Lk.foldL b a := by
  rw [Bool.eq_iff_iff]; simp [Lk.foldL]; exact ⟨Eq.symm, Eq.symm⟩

theorem vals_nil (n : List UInt8) : valsH [] n = [] := rfl
theorem vals_append (l m : List Hd) (n : List UInt8) : valsH (l ++ m) n = valsH l n ++ valsH m n := by simp [valsH]
theorem vals_cons (h : Hd) (l : List Hd) (n : List UInt8) : valsH (h :: l) n = (if Lk.foldL h.1 n then [Lk.trimL h.2] else []) ++ valsH l n := by
  simp only [valsH, List.filter_cons]
  split <;> simp
theorem vals_snoc (l : List Hd) (h : Hd) (n : List UInt8) : valsH (l ++ [h]) n = valsH l n ++ (if Lk.foldL h.1 n then [Lk.trimL h.2] else []) := by
  rw [vals_append, vals_cons, vals_nil, List.append_nil]
theorem got_append (l m : List Hd) (n : List UInt8) : gotH (l ++ m) n = (gotH l n || gotH m n) := by simp [gotH]
theorem got_cons (h : Hd) (l : List Hd) (n : List UInt8) : gotH (h :: l) n = (Lk.foldL h.1 n || gotH l n) := by simp [gotH]
theorem got_vals (l : List Hd) (n : List UInt8) : gotH l n = decide (0 < (valsH l n).length) := by
  induction l with
  | nil => rfl
  | cons h r ih =>
    rw [got_cons, vals_cons, ih]
    cases Lk.foldL h.1 n <;> simp

theorem setR_snoc (n v : List UInt8) (l : List Hd) (h : Hd) : ∀ f, setR n v f (l ++ [h]) = setR n v f l ++ (if Lk.foldL h.1 n then (if f || gotH l n then [] else [(h.1, v)]) else [h]) := by
  induction l with
  | nil => intro f; cases f <;> cases hf : Lk.foldL h.1 n <;> simp [setR, gotH, hf]
  | cons g r ih =>
    intro f
    rw [List.cons_append, got_cons]
    unfold setR
    cases hg : Lk.foldL g.1 n
    · simp [ih]
    · cases f <;> simp [ih]
theorem setR_none (n v : List UInt8) : ∀ (f : Bool) (l : List Hd), gotH l n = false → setR n v f l = l
  | _, [], _ => rfl
  | f, h :: r, hg => by
    rw [got_cons] at hg
    obtain ⟨h1, h2⟩ := Bool.or_eq_false_iff.1 hg
    rw [setR, h1, setR_none n v f r h2]; rfl
theorem setR_true_got (n v : List UInt8) : ∀ l : List Hd, gotH (setR n v true l) n = false
  | [] => rfl
  | h :: r => by
    rw [setR]
    cases hf : Lk.foldL h.1 n
    · simp [got_cons, hf, setR_true_got n v r]
    · simp [setR_true_got n v r]
theorem setR_true_vals (n v : List UInt8) (l : List Hd) : valsH (setR n v true l) n = [] := by
  have h := setR_true_got n v l
  rw [got_vals] at h
  simpa using h
theorem setR_false_vals (n v : List UInt8) : ∀ l : List Hd, gotH l n = true → valsH (setR n v false l) n = [Lk.trimL v]
  | [], h => by simp [gotH] at h
  | h :: r, hg => by
    rw [setR]
    cases hf : Lk.foldL h.1 n
    · rw [got_cons, hf] at hg
      simp [vals_cons, hf, setR_false_vals n v r (by simpa using hg)]
    · simp [vals_cons, hf, setR_true_vals]
theorem set_vals (l : List Hd) (n v : List UInt8) : valsH (setH l n v) n = [Lk.trimL v] := by
  unfold setH
  cases hg : gotH l n
  · rw [setR_none n v _ l hg, vals_append, if_neg (by simp), vals_cons]
    have : valsH l n = [] := by rw [got_vals] at hg; simpa using hg
    simp [this, fold_refl, vals_nil]
  · simp [setR_false_vals n v l hg]
theorem set_got (l : List Hd) (n v : List UInt8) : gotH (setH l n v) n = true := by rw [got_vals, set_vals]; rfl
theorem set_get (l : List Hd) (n v : List UInt8) : getH (setH l n v) n = Lk.trimL v := by unfold getH; rw [set_vals]; rfl
theorem setR_again (n v : List UInt8) : ∀ l : List Hd, gotH l n = true → setR n v false (setR n v false l) = setR n v false l
  | [], h => by simp [gotH] at h
  | h :: r, hg => by
    rw [setR]
    cases hf : Lk.foldL h.1 n
    · rw [got_cons, hf] at hg
      simp [setR, hf, setR_again n v r (by simpa using hg)]
    · simp [setR, hf, setR_none n v true _ (setR_true_got n v r)]
theorem set_set (l : List Hd) (n v : List UInt8) : setH (setH l n v) n v = setH l n v := by
  rw [show setH (setH l n v) n v = setR n v false (setH l n v) ++ (if gotH (setH l n v) n then [] else [(n, v)]) from rfl, set_got]
  simp only [if_true, List.append_nil]
  unfold setH
  cases hg : gotH l n
  · rw [setR_none n v _ l hg]
    simp [setR_snoc, fold_refl, hg, setR_none n v _ l hg]
  · simp [setR_again n v l hg]
theorem setR_other (n v o : List UInt8) (ho : Lk.foldL n o = false) : ∀ (f : Bool) (l : List Hd), valsH (setR n v f l) o = valsH l o
  | _, [] => rfl
  | f, h :: r => by
    rw [setR]
    cases hf : Lk.foldL h.1 n
    · simp [vals_cons, setR_other n v o ho f r]
    · have h2 : Lk.foldL h.1 o = false := (fold_trans hf).trans ho
      cases f <;> simp [vals_cons, h2, setR_other n v o ho true r]
theorem set_other (l : List Hd) (n v o : List UInt8) (ho : Lk.foldL n o = false) : valsH (setH l n v) o = valsH l o := by
  unfold setH
  rw [vals_append, setR_other n v o ho]
  split
  · simp [vals_nil]
  · simp [vals_cons, ho, vals_nil]
theorem set_len (l : List Hd) (n v : List UInt8) : (setH l n v).length ≤ l.length + 1 := by
  have h : ∀ (f : Bool) (l : List Hd), (setR n v f l).length ≤ l.length := by
    intro f l
    induction l generalizing f with
    | nil => simp [setR]
    | cons h r ih =>
      rw [setR]
      have h1 := ih true
      have h2 := ih f
      repeat' split
      all_goals simp; omega
  unfold setH
  have := h false l
  rw [List.length_append]
  split <;> simp <;> omega

theorem norm_norm (l : List Hd) : normL (normL l) = normL l := by
  simp [normL, normH, Lk.lower_lower, Lk.trim_trim]
theorem same_norm (l : List Hd) : sameH l (normL l) = true := by simp [sameH, norm_norm]
theorem vals_norm (l : List Hd) (n : List UInt8) : valsH (normL l) n = valsH l n := by
  induction l with
  | nil => rfl
  | cons h r ih =>
    show valsH (normH h :: normL r) n = _
    rw [vals_cons, vals_cons, ih]
    show (if Lk.foldL (Lk.lower h.1) n = true then [Lk.trimL (Lk.trimL h.2)] else []) ++ _ = _
    rw [fold_lower, Lk.trim_trim]
theorem get_norm (l : List Hd) (n : List UInt8) : getH (normL l) n = getH l n := by unfold getH; rw [vals_norm]
theorem got_norm (l : List Hd) (n : List UInt8) : gotH (normL l) n = gotH l n := by rw [got_vals, got_vals, vals_norm]
theorem ok_norm (h : Hd) : okH (normH h) = okH h := by
  simp [okH, normH, nameOk, Lk.lower_len, Lk.tokL_lower, Lk.trim_trim]
theorem check_norm (l : List Hd) : checkH (normL l) = checkH l := by
  have h : (normL l).all okH = l.all okH := by
    induction l with
    | nil => rfl
    | cons h r ih => show (normH h :: normL r).all okH = _; simp [ok_norm, ih]
  unfold checkH
  rw [h]
  simp [normL]

/-- what two lists have of a name, the one behind the other -/
theorem join_append : ∀ (a b : List (List UInt8)), a ≠ [] → b ≠ [] → Lk.joinL (a ++ b) = Lk.joinL a ++ [44, 32] ++ Lk.joinL b
  | [], _, h, _ => absurd rfl h
  | [x], b, _, hb => by
    match b, hb with
    | y :: r, _ => simp [Lk.joinL]
  | x :: y :: r, b, _, hb => by
    have := join_append (y :: r) b (by simp) hb
    simp only [List.cons_append] at this ⊢
    simp [Lk.joinL, this]
theorem vals_ne {l : List Hd} {n : List UInt8} (h : gotH l n = true) : valsH l n ≠ [] := by
  intro e; rw [got_vals, e] at h; simp at h
theorem vals_no {l : List Hd} {n : List UInt8} (h : gotH l n = false) : valsH l n = [] := by
  rw [got_vals] at h; simpa using h
theorem get_append (l m : List Hd) (n : List UInt8) : getH (l ++ m) n = if gotH l n && gotH m n then getH l n ++ [44, 32] ++ getH m n else getH l n ++ getH m n := by
  unfold getH
  rw [vals_append]
  cases h1 : gotH l n <;> cases h2 : gotH m n
  · simp [vals_no h1, vals_no h2, Lk.joinL]
  · simp [vals_no h1, Lk.joinL]
  · simp [vals_no h2, Lk.joinL]
  · simp [join_append _ _ (vals_ne h1) (vals_ne h2)]
end Go.Proofs.YtlkneapidmdpbaaGreatDoor

namespace Go.Proofs.YtlkneapidmdpbaaGreatDoor

abbrev Tx := List UInt8
theorem tx_lt_irrefl (a : Tx) : ¬ a < a := List.lt_irrefl a
theorem tx_lt_trans {a b c : Tx} (h : a < b) (k : b < c) : a < c := List.lt_trans h k
theorem tx_le_trans {a b c : Tx} (h : a ≤ b) (k : b ≤ c) : a ≤ c := List.le_trans h k
theorem tx_le_lt {a b c : Tx} (h : a ≤ b) (k : b < c) : a < c := List.lt_of_le_of_lt h k
theorem tx_total (a b : Tx) : a ≤ b ∨ b ≤ a := List.le_total a b
theorem tx_anti {a b : Tx} (h : a ≤ b) (k : b ≤ a) : a = b := List.le_antisymm h k
theorem tx_le_refl (a : Tx) : a ≤ a := List.le_refl a
theorem tx_not_lt {a b : Tx} : ¬ a < b ↔ b ≤ a := List.not_lt
theorem tx_lt_of {a b : Tx} (h : a ≤ b) (k : a ≠ b) : a < b := by
  by_cases hl : a < b
  · exact hl
  · exact absurd (tx_anti h (tx_not_lt.1 hl)) k
theorem tx_ne {a b : Tx} (h : a < b) : a ≠ b := by rintro rfl; exact tx_lt_irrefl _ h

def Up (l : List Tx) : Prop := l.Pairwise (· < ·)
theorem up_unique : ∀ {a b : List Tx}, Up a → Up b → (∀ x, x ∈ a ↔ x ∈ b) → a = b
  | [], [], _, _, _ => rfl
  | [], y :: _, _, _, h => by have := (h y).2 (by simp); simp at this
  | x :: _, [], _, _, h => by have := (h x).1 (by simp); simp at this
  | x :: a, y :: b, ha, hb, h => by
    have ha' := List.pairwise_cons.1 ha
    have hb' := List.pairwise_cons.1 hb
    have e : x = y := by
      rcases List.mem_cons.1 ((h x).1 (by simp)) with e | hx
      · exact e
      · rcases List.mem_cons.1 ((h y).2 (by simp)) with e | hy
        · exact e.symm
        · exact absurd (tx_lt_trans (hb'.1 x hx) (ha'.1 y hy)) (tx_lt_irrefl _)
    subst e
    rw [up_unique ha'.2 hb'.2 fun z => ?_]
    constructor
    · intro hz
      rcases List.mem_cons.1 ((h z).1 (List.mem_cons_of_mem _ hz)) with e | k
      · exact absurd (ha'.1 z hz) (by rw [e]; exact tx_lt_irrefl _)
      · exact k
    · intro hz
      rcases List.mem_cons.1 ((h z).2 (List.mem_cons_of_mem _ hz)) with e | k
      · exact absurd (hb'.1 z hz) (by rw [e]; exact tx_lt_irrefl _)
      · exact k

/-- neighbours that are alike left out of a row that does not fall -/
theorem compactUpTo_up (d : Array Tx) (hd : ∀ i, i + 1 < d.size → d[i]! ≤ d[i + 1]!) : ∀ m, m ≤ d.size →
    Up (Lib.compactUpTo d m) ∧ (∀ x, x ∈ Lib.compactUpTo d m ↔ ∃ j, j < m ∧ d[j]! = x) ∧ (∀ x ∈ Lib.compactUpTo d m, x ≤ d[m - 1]!)
  | 0, _ => by
    refine ⟨by simp [Lib.compactUpTo, Up], fun x => by simp [Lib.compactUpTo], fun x hx => by simp [Lib.compactUpTo] at hx⟩
  | m + 1, hm => by
    obtain ⟨h1, h2, h3⟩ := compactUpTo_up d hd m (by omega)
    rw [Lib.compactUpTo_succ]
    have hle : 0 < m → d[m - 1]! ≤ d[m]! := fun h0 => by
      have := hd (m - 1) (by omega)
      rwa [show m - 1 + 1 = m by omega] at this
    have hmem : ∀ x ∈ Lib.compactUpTo d m, x ≤ d[m]! := by
      intro x hx
      obtain ⟨j, hj, _⟩ := (h2 x).1 hx
      exact tx_le_trans (h3 x hx) (hle (by omega))
    cases hk : Lib.keeps d m
    · have hk' : ¬ (m = 0 ∨ d[m]! ≠ d[m - 1]!) := by simpa [Lib.keeps] using hk
      have hm0 : 0 < m := Nat.pos_of_ne_zero fun h => hk' (.inl h)
      have he : d[m]! = d[m - 1]! := Classical.byContradiction fun h => hk' (.inr h)
      simp only [Bool.false_eq_true, if_false, List.append_nil]
      refine ⟨h1, fun x => ?_, fun x hx => by simpa using hmem x hx⟩
      rw [h2 x]
      constructor
      · rintro ⟨j, hj, e⟩; exact ⟨j, by omega, e⟩
      · rintro ⟨j, hj, e⟩
        rcases (by omega : j < m ∨ j = m) with h | rfl
        · exact ⟨j, h, e⟩
        · exact ⟨j - 1, by omega, by rw [← he, e]⟩
    · simp only [if_true]
      have hk' : m = 0 ∨ d[m]! ≠ d[m - 1]! := by simpa [Lib.keeps] using hk
      refine ⟨?_, fun x => ?_, fun x hx => ?_⟩
      · refine List.pairwise_append.2 ⟨h1, by simp, fun x hx y hy => ?_⟩
        obtain rfl : y = d[m]! := by simpa using hy
        obtain ⟨j, hj, _⟩ := (h2 x).1 hx
        rcases hk' with h | h
        · omega
        · exact tx_le_lt (h3 x hx) (tx_lt_of (hle (by omega)) (fun e => h e.symm))
      · rw [List.mem_append, h2 x]
        constructor
        · rintro (⟨j, hj, e⟩ | h)
          · exact ⟨j, by omega, e⟩
          · exact ⟨m, by omega, (List.mem_singleton.1 h).symm⟩
        · rintro ⟨j, hj, e⟩
          rcases (by omega : j < m ∨ j = m) with h | rfl
          · exact .inl ⟨j, h, e⟩
          · exact .inr (by simp [e])
      · rcases List.mem_append.1 hx with h | h
        · simpa using hmem x h
        · obtain rfl : x = d[m]! := by simpa using h
          exact tx_le_refl _
theorem bang_at (l : List Tx) (i : Nat) (h : i < l.length) : l.toArray[i]! = l[i] := by simp [h]
theorem compact_up {l : List Tx} (hl : l.Pairwise (· ≤ ·)) : Up (Lib.compact l) ∧ ∀ x, x ∈ Lib.compact l ↔ x ∈ l := by
  obtain ⟨h1, h2, _⟩ := compactUpTo_up l.toArray (fun i hi => by
    have hi' : i + 1 < l.length := by simpa using hi
    rw [bang_at l i (by omega), bang_at l (i + 1) hi']
    exact List.pairwise_iff_getElem.1 hl i (i + 1) (by omega) hi' (by omega)) l.length (by simp)
  refine ⟨h1, fun x => ?_⟩
  rw [show (x ∈ Lib.compact l ↔ _) from h2 x]
  constructor
  · rintro ⟨j, hj, e⟩; rw [bang_at l j hj] at e; exact e ▸ List.getElem_mem hj
  · intro hx
    obtain ⟨j, hj, e⟩ := List.mem_iff_getElem.1 hx
    exact ⟨j, hj, by rw [bang_at l j hj, e]⟩
def sortT (l : List Tx) : List Tx := l.mergeSort fun x y => decide (x ≤ y)
theorem sort_up (l : List Tx) : (sortT l).Pairwise (· ≤ ·) := by
  have h := List.pairwise_mergeSort (le := fun x y : Tx => decide (x ≤ y)) (by
    intro a b c h1 h2
    simp only [decide_eq_true_eq] at h1 h2 ⊢
    exact tx_le_trans h1 h2) (by
    intro a b
    simp only [Bool.or_eq_true, decide_eq_true_eq]
    exact tx_total a b) l
  exact h.imp (by simp)
theorem sort_mem (l : List Tx) (x : Tx) : x ∈ sortT l ↔ x ∈ l := List.mem_mergeSort

/-- a text put in its place, if it is not there -/
def insU (acc : List Tx) (x : Tx) : List Tx :=
  if (acc.dropWhile (fun y => decide (y < x))).head? = some x then acc else acc.takeWhile (fun y => decide (y < x)) ++ x :: acc.dropWhile (fun y => decide (y < x))
def risL (l : List Tx) : List Tx := l.foldl insU []
theorem ris_snoc (l : List Tx) (x : Tx) : risL (l ++ [x]) = insU (risL l) x := by simp [risL]
theorem while_at (p : Tx → Bool) : ∀ (l : List Tx) (k : Nat), k ≤ l.length → (∀ j (h : j < l.length), j < k → p l[j] = true) → (∀ h : k < l.length, p l[k] = false) → l.takeWhile p = l.take k ∧ l.dropWhile p = l.drop k
  | [], k, _, _, _ => by simp
  | x :: r, 0, _, _, h => by
    have : p x = false := h (by simp)
    simp [this]
  | x :: r, k + 1, hk, h1, h2 => by
    have hx : p x = true := h1 0 (by simp) (by omega)
    obtain ⟨e1, e2⟩ := while_at p r k (by simpa using hk) (fun j hj hjk => h1 (j + 1) (by simpa using hj) (by omega)) (fun h => h2 (by simpa using h))
    simp [hx, e1, e2]
theorem ins_there {acc : List Tx} {x : Tx} {k : Nat} (hk : k < acc.length) (h1 : ∀ j (h : j < acc.length), j < k → acc[j] < x) (h2 : acc[k] = x) : insU acc x = acc := by
  obtain ⟨_, e2⟩ := while_at (fun y => decide (y < x)) acc k (by omega) (fun j h hj => by simpa using h1 j h hj) (fun h => decide_eq_false (by rw [h2]; exact tx_lt_irrefl x))
  unfold insU
  rw [e2, if_pos (by rw [List.drop_eq_getElem_cons hk, h2]; rfl)]
theorem ins_new {acc : List Tx} {x : Tx} {k : Nat} (hk : k ≤ acc.length) (h1 : ∀ j (h : j < acc.length), j < k → acc[j] < x) (h2 : ∀ h : k < acc.length, ¬ acc[k] < x ∧ acc[k] ≠ x) : insU acc x = acc.take k ++ x :: acc.drop k := by
  obtain ⟨e1, e2⟩ := while_at (fun y => decide (y < x)) acc k hk (fun j h hj => by simpa using h1 j h hj) (fun h => by simpa using (h2 h).1)
  unfold insU
  rw [e2, e1, if_neg]
  intro e
  by_cases h : k < acc.length
  · rw [List.drop_eq_getElem_cons h] at e
    exact (h2 h).2 (Option.some.inj e)
  · rw [List.drop_of_length_le (by omega)] at e; cases e
theorem ins_mem (acc : List Tx) (x y : Tx) : y ∈ insU acc x ↔ y = x ∨ y ∈ acc := by
  have hs : acc.takeWhile (fun y => decide (y < x)) ++ acc.dropWhile (fun y => decide (y < x)) = acc := List.takeWhile_append_dropWhile
  unfold insU
  split
  · rename_i h
    constructor
    · exact .inr
    · rintro (rfl | h2)
      · rw [← hs]
        refine List.mem_append_right _ ?_
        cases hd : acc.dropWhile (fun z => decide (z < y)) with
        | nil => rw [hd] at h; cases h
        | cons z r => rw [hd] at h; simp at h; simp [h]
      · exact h2
  · constructor
    · intro h
      rcases List.mem_append.1 h with h | h
      · exact .inr (by rw [← hs]; exact List.mem_append_left _ h)
      · rcases List.mem_cons.1 h with h | h
        · exact .inl h
        · exact .inr (by rw [← hs]; exact List.mem_append_right _ h)
    · rintro (rfl | h)
      · simp
      · rw [← hs] at h
        rcases List.mem_append.1 h with h | h
        · exact List.mem_append_left _ h
        · exact List.mem_append_right _ (List.mem_cons_of_mem _ h)
theorem takeWhile_lt (x : Tx) : ∀ (l : List Tx), ∀ y ∈ l.takeWhile (fun y => decide (y < x)), y < x
  | [], y, h => by simp at h
  | z :: r, y, h => by
    rw [List.takeWhile_cons] at h
    split at h
    · rcases List.mem_cons.1 h with rfl | h
      · simpa using ‹decide (y < x) = true›
      · exact takeWhile_lt x r y h
    · simp at h
theorem ins_up {acc : List Tx} (h : Up acc) (x : Tx) : Up (insU acc x) := by
  have hs : acc.takeWhile (fun y => decide (y < x)) ++ acc.dropWhile (fun y => decide (y < x)) = acc := List.takeWhile_append_dropWhile
  have hw := takeWhile_lt x acc
  have h' := h
  unfold Up at h'
  rw [← hs] at h'
  obtain ⟨p1, p2, p3⟩ := List.pairwise_append.1 h'
  unfold insU
  split
  · exact h
  · rename_i hne
    refine List.pairwise_append.2 ⟨p1, List.pairwise_cons.2 ⟨?_, p2⟩, ?_⟩
    · cases hd : acc.dropWhile (fun z => decide (z < x)) with
      | nil => intro a ha; simp at ha
      | cons z r =>
        rw [hd] at hne p2
        have hz : ¬ z < x := by
          have : (acc.dropWhile (fun z => decide (z < x))).head? = some z := by rw [hd]; rfl
          have := List.head?_dropWhile_not (fun z => decide (z < x)) acc
          rw [hd] at this
          simpa using this
        have hzx : x < z := tx_lt_of (tx_not_lt.1 hz) (fun e => hne (by simp [e]))
        intro a ha
        rcases List.mem_cons.1 ha with rfl | ha
        · exact hzx
        · exact tx_lt_trans hzx ((List.pairwise_cons.1 p2).1 a ha)
    · intro a ha b hb
      rcases List.mem_cons.1 hb with rfl | hb
      · exact hw a ha
      · exact p3 a ha b hb
theorem fold_ins (l : List Tx) : ∀ acc, Up acc → Up (l.foldl insU acc) ∧ ∀ x, x ∈ l.foldl insU acc ↔ x ∈ acc ∨ x ∈ l := by
  induction l with
  | nil => intro acc h; exact ⟨h, by simp⟩
  | cons y r ih =>
    intro acc h
    obtain ⟨h1, h2⟩ := ih (insU acc y) (ins_up h y)
    refine ⟨h1, fun x => ?_⟩
    rw [List.foldl_cons, h2 x, ins_mem, List.mem_cons]
    constructor
    · rintro ((rfl | h) | h)
      · exact .inr (.inl rfl)
      · exact .inl h
      · exact .inr (.inr h)
    · rintro (h | rfl | h)
      · exact .inl (.inr h)
      · exact .inl (.inl rfl)
      · exact .inr h
theorem ris_up (l : List Tx) : Up (risL l) := (fold_ins l [] (by simp [Up])).1
theorem ris_mem (l : List Tx) (x : Tx) : x ∈ risL l ↔ x ∈ l := by rw [show (x ∈ risL l ↔ _) from (fold_ins l [] (by simp [Up])).2 x]; simp
theorem compact_sort (l : List Tx) : Lib.compact (sortT l) = risL l :=
  up_unique (compact_up (sort_up l)).1 (ris_up l) fun x => by rw [(compact_up (sort_up l)).2 x, sort_mem, ris_mem]
theorem ins_len (acc : List Tx) (x : Tx) : (insU acc x).length ≤ acc.length + 1 := by
  have hs := congrArg List.length (List.takeWhile_append_dropWhile (p := fun y => decide (y < x)) (l := acc))
  unfold insU
  split
  · omega
  · simp only [List.length_append, List.length_cons] at hs ⊢; omega
theorem fold_ins_len (l : List Tx) : ∀ acc, (l.foldl insU acc).length ≤ acc.length + l.length := by
  induction l with
  | nil => intro acc; simp
  | cons y r ih => intro acc; have := ih (insU acc y); have := ins_len acc y; simp only [List.foldl_cons, List.length_cons]; omega
theorem ris_len (l : List Tx) : (risL l).length ≤ l.length := by have := fold_ins_len l []; simpa [risL] using this

def namesH (l : List Hd) : List Tx := risL (l.map (fun h => Lk.lower h.1))
theorem names_norm (l : List Hd) : namesH (normL l) = namesH l := by
  unfold namesH normL
  rw [List.map_map]
  congr 1
  apply List.map_congr_left
  intro h _
  exact Lk.lower_lower h.1
theorem names_len (l : List Hd) : (namesH l).length ≤ l.length := by have := ris_len (l.map (fun h => Lk.lower h.1)); simpa [namesH] using this
theorem names_mem (l : List Hd) (x : Tx) : x ∈ namesH l ↔ ∃ h ∈ l, Lk.lower h.1 = x := by unfold namesH; rw [ris_mem]; simp
theorem names_got (l : List Hd) (n : Tx) : gotH l n = decide (Lk.lower n ∈ namesH l) := by
  rw [Bool.eq_iff_iff, decide_eq_true_eq, names_mem]
  simp [gotH, Lk.foldL]
theorem names_each {l : List Hd} {x : Tx} (h : x ∈ namesH l) : gotH l x = true := by
  obtain ⟨g, hg, e⟩ := (names_mem l x).1 h
  unfold gotH
  rw [List.any_eq_true]
  exact ⟨g, hg, by rw [← e, fold_comm, fold_lower]; exact fold_refl _⟩
end Go.Proofs.YtlkneapidmdpbaaGreatDoor

namespace Go.Proofs.YtlkneapidmdpbaaGreatDoor
open Go.RowKit

/-- a header's two texts, as bytes, and back -/
def hd (x : ByteArray × ByteArray) : Hd := (x.1.data.toList, x.2.data.toList)
def mkp (h : Hd) : ByteArray × ByteArray := (mk h.1, mk h.2)
theorem hd_mkp (h : Hd) : hd (mkp h) = h := by simp [hd, mkp, mk_data]
theorem mkp_hd (x : ByteArray × ByteArray) : mkp (hd x) = x := by simp [hd, mkp, mk_eq]

/-- a slice of headers: what its cells hold -/
def PRow (w : World) (B : Nat) (A : Option Addr) (xs : List (ByteArray × ByteArray)) : Prop :=
  ∀ j x, xs[j]? = some x → ∃ ad, A = some ad ∧ ad.block < B ∧ w.cell? (ad.add (j * 2)) = some (.string x.1) ∧ w.cell? ⟨(ad.add (j * 2)).block, (ad.add (j * 2)).off + 1, none⟩ = some (.string x.2)
theorem PRow.below {w w' : World} {B : Nat} {A : Option Addr} {xs : List (ByteArray × ByteArray)} (h : PRow w B A xs) (hb : Below B w w') : PRow w' B A xs := by
  intro j x hj
  obtain ⟨ad, e, hB, hc, hd⟩ := h j x hj
  exact ⟨ad, e, hB, (hb.cell (p := ad.add (j * 2)) (by rw [block_add]; exact hB)).trans hc, (hb.cell (p := ⟨(ad.add (j * 2)).block, (ad.add (j * 2)).off + 1, none⟩) (by show (ad.add (j * 2)).block < B; rw [block_add]; exact hB)).trans hd⟩
theorem PRow.mono {w : World} {B B' : Nat} {A : Option Addr} {xs : List (ByteArray × ByteArray)} (h : PRow w B A xs) (hb : B ≤ B') : PRow w B' A xs := by
  intro j x hj
  obtain ⟨ad, e, hB, hc⟩ := h j x hj
  exact ⟨ad, e, by omega, hc⟩
theorem PRow.nil (w : World) (B : Nat) (A : Option Addr) : PRow w B A [] := fun j x h => by simp at h

def HArg (w : World) (a : Option Addr) (c : Nat) (xs : List (ByteArray × ByteArray)) : Prop :=
  PRow w w.heap.size a xs ∧ (∀ x ∈ xs, x.1.size ≤ maxLen ∧ x.2.size ≤ maxLen) ∧ xs.length ≤ c ∧ c ≤ maxLen ∧ (a = none → c = 0)
theorem HArg.none_ (w : World) : HArg w none 0 [] := ⟨fun j x h => by simp at h, by simp, Nat.le_refl _, Nat.zero_le _, fun _ => rfl⟩

/-- a row of headers of the call's own -/
def hcs (l : List Hd) : List Value := l.flatMap (fun h => [sv h.1, sv h.2])
theorem hcs_cons (h : Hd) (l : List Hd) : hcs (h :: l) = sv h.1 :: sv h.2 :: hcs l := rfl
theorem hcs_append (l m : List Hd) : hcs (l ++ m) = hcs l ++ hcs m := by simp [hcs]
theorem hcs_len (l : List Hd) : (hcs l).length = l.length * 2 := by
  induction l with
  | nil => rfl
  | cons h r ih => rw [hcs_cons, List.length_cons, List.length_cons, ih, List.length_cons]; omega
theorem hcs_at : ∀ (l : List Hd) (j : Nat) (h : j < l.length), (hcs l)[j * 2]? = some (sv l[j].1) ∧ (hcs l)[j * 2 + 1]? = some (sv l[j].2)
  | h :: r, 0, _ => ⟨rfl, rfl⟩
  | h :: r, j + 1, hj => by
    have := hcs_at r j (by simpa using hj)
    rw [hcs_cons, show (j + 1) * 2 = j * 2 + 1 + 1 by omega]
    simpa using this
theorem hcs_one (l : List Hd) : ∀ u ∈ hcs l, u.oneCell' = true := by
  intro u hu
  simp only [hcs, List.mem_flatMap] at hu
  obtain ⟨h, _, hu⟩ := hu
  simp at hu
  rcases hu with rfl | rfl <;> rfl
def HdRow (w : World) (base : Nat) (v : Value) (l : List Hd) : Prop := w.ownsRow base 57 2 v l.length (hcs l)
theorem HdRow.below {w w' : World} {base : Nat} {v : Value} {l : List Hd} (h : HdRow w base v l) (hb : Below w.heap.size w w') : HdRow w' base v l := ownsRow_below h hb
theorem HdRow.nil (w : World) (base : Nat) : HdRow w base (.slice none 0 0) [] := World.ownsRow_nil _ _ _ _
theorem HdRow.base {w : World} {b b' : Nat} {v : Value} {l : List Hd} (h : HdRow w b v l) (hb : b' ≤ b) : HdRow w b' v l := ownsRow_base h hb
theorem add_own (g k : Nat) : (⟨g, 0, none⟩ : Addr).add k = ⟨g, k, none⟩ := by
  unfold Addr.add; split
  · subst_vars; rfl
  · simp
theorem HdRow.prow {w : World} {base : Nat} {v : Value} {l : List Hd} (h : HdRow w base v l) : ∃ (A : Option Addr) (cap : Nat), v = .slice A l.length cap ∧ l.length ≤ cap ∧ cap ≤ maxLen ∧ PRow w w.heap.size A (l.map mkp) := by
  have h0 := h
  unfold HdRow at h0
  rcases h0.2 with ⟨e1, e2⟩ | ⟨g, cap, cur, e1, _, e3, e4, e5, _⟩
  · have : l = [] := List.length_eq_zero_iff.1 e2
    subst this
    exact ⟨none, 0, e1, Nat.le_refl _, Nat.zero_le _, PRow.nil _ _ _⟩
  · refine ⟨_, cap, e1, e4, e5, ?_⟩
    intro j x hj
    have hlt : g < w.heap.size := by
      rcases Nat.lt_or_ge g w.heap.size with h | h
      · exact h
      · rw [Array.getElem?_eq_none h] at e3; cases e3
    rw [List.getElem?_map] at hj
    cases hl : l[j]? with
    | none => rw [hl] at hj; cases hj
    | some y =>
      rw [hl] at hj
      obtain rfl : mkp y = x := by simpa using hj
      obtain ⟨hjl, hy⟩ := List.getElem?_eq_some_iff.1 hl
      obtain ⟨c1, c2⟩ := hcs_at l j hjl
      rw [hy] at c1 c2
      have k1 := h0.cells (g := g) (by rw [e1]; rfl) _ _ c1
      have k2 := h0.cells (g := g) (by rw [e1]; rfl) _ _ c2
      refine ⟨_, rfl, hlt, k1, ?_⟩
      rw [add_own] at k2 ⊢
      exact k2
theorem add_pair (a : Addr) (k : Nat) : a.add (k * 2 + 1) = ⟨(a.add (k * 2)).block, (a.add (k * 2)).off + 1, none⟩ := by
  unfold Addr.add
  rw [if_neg (by omega)]
  split
  · rename_i h; rw [h]
  · rfl
theorem sv_data (x : ByteArray) : sv x.data.toList = .string x := by rw [sv_mk, mk_eq]
theorem PRow.cells {w : World} {B : Nat} {ad : Addr} {xs : List (ByteArray × ByteArray)} (h : PRow w B (some ad) xs) : ∀ j u, (hcs (xs.map hd))[j]? = some u → w.cell? (ad.add j) = some u := by
  intro j u hj
  have hlt : j < xs.length * 2 := by
    have := (List.getElem?_eq_some_iff.1 hj).1
    rw [hcs_len] at this; simpa using this
  obtain ⟨k, hk⟩ : ∃ k, j = k * 2 ∨ j = k * 2 + 1 := ⟨j / 2, by omega⟩
  have hkl : k < xs.length := by omega
  obtain ⟨c1, c2⟩ := hcs_at (xs.map hd) k (by simpa using hkl)
  obtain ⟨ad', e, _, d1, d2⟩ := h k xs[k] (List.getElem?_eq_getElem hkl)
  obtain rfl : ad = ad' := by simpa using e
  rcases hk with rfl | rfl
  · rw [c1] at hj
    rw [d1, ← hj, List.getElem_map]
    exact congrArg some (sv_data _).symm
  · rw [c2] at hj
    rw [add_pair, d2, ← hj, List.getElem_map]
    exact congrArg some (sv_data _).symm
theorem HdRow.more {w : World} {base : Nat} {v : Value} {l : List Hd} {a b : ByteArray} (h : w.ownsRow base 57 2 v (l.length + 1) (hcs l ++ [.string a, .string b])) : HdRow w base v (l ++ [(a.data.toList, b.data.toList)]) := by
  unfold HdRow
  rw [List.length_append, hcs_append]
  have : hcs [(a.data.toList, b.data.toList)] = [.string a, .string b] := by
    show [sv _, sv _] = _
    rw [sv_mk, sv_mk, mk_eq, mk_eq]
  rw [this]
  exact h
theorem infoH : (Tryz.prog.info? 57).map (fun i => (i.zero, i.size, i.bytes)) = some (some (.agg #[.string ⟨#[]⟩, .string ⟨#[]⟩]), 2, 32) := by kernel_rfl

theorem hcs_set : ∀ (l : List Hd) (k : Nat) (h : Hd), ((hcs l).set (k * 2) (sv h.1)).set (k * 2 + 1) (sv h.2) = hcs (l.set k h)
  | [], _, _ => rfl
  | x :: r, 0, h => rfl
  | x :: r, k + 1, h => by
    rw [hcs_cons, show (k + 1) * 2 = k * 2 + 1 + 1 by omega, List.set_cons_succ, List.set_cons_succ, List.set_cons_succ, List.set_cons_succ, hcs_set r k h, List.set_cons_succ, hcs_cons]
theorem HdRow.slot {w : World} {base g n cap : Nat} {l : List Hd} (h : HdRow w base (.slice (some ⟨g, 0, none⟩) n cap) l) (hn : n = l.length) (k : Nat) (hk : k < l.length) :
    w.cell? ⟨g, k * 2, none⟩ = some (.string (mk l[k].1)) ∧ w.cell? ⟨g, k * 2 + 1, none⟩ = some (.string (mk l[k].2)) ∧ w.frozen? ⟨g, k * 2, none⟩ = false ∧ w.frozen? ⟨g, k * 2 + 1, none⟩ = false := by
  subst hn
  unfold HdRow at h
  obtain ⟨c1, c2⟩ := hcs_at l k hk
  exact ⟨(h.cellAt (k * 2) (by omega)).trans c1, (h.cellAt (k * 2 + 1) (by omega)).trans c2, h.frozenAt _, h.frozenAt _⟩
theorem HdRow.set {w : World} {base g n cap : Nat} {l : List Hd} (h : HdRow w base (.slice (some ⟨g, 0, none⟩) n cap) l) (hn : n = l.length) (k : Nat) (a b : ByteArray) :
    HdRow ((w.setCell ⟨g, k * 2, none⟩ (.string a)).setCell ⟨g, k * 2 + 1, none⟩ (.string b)) base (.slice (some ⟨g, 0, none⟩) n cap) (l.set k (a.data.toList, b.data.toList)) := by
  subst hn
  unfold HdRow at h ⊢
  have h1 := ((h.stored (k * 2) (.string a)).1.stored (k * 2 + 1) (.string b)).1
  rw [List.length_set, ← hcs_set]
  rw [show sv (a.data.toList, b.data.toList).1 = .string a by rw [sv_mk]; exact congrArg _ (mk_eq a), show sv (a.data.toList, b.data.toList).2 = .string b by rw [sv_mk]; exact congrArg _ (mk_eq b)]
  exact h1
theorem hcs_rep (n : Nat) : hcs (List.replicate n ([], [])) = List.replicate (n * 2) (Value.string ⟨#[]⟩) := by
  induction n with
  | zero => rfl
  | succ n ih => rw [List.replicate_succ, hcs_cons, ih, show (n + 1) * 2 = n * 2 + 1 + 1 by omega, List.replicate_succ, List.replicate_succ]; rfl
theorem made_two (n : Nat) : (madeCells #[Value.string ⟨#[]⟩, Value.string ⟨#[]⟩] (n * 2)).toList = hcs (List.replicate n ([], [])) := by
  rw [hcs_rep]
  apply List.ext_getElem
  · simp [madeCells]
  · intro j h1 h2
    simp only [madeCells, Array.toList_map, List.getElem_map, List.getElem_replicate, Array.toList_range, List.getElem_range]
    have : j % 2 = 0 ∨ j % 2 = 1 := by omega
    show (#[Value.string ⟨#[]⟩, Value.string ⟨#[]⟩] : Array Value)[j % 2]! = _
    rcases this with e | e <;> rw [e] <;> rfl
def greatGo : Nat → List (ByteArray × ByteArray) → Bool
  | n, [] => decide (12000 < n)
  | n, h :: r => if 100 < h.1.size || 5000 < h.2.size then true else greatGo (n + h.2.size) r

set_option maxHeartbeats 1000000 in
theorem Great_any (A : Option Addr) (len c B : Nat) (xs : List (ByteArray × ByteArray)) (w : World) (hlen : len = xs.length) (hx : PRow w B A xs) (hl : xs.length ≤ maxLen) (hs : ∀ x ∈ xs, x.1.size ≤ maxLen ∧ x.2.size ≤ maxLen) :
    Calls Tryz.prog 9 #[.slice A len c] w fun e w' => e = .returned (.bool (decide (40 < xs.length) || greatGo 0 xs)) ∧ w = w' := by
  subst hlen
  unfold maxLen at hl
  have HX := Lib.hid hx
  have HS := Lib.hid hs
  clear hx hs
  by_cases h40 : 40 < xs.length
  · go_enter Tryz.func9, Tryz.ntmps9
    go_wp2
    go_ret
    exact ⟨ret_bool (by simp [h40]), rfl⟩
  go_enter Tryz.func9, Tryz.ntmps9
  go_wp2
  go_loop [3, 4] (fun m i => ∃ k q : Nat, k ≤ xs.length ∧ i = .int .i64 k ∧ m = .int .i64 q ∧ q ≤ 5000 * k ∧ greatGo 0 xs = greatGo q (xs.drop k)) (fun _ i => xs.length - (intOf i).toNat)
  case atStart => exact ⟨0, 0, Nat.zero_le _, rfl, rfl, Nat.le_refl _, rfl⟩
  case round =>
    obtain ⟨k, q, hk, rfl, rfl, hq, he⟩ := hrel
    have HE := Lib.hid he
    clear he
    by_cases hlt : k < xs.length
    · obtain ⟨ad, hA, hB, hc1, hc2⟩ := HX.out k xs[k] (List.getElem?_eq_getElem hlt)
      have hz := HS.out xs[k] (List.getElem_mem hlt)
      unfold maxLen at hz
      have HD : Hid (xs.drop k = xs[k] :: xs.drop (k + 1)) := List.drop_eq_getElem_cons hlt
      generalize xs[k] = x at *
      obtain ⟨x1, x2⟩ := x
      subst hA
      by_cases h1 : 100 < x1.size
      · go_wp2
        go_ret
        exact ⟨ret_bool (by rw [HE.out, HD.out, greatGo]; simp [h1]), rfl⟩
      by_cases h2 : 5000 < x2.size
      · go_wp2
        go_ret
        exact ⟨ret_bool (by rw [HE.out, HD.out, greatGo]; simp [h2]), rfl⟩
      go_wp2
      go_round
      case rel => exact ⟨k + 1, q + x2.size, by omega, by go_num, by go_num, by omega, by rw [HE.out, HD.out, greatGo, if_neg (by simp; omega)]⟩
      case measure => simp [intOf]; omega
    · go_wp2
      go_ret
      exact ⟨ret_bool (by rw [HE.out, List.drop_of_length_le (by omega)]; simp [greatGo]; omega), rfl⟩
end Go.Proofs.YtlkneapidmdpbaaGreatDoor

namespace Go.Proofs.YtlkneapidmdpbaaGreatDoor
open Go.RowKit

/-- block g holds a header -/
structure HdAt (W : World) (g : Nat) (a b : ByteArray) : Prop where
  c0 : W.cell? ⟨g, 0, none⟩ = some (.string a)
  c1 : W.cell? ⟨g, 1, none⟩ = some (.string b)
theorem HdAt.below {W W' : World} {g B : Nat} {a b : ByteArray} (o : HdAt W g a b) (hb : Below B W W') (hg : g < B) : HdAt W' g a b :=
  ⟨(hb.cell hg).trans o.c0, (hb.cell hg).trans o.c1⟩
theorem HdAt.new (w : World) (a b : ByteArray) (t : TypeId) : HdAt (w.alloc (.cells #[.string a, .string b] t)) w.heap.size a b := ⟨by simp, by simp⟩
theorem HdAt.drew {W : World} {g : Nat} {a b : ByteArray} (o : HdAt W g a b) : HdAt W.drew g a b := ⟨o.c0, o.c1⟩
theorem HdAt.lt {W : World} {g : Nat} {a b : ByteArray} (o : HdAt W g a b) : g < W.heap.size := block_of_cell o.c0
structure Own2 (W : World) (g : Nat) : Prop where
  f0 : W.frozen? ⟨g, 0, none⟩ = false
  f1 : W.frozen? ⟨g, 1, none⟩ = false
theorem Own2.below {W W' : World} {g B : Nat} (o : Own2 W g) (hb : Below B W W') (hg : g < B) : Own2 W' g := ⟨(hb.frozen hg).trans o.f0, (hb.frozen hg).trans o.f1⟩
theorem Own2.new (w : World) (cs : Array Value) (t : TypeId) : Own2 (w.alloc (.cells cs t)) w.heap.size := ⟨by simp, by simp⟩
theorem set2_hd {W : World} {g : Nat} {a b : ByteArray} (h : HdAt W g a b) (c d : ByteArray) : HdAt ((W.setCell ⟨g, 0, none⟩ (.string c)).setCell ⟨g, 1, none⟩ (.string d)) g c d := by
  have d1 : (W.setCell ⟨g, 0, none⟩ (.string c)).cell? ⟨g, 1, none⟩ = some (.string b) := by rw [World.cell?_setCell_other _ _ _ _ (by simp)]; exact h.c1
  refine ⟨?_, ?_⟩
  · rw [World.cell?_setCell_other _ _ _ _ (by simp), World.cell?_setCell_same _ _ _ h.c0]
  · rw [World.cell?_setCell_same _ _ _ d1]
theorem set2_below {B : Nat} {w W : World} {g : Nat} (h : Below B w W) (hg : B ≤ g) (a b : Value) : Below B w ((W.setCell ⟨g, 0, none⟩ a).setCell ⟨g, 1, none⟩ b) :=
  (h.setCell (p := ⟨g, 0, none⟩) hg _).setCell (p := ⟨g, 1, none⟩) hg _

set_option maxHeartbeats 1000000 in
theorem hnorm_any (x1 x2 : ByteArray) (w : World) (h1 : x1.size ≤ maxLen) (h2 : x2.size ≤ maxLen) :
    Calls Tryz.prog 109 #[.agg #[.string x1, .string x2]] w fun e w' => e = .returned (.agg #[.string (mk (Lk.lower x1.data.toList)), .string (mk (Lk.trimL x2.data.toList))]) ∧ Below w.heap.size w w' := by
  obtain ⟨a, ha⟩ : ∃ a : ByteArray, a = ⟨(Lk.lower x1.data.toList).toArray⟩ := ⟨_, rfl⟩
  obtain ⟨b, hb⟩ : ∃ b : ByteArray, b = ⟨(Lk.trimL x2.data.toList).toArray⟩ := ⟨_, rfl⟩
  rw [show mk (Lk.lower x1.data.toList) = a from ha.symm, show mk (Lk.trimL x2.data.toList) = b from hb.symm]
  have HLA := Lib.hid ha
  have HLB := Lib.hid hb
  clear ha hb
  obtain ⟨W, hW⟩ : ∃ W, W = ((w.alloc (Obj.cells #[.string x1, .string x2] 57)).alloc (Obj.cells #[.string { data := #[] }, .string { data := #[] }] 57)) := ⟨_, rfl⟩
  have HA : Hid (HdAt W w.heap.size x1 x2) := by
    rw [hW]; exact HdAt.below (HdAt.new w x1 x2 _) ((Below.refl _ _).alloc (Nat.le_refl _) _) (by simp)
  have HR : Hid (HdAt W (w.heap.size + 1) ⟨#[]⟩ ⟨#[]⟩) := by
    show HdAt W _ _ _; rw [hW]; have := HdAt.new (w.alloc (Obj.cells #[.string x1, .string x2] 57)) ⟨#[]⟩ ⟨#[]⟩ 57; simpa using this
  have HO : Hid (Own2 W (w.heap.size + 1)) := by
    show Own2 W _; rw [hW]; have := Own2.new (w.alloc (Obj.cells #[.string x1, .string x2] 57)) #[.string { data := #[] }, .string { data := #[] }] 57; simpa using this
  have HB : Hid (Below w.heap.size w W) := by
    rw [hW]; exact ((Below.refl _ _).alloc (Nat.le_refl _) _).alloc (by simp) _
  go_enter Tryz.func109, Tryz.ntmps109
  go_wp2_with fail
  rw [← hW]
  clear hW
  refine mix_start (fun W => HdAt W w.heap.size x1 x2) (by kernel_rfl) ?_
  have hne : Nonempty (Held (fun W => HdAt W w.heap.size x1 x2)) := ⟨⟨_, HA.out⟩⟩
  have hx0 : ∀ q : Held (fun W => HdAt W w.heap.size x1 x2), q.w.cell? ⟨w.heap.size, 0, none⟩ = some (.string x1) := fun q => q.h.c0
  have hx1 : ∀ q : Held (fun W => HdAt W w.heap.size x1 x2), q.w.cell? ⟨w.heap.size, 1, none⟩ = some (.string x2) := fun q => q.h.c1
  refine mix_seg [0, 1, 3, 4] (by kernel_rfl) HA.out.drew ?_
  simp only [segOf, pickOps, pickOp]
  repeat (go_big_quiet_step (fail))
  refine wpQuiet_nil ?_
  refine mix_run 2 (by kernel_rfl) ?_
  simp only [segOf, pickOps, pickOp]
  go_wp2_with fail
  refine (Lower_any _ _ h1).mono ?_
  rintro e w1 ⟨rfl, hb1⟩
  rw [← HLA.out]
  have ha1 : HdAt w1 w.heap.size x1 x2 := HA.out.drew.below hb1 HA.out.lt
  have HR1 : Hid (HdAt w1 (w.heap.size + 1) ⟨#[]⟩ ⟨#[]⟩) := HR.out.drew.below hb1 HR.out.lt
  have HO1 : Hid (Own2 w1 (w.heap.size + 1)) := Own2.below (W := W.drew) ⟨HO.out.f0, HO.out.f1⟩ hb1 HR.out.lt
  have HB1 : Hid (Below w.heap.size w w1) := HB.out.drew.trans (hb1.mono HB.out.size)
  clear hb1
  go_wp2_with fail
  refine MixPost.normal ha1 ?_
  refine mix_run 5 (by kernel_rfl) ?_
  simp only [segOf, pickOps, pickOp]
  go_wp2_with fail
  refine (Trim_any _ _ h2).mono ?_
  rintro e w' ⟨rfl, rfl⟩
  rw [← HLB.out]
  go_wp2_with fail
  refine MixPost.normal ha1 ?_
  refine mix_run 6 (by kernel_rfl) ?_
  simp only [segOf, pickOps, pickOp]
  go_wp2_with fail
  refine MixPost.normal ha1 ?_
  refine mix_run 7 (by kernel_rfl) ?_
  simp only [segOf, pickOps, pickOp]
  obtain ⟨r0, r1⟩ := HR1.out
  obtain ⟨f0, f1⟩ := HO1.out
  go_wp2_with fail
  obtain ⟨q0, q1⟩ := set2_hd HR1.out a b
  have HB2 := Lib.hid (set2_below HB1.out (g := w.heap.size + 1) (by omega) (.string a) (.string b))
  refine MixPost.normal (HdAt.below ha1 (set2_below (Below.refl (w.heap.size + 1) _) (Nat.le_refl _) _ _) (by omega)) ?_
  refine mix_done (by kernel_rfl) ?_
  go_wp2_with fail
  refine bodyPost_ret (v := .agg #[.string (a), .string (b)]) ?_ rfl ?_
  · simp [results, Tryz.results109, go_sem, q0, q1]
  · exact ⟨rfl, HB2.out⟩

set_option maxHeartbeats 1000000 in
theorem HNorm_any (A : Option Addr) (len c B : Nat) (xs : List (ByteArray × ByteArray)) (w : World) (hlen : len = xs.length) (hB : B ≤ w.heap.size) (hx : PRow w B A xs) (hl : xs.length ≤ 1000000000) (hs : ∀ x ∈ xs, x.1.size ≤ maxLen ∧ x.2.size ≤ maxLen) :
    Calls Tryz.prog 63 #[.slice A len c] w fun e w' => ∃ v, e = .returned v ∧ HdRow w' w.heap.size v (normL (xs.map hd)) ∧ Below w.heap.size w w' := by
  subst hlen
  have HX := Lib.hid hx
  have HS := Lib.hid hs
  clear hx hs
  obtain ⟨i0, hi, hz0, hz1, hz2⟩ := info_parts infoH
  go_enter Tryz.func63, Tryz.ntmps63
  go_wp2_with (at_make; refine wpList_make_full _ rfl _ _ 22 rfl w.heap.size 57 i0 (.agg #[.string ⟨#[]⟩, .string ⟨#[]⟩]) 2 Tryz.underlying22 hi hz0 hz1 .i64 .i64 _ _ xs.length rfl rfl rfl rfl ?c1 ?c2 ?c3 ?_)
  case c1 => rw [hz2]; omega
  case c2 => unfold maxLen; omega
  case c3 => exact Nat.le_refl _
  intro w1 hown hg
  have hr0 : HdRow w1 w.heap.size (.slice (some ⟨w.heap.size, 0, none⟩) xs.length xs.length) (List.replicate xs.length ([], [])) := by
    have h := hown
    rw [made_two] at h
    unfold HdRow
    rw [List.length_replicate]
    exact h
  have hbe : Below w.heap.size w w1 := (Below.refl _ _).grown hg (Nat.le_refl _) (by intro k hk; cases hk)
  have HR := Lib.hid hr0
  have BE := Lib.hid hbe
  clear hown hg hr0 hbe
  go_wp2_with fail
  go_loopw [11] (fun i wr => ∃ k : Nat, k ≤ xs.length ∧ i = .int .i64 k ∧ HdRow wr w.heap.size (.slice (some ⟨w.heap.size, 0, none⟩) xs.length xs.length) (normL ((xs.take k).map hd) ++ List.replicate (xs.length - k) ([], [])) ∧ Below w.heap.size w wr) (fun i _ => xs.length - (intOf i).toNat)
  case atStart => exact ⟨0, Nat.zero_le _, rfl, HR.out, BE.out⟩
  case round =>
    obtain ⟨k, hk, rfl, hr, hb⟩ := hrel
    have HRR := Lib.hid hr
    have HBB := Lib.hid hb
    clear hr hb
    by_cases hlt : k < xs.length
    · obtain ⟨ad, hA, _, hc1, hc2⟩ := ((HX.out.mono hB).below HBB.out) k xs[k] (List.getElem?_eq_getElem hlt)
      have hz := HS.out xs[k] (List.getElem_mem hlt)
      have HD : Hid (xs.take (k + 1) = xs.take k ++ [xs[k]]) := List.take_succ_eq_append_getElem hlt
      generalize xs[k] = x at *
      obtain ⟨x1, x2⟩ := x
      subst hA
      go_wp2_with fail
      refine (hnorm_any x1 x2 _ hz.1 hz.2).mono ?_
      rintro e w3 ⟨rfl, hb3⟩
      have hb4 : Below wr.heap.size wr w3 := ((Below.refl _ _).alloc (Nat.le_refl _) _).trans (hb3.mono (by simp))
      have HR3 := Lib.hid (HRR.out.below hb4)
      have HB3 : Hid (Below w.heap.size w w3) := HBB.out.trans (hb4.mono HBB.out.size)
      clear hb3 hb4 hc1 hc2
      obtain ⟨a, ha⟩ : ∃ a : ByteArray, a = mk (Lk.lower x1.data.toList) := ⟨_, rfl⟩
      obtain ⟨b, hb⟩ : ∃ b : ByteArray, b = mk (Lk.trimL x2.data.toList) := ⟨_, rfl⟩
      rw [← ha, ← hb]
      have HLen : Hid ((normL ((xs.take k).map hd) ++ List.replicate (xs.length - k) ([], [])).length = xs.length) := by
        show _ = _; simp [normL]; omega
      obtain ⟨s1, s2, s3, s4⟩ := HR3.out.slot HLen.out.symm k (by rw [HLen.out]; exact hlt)
      generalize mk ((normL ((xs.take k).map hd) ++ List.replicate (xs.length - k) ([], []))[k]'(by rw [HLen.out]; exact hlt)).1 = o1 at *
      generalize mk ((normL ((xs.take k).map hd) ++ List.replicate (xs.length - k) ([], []))[k]'(by rw [HLen.out]; exact hlt)).2 = o2 at *
      have HN := Lib.hid (HR3.out.set HLen.out.symm k a b)
      have HNB : Hid (Below w.heap.size w ((w3.setCell ⟨w.heap.size, k * 2, none⟩ (.string a)).setCell ⟨w.heap.size, k * 2 + 1, none⟩ (.string b))) :=
        (HB3.out.setCell (p := ⟨w.heap.size, k * 2, none⟩) (Nat.le_refl _) _).setCell (p := ⟨w.heap.size, k * 2 + 1, none⟩) (Nat.le_refl _) _
      have HE : Hid ((normL ((xs.take k).map hd) ++ List.replicate (xs.length - k) ([], [])).set k (a.data.toList, b.data.toList) = normL ((xs.take (k + 1)).map hd) ++ List.replicate (xs.length - (k + 1)) ([], [])) := by
        show _ = _
        have hl1 : (normL ((xs.take k).map hd)).length = k := by simp [normL]; omega
        rw [HD.out, List.set_append_right _ _ (by omega), hl1, Nat.sub_self, show xs.length - k = (xs.length - (k + 1)) + 1 by omega, List.replicate_succ, List.set_cons_zero]
        simp [normL, normH, hd, ha, hb, mk_data]
      clear ha hb
      go_wp2
      go_roundw
      case rel => exact ⟨k + 1, by omega, by go_num, by rw [← HE.out]; exact HN.out, HNB.out⟩
      case measure => simp [intOf]; omega
    · obtain rfl : k = xs.length := by omega
      go_wp2
      go_ret
      refine ⟨_, rfl, ?_, HBB.out⟩
      have := HRR.out
      rw [Nat.sub_self, List.take_length] at this
      simpa using this
end Go.Proofs.YtlkneapidmdpbaaGreatDoor

namespace Go.Proofs.YtlkneapidmdpbaaGreatDoor
open Go.RowKit

set_option maxHeartbeats 1000000 in
theorem isName_any (s : ByteArray) (w : World) (hs : s.size ≤ maxLen) :
    Calls Tryz.prog 186 #[.string s] w fun e w' => e = .returned (.bool (nameOk s.data.toList)) ∧ w = w' := by
  have HS : Hid (s.data.toList.length = s.size) := by show _ = _; simp
  by_cases h : s.size ≤ 64
  · have HE : Hid (nameOk s.data.toList = Lk.tokL s.data.toList) := by show _ = _; unfold nameOk; rw [HS.out]; simp [h]
    go_enter Tryz.func186, Tryz.ntmps186
    go_wp2_with fail
    refine (Token_any s _ hs).mono ?_
    rintro e w' ⟨rfl, rfl⟩
    go_wp2
    go_ret
    exact ⟨ret_bool HE.out.symm, rfl⟩
  · have HE : Hid (nameOk s.data.toList = false) := by show _ = _; unfold nameOk; rw [HS.out]; simp; omega
    go_enter Tryz.func186, Tryz.ntmps186
    go_wp2
    go_ret
    exact ⟨ret_bool HE.out.symm, rfl⟩

theorem bad_any (l : List UInt8) : Lib.containsAny l [0, 10, 13] = badB l := by
  rw [containsAny_eq]
  unfold badB Lk.inL
  induction l with
  | nil => rfl
  | cons b r ih =>
    simp only [List.any_cons] at ih ⊢
    rw [ih]
    have h : ∀ c : UInt8, ([0, 10, 13] : List UInt8).contains c = (((c.toNat : Int) == 0) || ((c.toNat : Int) == 10) || ((c.toNat : Int) == 13)) := by
      intro c
      rw [Bool.eq_iff_iff]
      simp only [List.contains_cons, List.contains_nil, Bool.or_false, Bool.or_eq_true, beq_iff_eq]
      have e : ∀ k : Nat, k < 256 → (c = UInt8.ofNat k ↔ (c.toNat : Int) = k) := by
        intro k hk
        constructor
        · rintro rfl; simp; omega
        · intro h; apply UInt8.toNat_inj.1; simp; omega
      have e0 : (c = 0) = ((c.toNat : Int) = 0) := propext (e 0 (by omega))
      have e1 : (c = 10) = ((c.toNat : Int) = 10) := propext (e 10 (by omega))
      have e2 : (c = 13) = ((c.toNat : Int) = 13) := propext (e 13 (by omega))
      rw [e0, e1, e2]
      omega
    rw [h]
    cases ((b.toNat : Int) == 0) <;> cases ((b.toNat : Int) == 10) <;> cases ((b.toNat : Int) == 13) <;> simp
theorem asc_bad : Asc ⟨#[0, 10, 13]⟩ := by intro b hb; simp at hb; rcases hb with rfl | rfl | rfl <;> decide

set_option maxHeartbeats 1000000 in
theorem isValue_any (s : ByteArray) (w : World) :
    Calls Tryz.prog 187 #[.string s] w fun e w' => e = .returned (.bool (valOk s.data.toList)) ∧ Below w.heap.size w w' := by
  have HS : Hid (s.data.toList.length = s.size) := by show _ = _; simp
  by_cases h : s.size ≤ 4096
  · have HE : Hid (valOk s.data.toList = !Lib.containsAny s.data.toList (ByteArray.mk #[0, 10, 13]).data.toList) := by
      show _ = _; rw [show (ByteArray.mk #[0, 10, 13]).data.toList = [0, 10, 13] from rfl, bad_any]; unfold valOk; rw [HS.out]; simp [h]
    go_enter Tryz.func187, Tryz.ntmps187
    go_wp2_with fail
    refine (ContainsAny_asc s ⟨#[0, 10, 13]⟩ _ (by omega) asc_bad (by decide) (by decide)).mono ?_
    rintro e w' ⟨rfl, hb⟩
    generalize Lib.containsAny s.data.toList (ByteArray.mk #[0, 10, 13]).data.toList = q at *
    cases q
    · go_wp2
      go_ret
      exact ⟨ret_bool HE.out.symm, hb⟩
    · go_wp2
      go_ret
      exact ⟨ret_bool HE.out.symm, hb⟩
  · have HE : Hid (valOk s.data.toList = false) := by show _ = _; unfold valOk; rw [HS.out]; simp; omega
    go_enter Tryz.func187, Tryz.ntmps187
    go_wp2
    go_ret
    exact ⟨ret_bool HE.out.symm, Below.refl _ _⟩

set_option maxHeartbeats 1000000 in
theorem Check6_any (A : Option Addr) (len c B : Nat) (xs : List (ByteArray × ByteArray)) (w : World) (hlen : len = xs.length) (hB : B ≤ w.heap.size) (hx : PRow w B A xs) (hl : xs.length ≤ maxLen) (hs : ∀ x ∈ xs, x.1.size ≤ maxLen ∧ x.2.size ≤ maxLen) :
    Calls Tryz.prog 153 #[.slice A len c] w fun e w' => e = .returned (.int .i64 (checkH (xs.map hd))) ∧ Below w.heap.size w w' := by
  subst hlen
  unfold maxLen at hl
  have HX := Lib.hid hx
  have HS := Lib.hid hs
  clear hx hs
  by_cases h32 : 32 < xs.length
  · have HE : Hid (checkH (xs.map hd) = 4) := by show _ = _; unfold checkH; rw [if_pos (by simpa using h32)]
    go_enter Tryz.func153, Tryz.ntmps153
    go_wp2
    go_ret
    exact ⟨ret_int HE.out.symm, Below.refl _ _⟩
  have HE : Hid (checkH (xs.map hd) = if (xs.map hd).all okH then 0 else 6) := by show _ = _; unfold checkH; rw [if_neg (by simpa using h32)]
  go_enter Tryz.func153, Tryz.ntmps153
  go_wp2_with fail
  go_loopw [10] (fun i wr => ∃ k : Nat, k ≤ xs.length ∧ i = .int .i64 k ∧ (((xs.take k).map hd).all okH = true) ∧ Below w.heap.size w wr) (fun i _ => xs.length - (intOf i).toNat)
  case atStart => exact ⟨0, Nat.zero_le _, rfl, rfl, Below.refl _ _⟩
  case round =>
    obtain ⟨k, hk, rfl, hall, hb⟩ := hrel
    have HAL := Lib.hid hall
    have HBB := Lib.hid hb
    clear hall hb
    by_cases hlt : k < xs.length
    · obtain ⟨ad, hA, _, hc1, hc2⟩ := ((HX.out.mono hB).below HBB.out) k xs[k] (List.getElem?_eq_getElem hlt)
      have hz := HS.out xs[k] (List.getElem_mem hlt)
      have HD : Hid (xs.take (k + 1) = xs.take k ++ [xs[k]]) := List.take_succ_eq_append_getElem hlt
      have HM : Hid (hd xs[k] ∈ xs.map hd) := List.mem_map_of_mem (List.getElem_mem hlt)
      generalize xs[k] = x at *
      obtain ⟨x1, x2⟩ := x
      subst hA
      obtain ⟨W, hW⟩ : ∃ W, W = wr.alloc (.cells #[.string x1, .string x2] 57) := ⟨_, rfl⟩
      have HBW : Hid (Below w.heap.size w W) := by show Below _ _ _; rw [hW]; exact HBB.out.alloc HBB.out.size _
      have HBC : Hid (W.cell? ⟨wr.heap.size, 1, none⟩ = some (.string x2)) := by show _ = _; rw [hW]; simp
      obtain ⟨t, ht⟩ : ∃ t : ByteArray, t = ⟨(Lk.trimL x2.data.toList).toArray⟩ := ⟨_, rfl⟩
      have HT := Lib.hid ht
      have HTL : Hid (t.data.toList = Lk.trimL x2.data.toList) := by show _ = _; rw [ht]
      clear ht
      go_wp2_with fail
      rw [← hW]
      refine (isName_any x1 _ hz.1).mono ?_
      rintro e w' ⟨rfl, rfl⟩
      clear hW hc1 hc2
      have hbc := HBC.out
      cases hn : nameOk x1.data.toList
      · have HN := Lib.hid hn
        clear hn
        go_wp2
        go_ret
        refine ⟨ret_int ?_, HBW.out⟩
        rw [HE.out, if_neg]
        intro h
        have := List.all_eq_true.1 h _ HM.out
        simp [okH, hd, HN.out] at this
      · have HN := Lib.hid hn
        clear hn
        go_wp2_with fail
        refine (Trim_as x2 t _ hz.2 HT.out).mono ?_
        rintro e w' ⟨rfl, rfl⟩
        go_wp2_with fail
        refine (isValue_any t _).mono ?_
        rintro e w2 ⟨rfl, hb2⟩
        have HB2 : Hid (Below w.heap.size w w2) := HBW.out.trans (hb2.mono HBW.out.size)
        clear hb2 hbc
        cases hv : valOk t.data.toList
        · have HV := Lib.hid hv
          clear hv
          go_wp2
          go_ret
          refine ⟨ret_int ?_, HB2.out⟩
          rw [HE.out, if_neg]
          intro h
          have := List.all_eq_true.1 h _ HM.out
          simp [okH, hd, ← HTL.out, HV.out] at this
        · have HV := Lib.hid hv
          clear hv
          go_wp2
          go_roundw
          case rel =>
            refine ⟨k + 1, by omega, by go_num, ?_, HB2.out⟩
            rw [HD.out, List.map_append, List.all_append, HAL.out]
            simp [okH, hd, ← HTL.out, HV.out, HN.out]
          case measure => simp [intOf]; omega
    · obtain rfl : k = xs.length := by omega
      go_wp2
      go_ret
      refine ⟨ret_int ?_, HBB.out⟩
      have := HAL.out
      rw [List.take_length] at this
      rw [HE.out, this]; rfl
end Go.Proofs.YtlkneapidmdpbaaGreatDoor

namespace Go.Proofs.YtlkneapidmdpbaaGreatDoor
open Go.RowKit

/-- not too many headers, not too long ones -/
def Sm (l : List Hd) : Prop := l.length ≤ 1000 ∧ ∀ h ∈ l, h.1.length ≤ 100000 ∧ h.2.length ≤ 100000
theorem Sm.sizes {xs : List (ByteArray × ByteArray)} (h : Sm (xs.map hd)) : xs.length ≤ 1000 ∧ ∀ x ∈ xs, x.1.size ≤ 100000 ∧ x.2.size ≤ 100000 :=
  ⟨by simpa using h.1, fun x hx => h.2 (hd x) (List.mem_map_of_mem hx)⟩
theorem sum_le {K : Nat} : ∀ l : List (List UInt8), (∀ x ∈ l, x.length ≤ K) → (l.map List.length).sum ≤ K * l.length
  | [], _ => by simp
  | x :: r, h => by
    have h1 := h x (by simp)
    have h2 := sum_le r fun y hy => h y (List.mem_cons_of_mem _ hy)
    simp only [List.map_cons, List.sum_cons, List.length_cons, Nat.mul_add, Nat.mul_one]
    omega
theorem vals_len (l : List Hd) (n : List UInt8) : (valsH l n).length ≤ l.length := by
  unfold valsH; rw [List.length_map]; exact List.length_filter_le _ _
theorem vals_small {l : List Hd} (h : Sm l) (n : List UInt8) : ∀ x ∈ valsH l n, x.length ≤ 100000 := by
  intro x hx
  unfold valsH at hx
  obtain ⟨g, hg, rfl⟩ := List.mem_map.1 hx
  have := h.2 g (List.mem_filter.1 hg).1
  exact Nat.le_trans (Lk.trim_len _) this.2
theorem get_len {l : List Hd} (h : Sm l) (n : List UInt8) : (getH l n).length ≤ 200000000 := by
  have h1 := Lk.join_len (valsH l n)
  have h2 := sum_le _ (vals_small h n)
  have h3 := vals_len l n
  have h4 := h.1
  unfold getH
  have h5 : 100000 * (valsH l n).length ≤ 100000 * 1000 := Nat.mul_le_mul_left _ (by omega)
  omega
theorem trow_of {w : World} {b : Nat} {v : Value} {xs : List (List UInt8)} (h : w.ownsRow b 9 1 v xs.length (xs.map sv)) :
    ∃ A c, v = .slice A xs.length c ∧ xs.length ≤ c ∧ SRow w w.heap.size A (xs.map mk) := by
  have h0 := h
  rcases h.2 with ⟨e1, e2⟩ | ⟨g, cap, cur, e1, _, _, e4, _⟩
  · obtain ⟨A, c, e, hr⟩ := srow_of h0
    exact ⟨A, c, e, by omega, hr⟩
  · obtain ⟨A, c, e, hr⟩ := srow_of h0
    refine ⟨A, c, e, ?_, hr⟩
    rw [e1] at e
    injection e with _ _ e
    omega
theorem dat_mk (l : List (List UInt8)) : dat (l.map mk) = l := by
  unfold dat
  rw [List.map_map]
  conv => rhs; rw [← List.map_id l]
  apply List.map_congr_left
  intro x _
  exact mk_data x
theorem take_hd {xs : List (ByteArray × ByteArray)} {k : Nat} {x : ByteArray × ByteArray} (h : xs.take (k + 1) = xs.take k ++ [x]) : (xs.take (k + 1)).map hd = (xs.take k).map hd ++ [hd x] := by rw [h]; simp

set_option maxHeartbeats 2000000 in
theorem Get_any (A : Option Addr) (len c B : Nat) (xs : List (ByteArray × ByteArray)) (name : ByteArray) (w : World) (hlen : len = xs.length) (hB : B ≤ w.heap.size) (hx : PRow w B A xs) (hsm : Sm (xs.map hd)) (hname : name.size ≤ maxLen) :
    Calls Tryz.prog 23 #[.slice A len c, .string name] w fun e w' => e = .returned (.tuple #[.string (mk (getH (xs.map hd) name.data.toList)), .bool (gotH (xs.map hd) name.data.toList)]) ∧ Below w.heap.size w w' := by
  subst hlen
  obtain ⟨hl, hs⟩ := hsm.sizes
  have HG := Lib.hid (get_len hsm name.data.toList)
  have HVL := Lib.hid (vals_len (xs.map hd) name.data.toList)
  have HX := Lib.hid hx
  have HS := Lib.hid hs
  clear hx hs hsm
  obtain ⟨i0, hi, hz0, hz1, hz2⟩ := info_parts infoS
  go_enter Tryz.func23, Tryz.ntmps23
  go_wp2_with fail
  go_loopw [6, 11] (fun v i wr => ∃ (k : Nat) (dl : List Hd), k ≤ xs.length ∧ i = .int .i64 k ∧ dl = (xs.take k).map hd ∧ wr.ownsRow w.heap.size 9 1 v (valsH dl name.data.toList).length ((valsH dl name.data.toList).map sv) ∧ Below w.heap.size w wr) (fun _ i _ => xs.length - (intOf i).toNat)
  case atStart => exact ⟨0, [], Nat.zero_le _, rfl, rfl, World.ownsRow_nil _ _ _ _, Below.refl _ _⟩
  case round =>
    obtain ⟨k, dl, hk, rfl, hdl, hr, hb⟩ := hrel
    have HDL := Lib.hid hdl
    have HRR := Lib.hid hr
    have HBB := Lib.hid hb
    clear hr hb hdl
    by_cases hlt : k < xs.length
    · obtain ⟨ad, hA, _, hc1, hc2⟩ := ((HX.out.mono hB).below HBB.out) k xs[k] (List.getElem?_eq_getElem hlt)
      have hz := HS.out xs[k] (List.getElem_mem hlt)
      have HD := Lib.hid (take_hd (List.take_succ_eq_append_getElem hlt))
      have HVK : Hid ((valsH dl name.data.toList).length ≤ k) := by
        show _ ≤ _
        have h1 := vals_len dl name.data.toList
        have h2 : dl.length = k := by rw [HDL.out]; simp; omega
        omega
      generalize xs[k] = x at *
      obtain ⟨x1, x2⟩ := x
      subst hA
      obtain ⟨W, hW⟩ : ∃ W, W = wr.alloc (.cells #[.string x1, .string x2] 57) := ⟨_, rfl⟩
      have HBW : Hid (Below w.heap.size w W) := by show Below _ _ _; rw [hW]; exact HBB.out.alloc HBB.out.size _
      have HRW : Hid (W.ownsRow w.heap.size 9 1 u6 (valsH dl name.data.toList).length ((valsH dl name.data.toList).map sv)) := by show World.ownsRow _ _ _ _ _ _ _; rw [hW]; exact HRR.out.alloc _
      have HBC : Hid (W.cell? ⟨wr.heap.size, 1, none⟩ = some (.string x2)) := by show _ = _; rw [hW]; simp
      obtain ⟨t, ht⟩ : ∃ t : ByteArray, t = ⟨(Lk.trimL x2.data.toList).toArray⟩ := ⟨_, rfl⟩
      have HT := Lib.hid ht
      have HTL : Hid (sv (Lk.trimL x2.data.toList) = .string t) := by show _ = _; rw [ht]; rfl
      clear ht
      go_wp2_with fail
      rw [← hW]
      refine (Fold_any x1 name _ (by unfold maxLen; omega) hname).mono ?_
      rintro e w2 ⟨rfl, n, hw2⟩
      have HB2 : Hid (Below w.heap.size w w2) := by show Below _ _ _; rw [hw2]; exact below_drewN HBW.out n
      have HR2 : Hid (w2.ownsRow w.heap.size 9 1 u6 (valsH dl name.data.toList).length ((valsH dl name.data.toList).map sv)) := by show World.ownsRow _ _ _ _ _ _ _; rw [hw2]; exact HRW.out
      have hbc : w2.cell? ⟨wr.heap.size, 1, none⟩ = some (.string x2) := by rw [hw2]; exact HBC.out
      clear hw2 hW hc1 hc2 HBW HRW HBC
      cases hf : Lk.foldL x1.data.toList name.data.toList
      · have HF := Lib.hid hf
        clear hf
        go_wp2
        go_roundw
        case rel =>
          refine ⟨k + 1, dl ++ [hd (x1, x2)], by omega, by go_num, by rw [HD.out, HDL.out], ?_, HB2.out⟩
          rw [vals_snoc, show Lk.foldL (hd (x1, x2)).1 name.data.toList = false from HF.out]
          simpa using HR2.out
        case measure => simp [intOf]; omega
      · have HF := Lib.hid hf
        clear hf
        go_wp2_with fail
        refine (Trim_as x2 t _ (by unfold maxLen; omega) HT.out).mono ?_
        rintro e w' ⟨rfl, rfl⟩
        go_wp2_with (at_builtin; refine wpList_append_own _ rfl (.tmp 19) (.tmp 23) 26 rfl w.heap.size 9 i0 (.string ⟨#[]⟩) 1 16 Tryz.underlying26 hi hz0 hz1 hz2 rfl (by decide) _ _ _ rfl (World.ownsRow.alloc (w := w2) HR2.out _) ⟨w2.heap.size, 0, none⟩ 1 1 [.string t] rfl rfl ?c1 ?c2 ?c3 ?c4 ?c5 ?_)
        case c1 => exact cell_one_new _ _ _
        case c2 => intro u hu; simp at hu; subst hu; rfl
        case c3 => have := HVK.out; unfold maxLen; omega
        case c4 => have := HVK.out; omega
        case c5 => have := HB2.out.size; simp; omega
        intro v' w3 hown' hgrow _
        have HR3 := Lib.hid hown'
        have HB3 : Hid (Below w.heap.size w w3) := (HB2.out.alloc HB2.out.size _).grown hgrow (by have := HB2.out.size; simp; omega) (fun b hb => (HR2.out.lt b hb).1)
        clear hown' hgrow
        go_wp2
        go_roundw
        case rel =>
          refine ⟨k + 1, dl ++ [hd (x1, x2)], by omega, by go_num, by rw [HD.out, HDL.out], ?_, HB3.out⟩
          rw [vals_snoc, show Lk.foldL (hd (x1, x2)).1 name.data.toList = true from HF.out, if_pos rfl, List.length_append, List.map_append, List.map_cons, List.map_nil, show sv (Lk.trimL (hd (x1, x2)).2) = .string t from HTL.out]
          exact HR3.out
        case measure => simp [intOf]; omega
    · obtain rfl : k = xs.length := by omega
      have hr := HRR.out
      rw [HDL.out, List.take_length] at hr
      obtain ⟨A2, c2, e2, hc2, hsr⟩ := trow_of hr
      have HSR := Lib.hid hsr
      clear hr hsr
      subst e2
      have HJ : Hid (Lk.joinL (dat ((valsH (xs.map hd) name.data.toList).map mk)) = getH (xs.map hd) name.data.toList) := by show _ = _; rw [dat_mk]; rfl
      have HO : Hid (gotH (xs.map hd) name.data.toList = decide (0 < (valsH (xs.map hd) name.data.toList).length)) := got_vals _ _
      go_wp2_with fail
      refine (Join_any A2 _ c2 wr.heap.size ((valsH (xs.map hd) name.data.toList).map mk) _ (by simp) HSR.out (Nat.le_refl _) (by simpa using hc2) (by have := HVL.out; simp at this ⊢; omega) (by rw [HJ.out]; have := HG.out; omega)).mono ?_
      rintro e w3 ⟨rfl, hb3⟩
      rw [HJ.out]
      go_wp2
      go_ret2
      exact ⟨by rw [HO.out]; rfl, HBB.out.trans (hb3.mono HBB.out.size)⟩

theorem set_of {l : List Hd} {n v : List UInt8} {dl : List Hd} {f : Bool} (h1 : dl = setR n v false l) (h2 : f = gotH l n) : setH l n v = dl ++ (if f then [] else [(n, v)]) := by rw [h1, h2]; rfl
theorem setR_yes {n v : List UInt8} {l : List Hd} {h : Hd} (hf : Lk.foldL h.1 n = true) (hg : gotH l n = true) : setR n v false (l ++ [h]) = setR n v false l := by rw [setR_snoc, hf, hg]; simp
theorem setR_first {n v : List UInt8} {l : List Hd} {h : Hd} (hf : Lk.foldL h.1 n = true) (hg : gotH l n = false) : setR n v false (l ++ [h]) = setR n v false l ++ [(h.1, v)] := by rw [setR_snoc, hf, hg]; simp
theorem setR_no {n v : List UInt8} {l : List Hd} {h : Hd} (hf : Lk.foldL h.1 n = false) : setR n v false (l ++ [h]) = setR n v false l ++ [h] := by rw [setR_snoc, hf]; simp
theorem got_snoc {n : List UInt8} {l : List Hd} {h : Hd} {b : Bool} (hf : Lk.foldL h.1 n = b) : gotH (l ++ [h]) n = (gotH l n || b) := by rw [got_append, got_cons, hf]; simp [gotH]
theorem setR_len (n v : List UInt8) (f : Bool) (l : List Hd) : (setR n v f l).length ≤ l.length := by
  induction l generalizing f with
  | nil => simp [setR]
  | cons h r ih =>
    rw [setR]
    have h1 := ih true
    have h2 := ih f
    repeat' split
    all_goals simp; omega

theorem cells_two_new (w : World) (x y : Value) (t : TypeId) : ∀ j u, [x, y][j]? = some u → (w.alloc (.cells #[x, y] t)).cell? ((⟨w.heap.size, 0, none⟩ : Addr).add j) = some u := by
  intro j u hj
  rw [add_own]
  match j, hj with
  | 0, hj => simp at hj; subst hj; simp
  | 1, hj => simp at hj; subst hj; simp

end Go.Proofs.YtlkneapidmdpbaaGreatDoor

namespace Go.Proofs.YtlkneapidmdpbaaGreatDoor
open Go.RowKit

abbrev sown (w : World) (base : Nat) (v : Value) (l : List (List UInt8)) : Prop := w.ownsRow base 9 1 v l.length (l.map sv)
theorem sown_holds {w : World} {base g cap : Nat} {l : List (List UInt8)} (h : sown w base (.slice (some ⟨g, 0, none⟩) l.length cap) l) : Sort.Holds encStr w g 0 l.toArray := by
  intro j hj
  have hjl : j < l.length := by simpa using hj
  refine ⟨?_, by rw [Nat.zero_add]; exact h.frozenAt j⟩
  rw [Nat.zero_add, h.cellAt j (by omega), List.getElem?_map, List.getElem?_eq_getElem hjl, Option.map_some]
  simp [hjl, sv]
theorem sown_put {w : World} {base g cap : Nat} {l : List (List UInt8)} (h : sown w base (.slice (some ⟨g, 0, none⟩) l.length cap) l) (d : List (List UInt8)) (hd : d.length = l.length) :
    sown (Sort.putRow encStr w g 0 d.toArray) base (.slice (some ⟨g, 0, none⟩) d.length cap) d := by
  rcases h.2 with ⟨h', _⟩ | ⟨g', cap', cur, h', hb, hg, hnc, hcm, hcs, htake⟩
  · simp at h'
  · simp only [Value.slice.injEq, Option.some.injEq, Addr.mk.injEq, and_true, true_and] at h'
    obtain ⟨rfl, rfl⟩ := h'
    refine ⟨by simp, .inr ⟨g, cap, Sort.putCells encStr 0 d.toArray cur, rfl, hb, ?_, by omega, hcm, by simpa [Sort.putCells] using hcs, ?_⟩⟩
    · show (w.heap.modify g _)[g]? = _
      rw [Array.getElem?_modify, if_pos rfl, hg]; rfl
    · apply List.ext_getElem
      · simp [Sort.putCells]; omega
      · intro j h1 h2
        have hj : j < d.length := by simpa using h2
        simp [Sort.putCells, hj, sv]
theorem sown_take {w : World} {base g cap : Nat} {l : List (List UInt8)} (h : sown w base (.slice (some ⟨g, 0, none⟩) l.length cap) l) (m : Nat) (hm : m ≤ l.length) :
    sown w base (.slice (some ⟨g, 0, none⟩) m cap) (l.take m) := by
  rcases h.2 with ⟨h', _⟩ | ⟨g', cap', cur, h', hb, hg, hnc, hcm, hcs, htake⟩
  · simp at h'
  · simp only [Value.slice.injEq, Option.some.injEq, Addr.mk.injEq, and_true, true_and] at h'
    obtain ⟨rfl, rfl⟩ := h'
    have hl : (l.take m).length = m := by simp; omega
    refine ⟨by simp, .inr ⟨g, cap, cur, by rw [hl], hb, hg, by omega, hcm, hcs, ?_⟩⟩
    simp only [Nat.mul_one] at htake ⊢
    rw [hl, List.map_take, ← htake, List.take_take, Nat.min_eq_left hm]
theorem below_put {B : Nat} {w W : World} (h : Below B w W) {g : Nat} (hg : B ≤ g) (d : Array (List UInt8)) : Below B w (Sort.putRow encStr W g 0 d) := by
  refine ⟨h.os, h.tape, h.output, by simpa using h.size, fun k hk => ?_⟩
  show (W.heap.modify g _)[k]? = _
  rw [Array.getElem?_modify, if_neg (by omega)]
  exact h.block k hk
theorem below_sgrow {B : Nat} {w W : World} (h : Below B w W) (hB : B ≤ W.heap.size) (os : Array Obj) : Below B w (Sort.grow W os) := by
  refine ⟨h.os, h.tape, h.output, by have := h.size; simp; omega, fun k hk => ?_⟩
  show (W.heap ++ os)[k]? = _
  rw [Array.getElem?_append_left (by omega)]
  exact h.block k hk
theorem below_ahead {B : Nat} {w W : World} (h : Below B w W) (n : Nat) : Below B w (Sort.ahead W n) := ⟨h.os, h.tape, h.output, h.size, h.block⟩
theorem sown_grow {w : World} {base : Nat} {v : Value} {l : List (List UInt8)} (h : sown w base v l) (os : Array Obj) : sown (Sort.grow w os) base v l :=
  ownsRow_below h (below_sgrow (Below.refl _ _) (Nat.le_refl _) os)
theorem made_one (n : Nat) : (madeCells #[Value.string ⟨#[]⟩] n).toList = (List.replicate n []).map sv := by
  rw [toList_madeCells_one, List.map_replicate]; rfl
theorem sown_slot {w : World} {base g n cap : Nat} {l : List (List UInt8)} (h : sown w base (.slice (some ⟨g, 0, none⟩) n cap) l) (hn : n = l.length) (k : Nat) (hk : k < l.length) : w.cell? ⟨g, k, none⟩ = some (.string (mk l[k])) ∧ w.frozen? ⟨g, k, none⟩ = false := by
  subst hn
  refine ⟨?_, h.frozenAt k⟩
  rw [h.cellAt k (by omega), List.getElem?_map, List.getElem?_eq_getElem hk]; rfl
theorem sown_set {w : World} {base g n cap : Nat} {l : List (List UInt8)} (h : sown w base (.slice (some ⟨g, 0, none⟩) n cap) l) (hn : n = l.length) (k : Nat) (a : ByteArray) : sown (w.setCell ⟨g, k, none⟩ (.string a)) base (.slice (some ⟨g, 0, none⟩) n cap) (l.set k a.data.toList) := by
  subst hn
  have h1 := (h.stored k (.string a)).1
  unfold sown
  rw [List.length_set, List.map_set, show sv a.data.toList = .string a by rw [sv_mk, mk_eq]]
  exact h1

end Go.Proofs.YtlkneapidmdpbaaGreatDoor

namespace Go.Proofs.YtlkneapidmdpbaaGreatDoor
open Go.RowKit

def Apart (v u : Value) : Prop := ∀ g, v.ownBlock = some g → u.ownBlock ≠ some g
theorem Apart.symm {v u : Value} (h : Apart v u) : Apart u v := fun g h1 h2 => h g h2 h1
def Two (w : World) (base : Nat) (v u : Value) (l m : List (List UInt8)) : Prop := sown w base v l ∧ sown w base u m ∧ Apart v u
theorem Two.symm {w : World} {base : Nat} {v u : Value} {l m : List (List UInt8)} (h : Two w base v u l m) : Two w base u v m l := ⟨h.2.1, h.1, h.2.2.symm⟩
theorem Two.below {w w' : World} {base : Nat} {v u : Value} {l m : List (List UInt8)} (h : Two w base v u l m) (hb : Below w.heap.size w w') : Two w' base v u l m :=
  ⟨ownsRow_below h.1 hb, ownsRow_below h.2.1 hb, h.2.2⟩
theorem Two.none_ (w : World) (base : Nat) : Two w base (.slice none 0 0) (.slice none 0 0) [] [] :=
  ⟨World.ownsRow_nil _ _ _ _, World.ownsRow_nil _ _ _ _, fun g h => by cases h⟩
theorem own_lt {w : World} {base : Nat} {u : Value} {m : List (List UInt8)} (h : sown w base u m) {g : Nat} (hg : u.ownBlock = some g) : base ≤ g ∧ g < w.heap.size := World.ownsRow.lt h g hg
theorem sown_grown {w w' : World} {base : Nat} {u : Value} {m : List (List UInt8)} {row : Option Nat} (h : sown w base u m) (hg : w.grownBy w' row) (hne : ∀ g, u.ownBlock = some g → row ≠ some g) : sown w' base u m := by
  refine ⟨h.1, ?_⟩
  rcases h.2 with h2 | ⟨g, cap, cur, e1, e2, e3, e4⟩
  · exact .inl h2
  · have hlt : g < w.heap.size := by
      rcases Nat.lt_or_ge g w.heap.size with h | h
      · exact h
      · rw [Array.getElem?_eq_none h] at e3; cases e3
    exact .inr ⟨g, cap, cur, e1, e2, (hg.block g hlt (fun e => hne g (by rw [e1]; rfl) e.symm)).trans e3, e4⟩

theorem HdAt.grown {w w' : World} {g : Nat} {a b : ByteArray} {row : Option Nat} (h : HdAt w g a b) (hg : w.grownBy w' row) (hne : row ≠ some g) : HdAt w' g a b :=
  have hk := hg.block g h.lt (fun e => hne e.symm)
  ⟨(World.cell?_of_block (a := ⟨g, 0, none⟩) hk).trans h.c0, (World.cell?_of_block (a := ⟨g, 1, none⟩) hk).trans h.c1⟩
theorem Two.new {w : World} {base : Nat} {v u : Value} {l m : List (List UInt8)} (h : Two w base v u l m) {g : Nat} (hg : w.heap.size ≤ g) : v.ownBlock ≠ some g := by
  intro e; have := (own_lt h.1 e).2; omega

/-- append(x, t), x a row of the call's own, another one beside it -/
theorem wpList_append_beside {ops : Array Oper} {rest : List Oper} {o : Oper} {a : Act} {Q : Exit → Act → World → Prop} {w : World} (hgd : o.guard = none) (s x : Operand)
    (ho : o.op = .call { callee := .builtin .append, args := #[s, x], argTypes := #[26, 26] })
    (base : Nat) (v u : Value) (l m : List (List UInt8)) (hs : a.eval s = v) (h2 : Two w base v u l m) (ad : Addr) (t : ByteArray) (hx : a.eval x = .slice (some ad) 1 1) (hc : w.cell? ad = some (.string t))
    (hsm : l.length ≤ 100000) (w0 : World) (hb : Below base w0 w) (hbase : base ≤ w.heap.size)
    (h : ∀ v' w', Two w' base v' u (l ++ [t.data.toList]) m → Below base w0 w' → w.grownBy w' v.ownBlock → wpList Tryz.prog ops Q rest (a.put o.dst v') w') : wpList Tryz.prog ops Q (o :: rest) a w := by
  obtain ⟨i0, hi, hz0, hz1, hz2⟩ := info_parts infoS
  refine wpList_append_lies w hgd s x 26 ho base 9 i0 (.string ⟨#[]⟩) 1 16 Tryz.underlying26 hi hz0 hz1 hz2 rfl (by decide) v _ _ hs h2.1 ad 1 1 [.string t] hx rfl ?_ ?_ (by decide) (by unfold maxLen; omega) (by omega) hbase _ rfl ?_
  · intro j q hj
    match j, hj with
    | 0, hj => simp at hj; subst hj; simpa [Addr.add] using hc
  · intro q hq; simp at hq; subst hq; rfl
  · intro g cap w' h1 h3 h4 h5
    refine h _ w' ⟨?_, sown_grown h2.2.1 h3 (fun g' hg' e => h2.2.2 g' e hg'), fun g' hg' => ?_⟩ (hb.grown h3 hbase (fun k hk => (own_lt h2.1 hk).1)) h3
    · unfold sown
      rw [List.length_append, List.map_append]
      have e : [t.data.toList].map sv = [.string t] := by show [sv _] = _; rw [sv_mk, mk_eq]
      rw [e]
      exact h1
    · obtain rfl : g = g' := by simpa [Value.ownBlock] using hg'
      intro e
      rcases h4 with h4 | h4
      · exact h2.2.2 g h4 e
      · have := (own_lt h2.2.1 e).2; omega

set_option maxHeartbeats 1000000 in
theorem insert_nil (w : World) : Calls Tryz.prog 213 #[.slice none 0 0, .int .i64 0, .int .i64 0] w fun e w' => e = .returned (.tuple #[]) ∧ w = w' := by
  go_enter Tryz.func213, Tryz.ntmps213
  go_wp2
  go_loop [6] (fun i => i = .int .i64 1) (fun _ => 0)
  case atStart => rfl
  case round =>
    subst hrel
    go_wp2
    go_end0
    exact ⟨rfl, rfl⟩
set_option maxHeartbeats 1000000 in
theorem pdq_nil (n : Int) (w : World) : Calls Tryz.prog 193 #[.slice none 0 0, .int .i64 0, .int .i64 0, .int .i64 n] w fun e w' => e = .returned (.tuple #[]) ∧ w = w' := by
  go_enter Tryz.func193, Tryz.ntmps193
  go_wp2
  go_loop [1, 2] (fun i j => i = .int .i64 0 ∧ j = .int .i64 0) (fun _ _ => 0)
  case atStart => exact ⟨rfl, rfl⟩
  case round =>
    obtain ⟨rfl, rfl⟩ := hrel
    go_wp2_with fail
    refine (insert_nil _).mono ?_
    rintro e w' ⟨rfl, rfl⟩
    go_wp2
    refine bodyPost_ret (results_none rfl _ _ _) rfl ?_
    exact ⟨rfl, rfl⟩
set_option maxHeartbeats 1000000 in
theorem Sort_nil (w : World) : Calls Tryz.prog 155 #[.slice none 0 0] w fun e w' => e = .returned (.tuple #[]) ∧ w = w' := by
  go_enter Tryz.func155, Tryz.ntmps155
  go_wp2_with fail
  refine (Tryz.bits_Len 0 _ (by decide) (by decide)).mono ?_
  rintro e w1 ⟨rfl, hw⟩
  go_wp2_with fail
  refine (pdq_nil _ _).mono ?_
  rintro e w' ⟨rfl, rfl⟩
  go_wp2
  go_end0
  exact ⟨rfl, by first | rfl | exact hw | exact hw.symm⟩

theorem sort_len (l : List (List UInt8)) : (sortT l).length = l.length := List.length_mergeSort _
theorem sown_empty {w : World} {base : Nat} {l : List (List UInt8)} {n c : Nat} (h : sown w base (.slice none n c) l) : l = [] ∧ n = 0 ∧ c = 0 := by
  rcases h.2 with ⟨h1, h2⟩ | ⟨g, cap, cur, e1, _⟩
  · simp only [Value.slice.injEq, true_and] at h1
    exact ⟨List.length_eq_zero_iff.1 h2, h1.1, h1.2⟩
  · simp at e1
theorem sown_form {w : World} {base : Nat} {v : Value} {l : List (List UInt8)} (h : sown w base v l) : (v = .slice none 0 0 ∧ l = []) ∨ ∃ g cap, v = .slice (some ⟨g, 0, none⟩) l.length cap ∧ base ≤ g ∧ g < w.heap.size ∧ l.length ≤ cap := by
  rcases h.2 with ⟨h1, h2⟩ | ⟨g, cap, cur, e1, e2, e3, e4, _⟩
  · exact .inl ⟨h1, List.length_eq_zero_iff.1 h2⟩
  · refine .inr ⟨g, cap, e1, e2, ?_, e4⟩
    rcases Nat.lt_or_ge g w.heap.size with h | h
    · exact h
    · rw [Array.getElem?_eq_none h] at e3; cases e3

theorem Sort_own (w0 w : World) (base : Nat) (v : Value) (l : List (List UInt8)) (h : sown w base v l) (hb : Below base w0 w) (hbs : base ≤ w.heap.size) (hl : l.length ≤ 1000000) :
    Calls Tryz.prog 155 #[v] w fun e w' => e = .returned (.tuple #[]) ∧ sown w' base v (sortT l) ∧ Below base w0 w' := by
  rcases sown_form h with ⟨rfl, rfl⟩ | ⟨g, cap, rfl, hg, hlt, _⟩
  · refine (Sort_nil w).mono ?_
    rintro e w' ⟨rfl, rfl⟩
    exact ⟨rfl, by rw [show sortT [] = [] from List.mergeSort_nil]; exact h, hb⟩
  · refine (Tryz.slices_Sort_string g 0 cap l w (sown_holds h) hlt (by omega)).mono ?_
    rintro e w' ⟨rfl, n, os, hw⟩
    have h1 := sown_put (w := Sort.ahead w n) h (sortT l) (sort_len l)
    refine ⟨rfl, ?_, ?_⟩
    · rw [hw]
      have h2 := sown_grow h1 os
      rw [sort_len] at h2
      exact h2
    · rw [hw]
      exact below_sgrow (below_put (below_ahead hb n) hg _) (by simp; omega) os

theorem Compact_own (w0 w : World) (base : Nat) (v : Value) (l : List (List UInt8)) (h : sown w base v l) (hb : Below base w0 w) (hl : l.length ≤ 1000000) (hcl : (Lib.compact l).length ≤ l.length) :
    Calls Tryz.prog 156 #[v] w fun e w' => ∃ v', e = .returned v' ∧ sown w' base v' (Lib.compact l) ∧ Below base w0 w' := by
  rcases sown_form h with ⟨rfl, rfl⟩ | ⟨g, cap, rfl, hg, hlt, hc⟩
  · refine (Tryz.slices_Compact_string_empty none 0 w).mono ?_
    rintro e w' ⟨rfl, hw⟩
    exact ⟨_, rfl, by rw [hw]; exact h, by rw [hw]; exact hb⟩
  · refine (Tryz.slices_Compact_string g 0 cap l w (sown_holds h) (by omega) hc).mono ?_
    rintro e w' ⟨rfl, q, hw⟩
    have h1 : (Lib.compact l ++ List.replicate (l.length - (Lib.compact l).length) []).length = l.length := by
      rw [List.length_append, List.length_replicate]; omega
    have h2 := sown_put (w := Sort.ahead w q) h _ h1
    have h3 := sown_take h2 (Lib.compact l).length (by rw [List.length_append]; omega)
    rw [List.take_left] at h3
    exact ⟨_, rfl, by rw [hw]; exact h3, by rw [hw]; exact below_put (below_ahead hb q) hg _⟩
theorem compact_len (l : List (List UInt8)) : (Lib.compact (sortT l)).length ≤ (sortT l).length := by
  rw [compact_sort, sort_len]; exact ris_len l
end Go.Proofs.YtlkneapidmdpbaaGreatDoor

namespace Go.Proofs.YtlkneapidmdpbaaGreatDoor
open Go.RowKit

theorem ba_beq (a b : ByteArray) : (a.toList == b.toList) = decide (a.data.toList = b.data.toList) := by
  rw [ByteArray.toList_eq, ByteArray.toList_eq]
  rw [Bool.eq_iff_iff, beq_iff_eq, decide_eq_true_eq]

theorem same_no {k : Nat} {a b : List Hd} {x y : Hd} (ha : a[k]? = some x) (hb : b[k]? = some y) (h : decide (normH x = normH y) = false) : sameH a b = false := by
  unfold sameH
  rw [decide_eq_false_iff_not]
  intro e
  have := congrArg (fun l => l[k]?) e
  simp only [normL, List.getElem?_map, ha, hb, Option.map_some, Option.some.injEq] at this
  exact absurd this (of_decide_eq_false h)
theorem take_norm_step {k : Nat} {a b : List Hd} {x y : Hd} (ha : a.take (k + 1) = a.take k ++ [x]) (hb : b.take (k + 1) = b.take k ++ [y]) (h0 : normL (a.take k) = normL (b.take k)) (h : decide (normH x = normH y) = true) : normL (a.take (k + 1)) = normL (b.take (k + 1)) := by
  rw [ha, hb]
  unfold normL at h0 ⊢
  rw [List.map_append, List.map_append, h0]
  simp [of_decide_eq_true h]

end Go.Proofs.YtlkneapidmdpbaaGreatDoor

namespace Go.Proofs.YtlkneapidmdpbaaGreatDoor
open Go.RowKit

theorem PRow.two_at (w : World) (a b c d : ByteArray) (t : TypeId) (g : Nat) (hg : g = w.heap.size) : PRow (w.alloc (.cells #[.string a, .string b, .string c, .string d] t)) (g + 1) (some ⟨g, 0, none⟩) [(a, b), (c, d)] := by
  subst hg
  intro j x hj
  match j, hj with
  | 0, hj => simp at hj; subst hj; exact ⟨_, rfl, by simp, by simp [Addr.add], by simp [Addr.add]⟩
  | 1, hj => simp at hj; subst hj; exact ⟨_, rfl, by simp, by simp [Addr.add], by simp [Addr.add]⟩
theorem PRow.three_at (w : World) (a b c d e f : ByteArray) (t : TypeId) (g : Nat) (hg : g = w.heap.size) : PRow (w.alloc (.cells #[.string a, .string b, .string c, .string d, .string e, .string f] t)) (g + 1) (some ⟨g, 0, none⟩) [(a, b), (c, d), (e, f)] := by
  subst hg
  intro j x hj
  match j, hj with
  | 0, hj => simp at hj; subst hj; exact ⟨_, rfl, by simp, by simp [Addr.add], by simp [Addr.add]⟩
  | 1, hj => simp at hj; subst hj; exact ⟨_, rfl, by simp, by simp [Addr.add], by simp [Addr.add]⟩
  | 2, hj => simp at hj; subst hj; exact ⟨_, rfl, by simp, by simp [Addr.add], by simp [Addr.add]⟩
theorem PRow.one_at (w : World) (a b : ByteArray) (t : TypeId) (g : Nat) (hg : g = w.heap.size) : PRow (w.alloc (.cells #[.string a, .string b] t)) (g + 1) (some ⟨g, 0, none⟩) [(a, b)] := by
  subst hg
  intro j x hj
  match j, hj with
  | 0, hj => simp at hj; subst hj; exact ⟨_, rfl, by simp, by simp [Addr.add], by simp [Addr.add]⟩
theorem HdRow.two {w : World} {base : Nat} {v : Value} {a b c d : List UInt8} (h : HdRow w base v [(a, b), (c, d)]) : ∃ g cap, v = .slice (some ⟨g, 0, none⟩) 2 cap ∧ w.cell? ⟨g, 0, none⟩ = some (.string (mk a)) ∧ w.cell? ⟨g, 1, none⟩ = some (.string (mk b)) ∧ w.cell? ⟨g, 2, none⟩ = some (.string (mk c)) ∧ w.cell? ⟨g, 3, none⟩ = some (.string (mk d)) := by
  have h0 := h
  unfold HdRow at h0
  rcases h0.2 with ⟨_, e2⟩ | ⟨g, cap, cur, e1, _, _, _⟩
  · simp at e2
  · subst e1
    obtain ⟨s1, s2, _⟩ := h.slot rfl 0 (by simp)
    obtain ⟨s3, s4, _⟩ := h.slot rfl 1 (by simp)
    exact ⟨g, cap, rfl, s1, s2, s3, s4⟩

theorem aw6_1 : getH ([((⟨#[97]⟩ : ByteArray), (⟨#[49]⟩ : ByteArray)), (⟨#[65]⟩, ⟨#[32, 50]⟩)].map hd) (⟨#[97]⟩ : ByteArray).data.toList = [49, 44, 32, 50] := by decide
theorem aw6_2 : gotH ([((⟨#[97]⟩ : ByteArray), (⟨#[49]⟩ : ByteArray)), (⟨#[65]⟩, ⟨#[32, 50]⟩)].map hd) (⟨#[97]⟩ : ByteArray).data.toList = true := by decide
theorem aw6_3 : setH ([((⟨#[97]⟩ : ByteArray), (⟨#[49]⟩ : ByteArray)), (⟨#[98]⟩, ⟨#[50]⟩), (⟨#[65]⟩, ⟨#[51]⟩)].map hd) (⟨#[65]⟩ : ByteArray).data.toList (⟨#[120]⟩ : ByteArray).data.toList = [([97], [120]), ([98], [50])] := by decide

set_option maxHeartbeats 1000000 in
/-- two rows that hold the same headers are told to be the same -/
theorem Headers_same (A1 A2 : Option Addr) (n1 n2 c1 c2 B1 B2 : Nat) (xs : List (ByteArray × ByteArray)) (w : World) (hn1 : n1 = xs.length) (hn2 : n2 = xs.length) (hl : xs.length ≤ maxLen) (h1 : PRow w B1 A1 xs) (h2 : PRow w B2 A2 xs) :
    Calls Tryz.prog 48 #[.slice A1 n1 c1, .slice A2 n2 c2] w fun e w' => e = .returned (.bool true) ∧ ∃ n, w' = w.drewN n := by
  subst hn1 hn2
  unfold maxLen at hl
  have H1 := Lib.hid h1
  have H2 := Lib.hid h2
  clear h1 h2
  go_enter Tryz.func48, Tryz.ntmps48
  go_wp2
  go_loopw [5] (fun i wr => ∃ k m : Nat, k ≤ xs.length ∧ i = .int .i64 k ∧ wr = w.drewN m) (fun i _ => xs.length - (intOf i).toNat)
  case atStart => exact ⟨0, 0, Nat.zero_le _, rfl, rfl⟩
  case round =>
    obtain ⟨k, m, hk, rfl, hw⟩ := hrel
    have HW := Lib.hid hw
    clear hw
    by_cases hlt : k < xs.length
    · obtain ⟨a1, e1, _, hc1, hc2⟩ := H1.out k xs[k] (List.getElem?_eq_getElem hlt)
      obtain ⟨a2, e2, _, hc3, hc4⟩ := H2.out k xs[k] (List.getElem?_eq_getElem hlt)
      generalize xs[k] = x at *
      obtain ⟨x1, x2⟩ := x
      have d1 : wr.cell? (a1.add (k * 2)) = some (.string x1) := by rw [HW.out]; exact hc1
      have d2 : wr.cell? ⟨(a1.add (k * 2)).block, (a1.add (k * 2)).off + 1, none⟩ = some (.string x2) := by rw [HW.out]; exact hc2
      have d3 : wr.cell? (a2.add (k * 2)) = some (.string x1) := by rw [HW.out]; exact hc3
      have d4 : wr.cell? ⟨(a2.add (k * 2)).block, (a2.add (k * 2)).off + 1, none⟩ = some (.string x2) := by rw [HW.out]; exact hc4
      clear hc1 hc2 hc3 hc4
      subst e1 e2
      have h32 : ((k : Int) < (xs.length : Int)) := by omega
      go_wp2_with fail
      go_quiet (fail)
      go_wp2
      go_roundw
      case rel => exact ⟨k + 1, _, by omega, by go_num, by rw [HW.out, World.drewN_drewN]⟩
      case measure => simp [intOf]; omega
    · go_wp2
      go_ret
      exact ⟨rfl, m, HW.out⟩
end Go.Proofs.YtlkneapidmdpbaaGreatDoor

namespace Go.Proofs.YtlkneapidmdpbaaGreatDoor
open Go.ChangeShapes Go.WideShapes Go.ChangeAt Go.RowKit

theorem list_of {α : Type} {p : Nat → α → Prop} : ∀ n, (∀ i, i < n → ∃ x, p i x) → ∃ xs : List α, xs.length = n ∧ ∀ i x, xs[i]? = some x → p i x
  | 0, _ => ⟨[], rfl, fun i x h => by simp at h⟩
  | n + 1, h => by
    obtain ⟨xs, hl, hx⟩ := list_of n fun i hi => h i (by omega)
    obtain ⟨y, hy⟩ := h n (by omega)
    refine ⟨xs ++ [y], by simp [hl], fun i x hi => ?_⟩
    by_cases hlt : i < xs.length
    · rw [List.getElem?_append_left hlt] at hi; exact hx i x hi
    · have hi2 : i = n := by
        have := (List.getElem?_eq_some_iff.1 hi).1
        simp at this; omega
      subst hi2
      rw [List.getElem?_append_right (by omega), hl, Nat.sub_self] at hi
      obtain rfl : y = x := by simpa using hi
      exact hy
theorem open_heads {H : Type} {enc : TypeId × Value → H} {W : World} {a : Option Addr} {len cap : Nat} {d : DataW H} {p : List MemPlace} (h : DataW.Trod enc Tryz.prog W 0 (fun _ => true) true 22 (.slice a len cap) d p) :
    ∃ xs : List (ByteArray × ByteArray), len = xs.length ∧ HArg W a cap xs := by
  obtain ⟨fuel, hf⟩ := h
  rcases Go.Deep.open_slice_pairs Tryz.underlying22 (Tryz.underlying57) (by kernel_rfl) rfl rfl (by kernel_rfl) (by kernel_rfl) hf with ⟨hcs, _⟩ | ⟨x, l, c, m, n, V0, V1, D0, D1, P0, P1, hcs, _, hl, hm, hmm, _, hcell⟩
  · simp [Value.cells] at hcs
    obtain ⟨rfl, rfl, rfl⟩ := hcs
    exact ⟨[], rfl, HArg.none_ _⟩
  · simp [Value.cells] at hcs
    obtain ⟨rfl, rfl, rfl⟩ := hcs
    have hml : len ≤ m := by rw [hmm]; split <;> omega
    obtain ⟨xs, hxl, hx⟩ := list_of (p := fun i (q : ByteArray × ByteArray) => W.cell? (x.add (i * 2)) = some (.string q.1) ∧ W.cell? ⟨(x.add (i * 2)).block, (x.add (i * 2)).off + 1, none⟩ = some (.string q.2) ∧ q.1.size ≤ maxLen ∧ q.2.size ≤ maxLen) len (fun i hi => by
      obtain ⟨k0, k1, t0, t1⟩ := hcell i (by omega)
      obtain ⟨a0, e0, _, w0⟩ := DataW.trod_string Tryz.underlying9 t0
      obtain ⟨a1, e1, _, w1⟩ := DataW.trod_string Tryz.underlying9 t1
      have e0' : V0 i = .string a0 := by simpa using e0
      have e1' : V1 i = .string a1 := by simpa using e1
      rw [e0'] at k0
      rw [e1', add_pair] at k1
      exact ⟨(a0, a1), k0, k1, w0, w1⟩)
    refine ⟨xs, hxl.symm, ⟨fun j y hj => ?_, fun y hy => ?_, by omega, hm, fun h => by cases h⟩⟩
    · obtain ⟨k0, k1, _⟩ := hx j y hj
      exact ⟨x, rfl, by have := block_of_cell k0; rwa [block_add] at this, k0, k1⟩
    · obtain ⟨j, hj⟩ := List.mem_iff_getElem?.1 hy
      exact (hx j y hj).2.2
end Go.Proofs.YtlkneapidmdpbaaGreatDoor

namespace Go.Proofs.YtlkneapidmdpbaaGreatDoor
open Go.RowKit

theorem great_each : ∀ (xs : List (ByteArray × ByteArray)) (n : Nat), greatGo n xs = false → ∀ x ∈ xs, x.1.size ≤ 100 ∧ x.2.size ≤ 5000
  | [], _, _, x, hx => by simp at hx
  | y :: r, n, h, x, hx => by
    rw [greatGo] at h
    split at h
    · cases h
    · rename_i hy
      simp at hy
      rcases List.mem_cons.1 hx with rfl | hx
      · omega
      · exact great_each r _ h x hx
def greatB (xs : List (ByteArray × ByteArray)) : Bool := decide (40 < xs.length) || greatGo 0 xs
def Bd (l : List Hd) (n a b : Nat) : Prop := l.length ≤ n ∧ ∀ h ∈ l, h.1.length ≤ a ∧ h.2.length ≤ b
theorem great_bd {xs : List (ByteArray × ByteArray)} (h : greatB xs = false) : Bd (xs.map hd) 40 100 5000 := by
  unfold greatB at h
  obtain ⟨h1, h2⟩ := Bool.or_eq_false_iff.1 h
  refine ⟨by simpa using of_decide_eq_false h1, fun g hg => ?_⟩
  obtain ⟨x, hx, rfl⟩ := List.mem_map.1 hg
  exact great_each xs 0 h2 x hx
theorem Bd.sm {l : List Hd} {n a b : Nat} (h : Bd l n a b) (hn : n ≤ 1000) (ha : a ≤ 100000) (hb : b ≤ 100000) : Sm l :=
  ⟨Nat.le_trans h.1 hn, fun g hg => ⟨Nat.le_trans (h.2 g hg).1 ha, Nat.le_trans (h.2 g hg).2 hb⟩⟩
theorem Bd.norm {l : List Hd} {n a b : Nat} (h : Bd l n a b) : Bd (normL l) n a b := by
  refine ⟨by simpa [normL] using h.1, fun g hg => ?_⟩
  obtain ⟨x, hx, rfl⟩ := List.mem_map.1 hg
  have := h.2 x hx
  exact ⟨by simpa [normH, Lk.lower_len] using this.1, Nat.le_trans (Lk.trim_len _) this.2⟩
theorem setR_mem (nm v : List UInt8) : ∀ (f : Bool) (l : List Hd) (g : Hd), g ∈ setR nm v f l → ∃ x ∈ l, g.1 = x.1 ∧ (g.2 = x.2 ∨ g.2 = v)
  | _, [], g, hg => by simp [setR] at hg
  | f, h :: r, g, hg => by
    rw [setR] at hg
    split at hg
    · split at hg
      · obtain ⟨x, hx, k⟩ := setR_mem nm v true r g hg
        exact ⟨x, List.mem_cons_of_mem _ hx, k⟩
      · rcases List.mem_cons.1 hg with rfl | hg
        · exact ⟨h, by simp, rfl, .inr rfl⟩
        · obtain ⟨x, hx, k⟩ := setR_mem nm v true r g hg
          exact ⟨x, List.mem_cons_of_mem _ hx, k⟩
    · rcases List.mem_cons.1 hg with rfl | hg
      · exact ⟨_, by simp, rfl, .inl rfl⟩
      · obtain ⟨x, hx, k⟩ := setR_mem nm v f r g hg
        exact ⟨x, List.mem_cons_of_mem _ hx, k⟩
theorem Bd.set {l : List Hd} {n a b : Nat} (h : Bd l n a b) {nm v : List UInt8} {a' b' : Nat} (ha : a ≤ a') (hb : b ≤ b') (h1 : nm.length ≤ a') (h2 : v.length ≤ b') : Bd (setH l nm v) (n + 1) a' b' := by
  refine ⟨Nat.le_trans (set_len l nm v) (by have := h.1; omega), fun g hg => ?_⟩
  unfold setH at hg
  rcases List.mem_append.1 hg with hg | hg
  · obtain ⟨x, hx, e1, e2⟩ := setR_mem nm v false l g hg
    have := h.2 x hx
    rcases e2 with e2 | e2
    · rw [e1, e2]; omega
    · rw [e1, e2]; omega
  · split at hg
    · simp at hg
    · obtain rfl : g = (nm, v) := by simpa using hg
      exact ⟨h1, h2⟩
theorem map_hd_mkp (l : List Hd) : (l.map mkp).map hd = l := by
  rw [List.map_map]
  conv => rhs; rw [← List.map_id l]
  apply List.map_congr_left
  intro x _
  exact hd_mkp x
theorem map_len (l : List Hd) : l.length = (l.map mkp).length := by simp
/-- a row of the call's own, as a row -/
theorem HdRow.row {w : World} {base : Nat} {v : Value} {l : List Hd} (h : HdRow w base v l) : ∃ (A : Option Addr) (n cap : Nat) (ys : List (ByteArray × ByteArray)), v = .slice A n cap ∧ n = ys.length ∧ ys.map hd = l ∧ n ≤ cap ∧ PRow w w.heap.size A ys := by
  obtain ⟨A, cap, e, h1, _, hp⟩ := h.prow
  exact ⟨A, l.length, cap, l.map mkp, e, map_len l, map_hd_mkp l, h1, hp⟩
theorem SRow.three_at (w : World) (x y z : ByteArray) (t : TypeId) (g : Nat) (hg : g = w.heap.size) : SRow (w.alloc (.cells #[.string x, .string y, .string z] t)) (g + 1) (some ⟨g, 0, none⟩) [x, y, z] := by
  subst hg
  intro j u hj
  match j, hj with
  | 0, hj => simp at hj; subst hj; exact ⟨_, rfl, by simp, by simp [Addr.add]⟩
  | 1, hj => simp at hj; subst hj; exact ⟨_, rfl, by simp, by simp [Addr.add]⟩
  | 2, hj => simp at hj; subst hj; exact ⟨_, rfl, by simp, by simp [Addr.add]⟩
theorem row_alike {xs ys : List (ByteArray × ByteArray)} (h : xs.map hd = ys.map hd) : xs = ys := by
  have : ∀ l : List (ByteArray × ByteArray), (l.map hd).map mkp = l := by
    intro l
    rw [List.map_map]
    conv => rhs; rw [← List.map_id l]
    apply List.map_congr_left
    intro x _
    exact mkp_hd x
  rw [← this xs, h, this]
theorem trow_row {w : World} {base : Nat} {v : Value} {l : List (List UInt8)} (h : sown w base v l) : ∃ (A : Option Addr) (n cap : Nat), v = .slice A n cap ∧ n = (l.map mk).length ∧ SRow w w.heap.size A (l.map mk) := by
  obtain ⟨A, c, e, _, hs⟩ := trow_of h
  exact ⟨A, _, c, e, by simp, hs⟩

theorem row_none {w : World} {B : Nat} {xs : List (ByteArray × ByteArray)} (h : PRow w B none xs) : xs = [] := by
  cases xs with
  | nil => rfl
  | cons x r =>
    obtain ⟨ad, e, _⟩ := h 0 x rfl
    cases e
/-- append(x, y...), x a row of the call's own, y any row of headers, nil or not -/
theorem wpList_append_heads {ops : Array Oper} {rest : List Oper} {o : Oper} {a : Act} {Q : Exit → Act → World → Prop} {w : World} (hgd : o.guard = none) (s x : Operand)
    (ho : o.op = .call { callee := .builtin .append, args := #[s, x], argTypes := #[22, 22] })
    (base : Nat) (v : Value) (l : List Hd) (hs : a.eval s = v) (hown : HdRow w base v l) (A : Option Addr) (c B : Nat) (xs : List (ByteArray × ByteArray)) (hx : a.eval x = .slice A xs.length c) (hp : PRow w B A xs) (hc : A = none → c = 0)
    (hsm : l.length + xs.length ≤ 1000) (hbase : base ≤ w.heap.size)
    (h : ∀ v' w', HdRow w' base v' (l ++ xs.map hd) → w.grownBy w' v.ownBlock → wpList Tryz.prog ops Q rest (a.put o.dst v') w') : wpList Tryz.prog ops Q (o :: rest) a w := by
  obtain ⟨i0, hi, hz0, hz1, hz2⟩ := info_parts infoH
  cases A with
  | none =>
    have := row_none hp
    subst this
    have hc0 := hc rfl
    subst hc0
    refine wpList_append_own_none hgd s x 22 ho base 57 i0 2 Tryz.underlying22 hi v _ _ hs hown hx ?_
    exact h v w (by simpa using hown) ⟨rfl, rfl, rfl, Nat.le_refl _, fun _ _ _ => rfl⟩
  | some ad =>
    refine wpList_append_own w hgd s x 22 ho base 57 i0 (.agg #[.string ⟨#[]⟩, .string ⟨#[]⟩]) 2 32 Tryz.underlying22 hi hz0 hz1 hz2 rfl (by decide) v _ _ hs hown ad xs.length c (hcs (xs.map hd)) hx (by rw [hcs_len]; simp) hp.cells (hcs_one _) (by unfold maxLen; omega) (by omega) hbase ?_
    intro v' w' h1 h2 _
    refine h v' w' ?_ h2
    unfold HdRow
    rw [hcs_append, List.length_append, List.length_map]
    exact h1
end Go.Proofs.YtlkneapidmdpbaaGreatDoor
