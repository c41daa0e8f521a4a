/-
  Plain mathematics of headers: what may be, what is normed, got, set, named. No conditions beyond those of each statement.
-/
import Derived.Test.YtinpfkbplflecaaLBase
namespace Go.Proofs.Ytinpfkbplflecaa

abbrev Hd := List UInt8 × List UInt8
def normH (h : Hd) : Hd := (Lk.lower h.1, Lk.trimL h.2)
def badB (l : List UInt8) : Bool := Lk.inL 0 l || Lk.inL 10 l || Lk.inL 13 l
def nameOk (n : List UInt8) : Bool := decide (n.length ≤ 64) && Lk.tokL n
def valOk (v : List UInt8) : Bool := decide (v.length ≤ 4096) && !badB v
def okH (h : Hd) : Bool := nameOk h.1 && valOk (Lk.trimL h.2)
def checkH (l : List Hd) : Int := if 32 < l.length then 4 else if l.all okH then 0 else 6
def normL (l : List Hd) : List Hd := l.map normH
def sameH (a b : List Hd) : Bool := decide (normL a = normL b)
def valsH (l : List Hd) (n : List UInt8) : List (List UInt8) := (l.filter (fun h => Lk.foldL h.1 n)).map (fun h => Lk.trimL h.2)
def gotH (l : List Hd) (n : List UInt8) : Bool := l.any (fun h => Lk.foldL h.1 n)
def getH (l : List Hd) (n : List UInt8) : List UInt8 := Lk.joinL (valsH l n)
def setR (n v : List UInt8) : Bool → List Hd → List Hd
  | _, [] => []
  | f, h :: r => if Lk.foldL h.1 n then (if f then setR n v true r else (h.1, v) :: setR n v true r) else h :: setR n v f r
def setH (l : List Hd) (n v : List UInt8) : List Hd := setR n v false l ++ (if gotH l n then [] else [(n, v)])

theorem fold_refl (a : List UInt8) : Lk.foldL a a = true := by simp [Lk.foldL]
theorem fold_trans {a b c : List UInt8} (h : Lk.foldL a b = true) : Lk.foldL a c = Lk.foldL b c := by
  have : Lk.lower a = Lk.lower b := by simpa [Lk.foldL] using h
  simp [Lk.foldL, this]
theorem fold_lower (a b : List UInt8) : Lk.foldL (Lk.lower a) b = Lk.foldL a b := by simp [Lk.foldL, Lk.lower_lower]
theorem fold_comm (a b : List UInt8) : Lk.foldL a b = Lk.foldL b a := by
  rw [Bool.eq_iff_iff]; simp [Lk.foldL]; exact ⟨Eq.symm, Eq.symm⟩

theorem vals_nil (n : List UInt8) : valsH [] n = [] := rfl
theorem vals_append (l m : List Hd) (n : List UInt8) : valsH (l ++ m) n = valsH l n ++ valsH m n := by simp [valsH]
theorem vals_cons (h : Hd) (l : List Hd) (n : List UInt8) : valsH (h :: l) n = (if Lk.foldL h.1 n then [Lk.trimL h.2] else []) ++ valsH l n := by
  simp only [valsH, List.filter_cons]
  split <;> simp
theorem vals_snoc (l : List Hd) (h : Hd) (n : List UInt8) : valsH (l ++ [h]) n = valsH l n ++ (if Lk.foldL h.1 n then [Lk.trimL h.2] else []) := by
  rw [vals_append, vals_cons, vals_nil, List.append_nil]
theorem got_append (l m : List Hd) (n : List UInt8) : gotH (l ++ m) n = (gotH l n || gotH m n) := by simp [gotH]
theorem got_cons (h : Hd) (l : List Hd) (n : List UInt8) : gotH (h :: l) n = (Lk.foldL h.1 n || gotH l n) := by simp [gotH]
theorem got_vals (l : List Hd) (n : List UInt8) : gotH l n = decide (0 < (valsH l n).length) := by
  induction l with
  | nil => rfl
  | cons h r ih =>
    rw [got_cons, vals_cons, ih]
    cases Lk.foldL h.1 n <;> simp

theorem setR_snoc (n v : List UInt8) (l : List Hd) (h : Hd) : ∀ f, setR n v f (l ++ [h]) = setR n v f l ++ (if Lk.foldL h.1 n then (if f || gotH l n then [] else [(h.1, v)]) else [h]) := by
  induction l with
  | nil => intro f; cases f <;> cases hf : Lk.foldL h.1 n <;> simp [setR, gotH, hf]
  | cons g r ih =>
    intro f
    rw [List.cons_append, got_cons]
    unfold setR
    cases hg : Lk.foldL g.1 n
    · simp [ih]
    · cases f <;> simp [ih]
theorem setR_none (n v : List UInt8) : ∀ (f : Bool) (l : List Hd), gotH l n = false → setR n v f l = l
  | _, [], _ => rfl
  | f, h :: r, hg => by
    rw [got_cons] at hg
    obtain ⟨h1, h2⟩ := Bool.or_eq_false_iff.1 hg
    rw [setR, h1, setR_none n v f r h2]; rfl
theorem setR_true_got (n v : List UInt8) : ∀ l : List Hd, gotH (setR n v true l) n = false
  | [] => rfl
  | h :: r => by
    rw [setR]
    cases hf : Lk.foldL h.1 n
    · simp [got_cons, hf, setR_true_got n v r]
    · simp [setR_true_got n v r]
theorem setR_true_vals (n v : List UInt8) (l : List Hd) : valsH (setR n v true l) n = [] := by
  have h := setR_true_got n v l
  rw [got_vals] at h
  simpa using h
theorem setR_false_vals (n v : List UInt8) : ∀ l : List Hd, gotH l n = true → valsH (setR n v false l) n = [Lk.trimL v]
  | [], h => by simp [gotH] at h
  | h :: r, hg => by
    rw [setR]
    cases hf : Lk.foldL h.1 n
    · rw [got_cons, hf] at hg
      simp [vals_cons, hf, setR_false_vals n v r (by simpa using hg)]
    · simp [vals_cons, hf, setR_true_vals]
theorem set_vals (l : List Hd) (n v : List UInt8) : valsH (setH l n v) n = [Lk.trimL v] := by
  unfold setH
  cases hg : gotH l n
  · rw [setR_none n v _ l hg, vals_append, if_neg (by simp), vals_cons]
    have : valsH l n = [] := by rw [got_vals] at hg; simpa using hg
    simp [this, fold_refl, vals_nil]
  · simp [setR_false_vals n v l hg]
theorem set_got (l : List Hd) (n v : List UInt8) : gotH (setH l n v) n = true := by rw [got_vals, set_vals]; rfl
theorem set_get (l : List Hd) (n v : List UInt8) : getH (setH l n v) n = Lk.trimL v := by unfold getH; rw [set_vals]; rfl
theorem setR_again (n v : List UInt8) : ∀ l : List Hd, gotH l n = true → setR n v false (setR n v false l) = setR n v false l
  | [], h => by simp [gotH] at h
  | h :: r, hg => by
    rw [setR]
    cases hf : Lk.foldL h.1 n
    · rw [got_cons, hf] at hg
      simp [setR, hf, setR_again n v r (by simpa using hg)]
    · simp [setR, hf, setR_none n v true _ (setR_true_got n v r)]
theorem set_set (l : List Hd) (n v : List UInt8) : setH (setH l n v) n v = setH l n v := by
  rw [show setH (setH l n v) n v = setR n v false (setH l n v) ++ (if gotH (setH l n v) n then [] else [(n, v)]) from rfl, set_got]
  simp only [if_true, List.append_nil]
  unfold setH
  cases hg : gotH l n
  · rw [setR_none n v _ l hg]
    simp [setR_snoc, fold_refl, hg, setR_none n v _ l hg]
  · simp [setR_again n v l hg]
theorem setR_other (n v o : List UInt8) (ho : Lk.foldL n o = false) : ∀ (f : Bool) (l : List Hd), valsH (setR n v f l) o = valsH l o
  | _, [] => rfl
  | f, h :: r => by
    rw [setR]
    cases hf : Lk.foldL h.1 n
    · simp [vals_cons, setR_other n v o ho f r]
    · have h2 : Lk.foldL h.1 o = false := (fold_trans hf).trans ho
      cases f <;> simp [vals_cons, h2, setR_other n v o ho true r]
theorem set_other (l : List Hd) (n v o : List UInt8) (ho : Lk.foldL n o = false) : valsH (setH l n v) o = valsH l o := by
  unfold setH
  rw [vals_append, setR_other n v o ho]
  split
  · simp [vals_nil]
  · simp [vals_cons, ho, vals_nil]
theorem set_len (l : List Hd) (n v : List UInt8) : (setH l n v).length ≤ l.length + 1 := by
  have h : ∀ (f : Bool) (l : List Hd), (setR n v f l).length ≤ l.length := by
    intro f l
    induction l generalizing f with
    | nil => simp [setR]
    | cons h r ih =>
      rw [setR]
      have h1 := ih true
      have h2 := ih f
      repeat' split
      all_goals simp; omega
  unfold setH
  have := h false l
  rw [List.length_append]
  split <;> simp <;> omega

theorem norm_norm (l : List Hd) : normL (normL l) = normL l := by
  simp [normL, normH, Lk.lower_lower, Lk.trim_trim]
theorem same_norm (l : List Hd) : sameH l (normL l) = true := by simp [sameH, norm_norm]
theorem vals_norm (l : List Hd) (n : List UInt8) : valsH (normL l) n = valsH l n := by
  induction l with
  | nil => rfl
  | cons h r ih =>
    show valsH (normH h :: normL r) n = _
    rw [vals_cons, vals_cons, ih]
    show (if Lk.foldL (Lk.lower h.1) n = true then [Lk.trimL (Lk.trimL h.2)] else []) ++ _ = _
    rw [fold_lower, Lk.trim_trim]
theorem get_norm (l : List Hd) (n : List UInt8) : getH (normL l) n = getH l n := by unfold getH; rw [vals_norm]
theorem got_norm (l : List Hd) (n : List UInt8) : gotH (normL l) n = gotH l n := by rw [got_vals, got_vals, vals_norm]
theorem ok_norm (h : Hd) : okH (normH h) = okH h := by
  simp [okH, normH, nameOk, Lk.lower_len, Lk.tokL_lower, Lk.trim_trim]
theorem check_norm (l : List Hd) : checkH (normL l) = checkH l := by
  have h : (normL l).all okH = l.all okH := by
    induction l with
    | nil => rfl
    | cons h r ih => show (normH h :: normL r).all okH = _; simp [ok_norm, ih]
  unfold checkH
  rw [h]
  simp [normL]

/-- what two lists have of a name, the one behind the other -/
theorem join_append : ∀ (a b : List (List UInt8)), a ≠ [] → b ≠ [] → Lk.joinL (a ++ b) = Lk.joinL a ++ [44, 32] ++ Lk.joinL b
  | [], _, h, _ => absurd rfl h
  | [x], b, _, hb => by
    match b, hb with
    | y :: r, _ => simp [Lk.joinL]
  | x :: y :: r, b, _, hb => by
    have := join_append (y :: r) b (by simp) hb
    simp only [List.cons_append] at this ⊢
    simp [Lk.joinL, this]
theorem vals_ne {l : List Hd} {n : List UInt8} (h : gotH l n = true) : valsH l n ≠ [] := by
  intro e; rw [got_vals, e] at h; simp at h
theorem vals_no {l : List Hd} {n : List UInt8} (h : gotH l n = false) : valsH l n = [] := by
  rw [got_vals] at h; simpa using h
theorem get_append (l m : List Hd) (n : List UInt8) : getH (l ++ m) n = if gotH l n && gotH m n then getH l n ++ [44, 32] ++ getH m n else getH l n ++ getH m n := by
  unfold getH
  rw [vals_append]
  cases h1 : gotH l n <;> cases h2 : gotH m n
  · simp [vals_no h1, vals_no h2, Lk.joinL]
  · simp [vals_no h1, Lk.joinL]
  · simp [vals_no h2, Lk.joinL]
  · simp [join_append _ _ (vals_ne h1) (vals_ne h2)]
end Go.Proofs.Ytinpfkbplflecaa
