/-
  Mathematics of a ring: what a row of bytes holds from a place on, going on at its beginning; a piece laid behind it; its beginning taken. Plain lists. No conditions.
-/
import Derived.Laws.CopyOwn
namespace Go.Proofs.Ytaadffheadimpaa

/-- a place, counted anew behind n -/
def wrapN (n a : Nat) : Nat := if a < n then a else a - n
theorem wrapN_mod {n a : Nat} (h : a < 2 * n) : a % n = wrapN n a := by
  unfold wrapN
  split
  · exact Nat.mod_eq_of_lt ‹_›
  · rw [Nat.mod_eq_sub_mod (by omega), Nat.mod_eq_of_lt (by omega)]
theorem wrapN_lt {n a : Nat} (h : a < 2 * n) : wrapN n a < n := by unfold wrapN; split <;> omega
theorem splice_at {α : Type} (L : List α) (off : Nat) (cs : List α) (h : off + cs.length ≤ L.length) (j : Nat) :
    (splice L off cs)[j]? = if j < off then L[j]? else if j < off + cs.length then cs[j - off]? else L[j]? := by
  unfold splice
  have e1 : (L.take off).length = off := by simp; omega
  split
  · rw [List.getElem?_append_left (by omega), List.getElem?_take, if_pos (by omega)]
  · rw [List.getElem?_append_right (by omega), e1]
    split
    · rw [List.getElem?_append_left (by omega)]
    · rw [List.getElem?_append_right (by omega), List.getElem?_drop]
      congr 1
      omega
/-- from s on the row holds l -/
structure Laid (D : List UInt8) (s : Nat) (l : List UInt8) : Prop where
  lt : s < D.length
  fits : l.length ≤ D.length
  holds : ∀ j, j < l.length → D[wrapN D.length (s + j)]? = l[j]?
theorem Laid.nil {D : List UInt8} {s : Nat} (h : s < D.length) : Laid D s [] := ⟨h, by simp, by simp⟩
/-- the first n go -/
theorem Laid.drop {D : List UInt8} {s : Nat} {l : List UInt8} (h : Laid D s l) {n : Nat} (hn : n ≤ l.length) : Laid D (wrapN D.length (s + n)) (l.drop n) := by
  have h1 := h.lt
  have h2 := h.fits
  refine ⟨wrapN_lt (by omega), by simp; omega, fun j hj => ?_⟩
  rw [List.length_drop] at hj
  rw [List.getElem?_drop, ← h.holds (n + j) (by omega)]
  congr 1
  unfold wrapN
  split <;> split <;> split <;> omega
/-- a piece is laid behind -/
theorem Laid.put {D : List UInt8} {s : Nat} {l : List UInt8} (h : Laid D s l) {b : List UInt8} {p u : Nat} (hb : 0 < b.length) (hf : l.length + b.length ≤ D.length) (hp : p = wrapN D.length (s + l.length)) (hu : u = min b.length (D.length - p)) :
    Laid (splice (splice D p (b.take u)) 0 (b.drop u)) s (l ++ b) := by
  have h1 := h.lt
  have h2 := h.fits
  have hpl : p < D.length := by rw [hp]; exact wrapN_lt (by omega)
  have hul : (b.take u).length = u := by simp; omega
  have hdl : (b.drop u).length = b.length - u := by simp
  have e1 : (splice D p (b.take u)).length = D.length := length_splice _ _ _ (by rw [hul]; omega)
  have e2 : (splice (splice D p (b.take u)) 0 (b.drop u)).length = D.length := by rw [length_splice _ _ _ (by rw [hdl, e1]; omega), e1]
  refine ⟨by rw [e2]; exact h1, by rw [e2]; simpa using hf, fun j hj => ?_⟩
  rw [e2, splice_at _ _ _ (by rw [hdl, e1]; omega), splice_at _ _ _ (by rw [hul]; omega), hul, hdl]
  rw [List.length_append] at hj
  unfold wrapN at hp
  by_cases hjl : j < l.length
  · rw [List.getElem?_append_left hjl, ← h.holds j hjl]
    have hq : wrapN D.length (s + j) < D.length := wrapN_lt (by omega)
    unfold wrapN at hq ⊢
    split at hp <;> split <;> (repeat' split) <;> first | rfl | omega
  · rw [List.getElem?_append_right (by omega)]
    have hq : wrapN D.length (s + j) < D.length := wrapN_lt (by omega)
    by_cases hw : j - l.length < u
    · have hqe : wrapN D.length (s + j) = p + (j - l.length) := by
        unfold wrapN
        split at hp <;> split <;> omega
      rw [hqe, if_neg (by omega), if_neg (by omega), if_neg (by omega), if_pos (by omega), List.getElem?_take, if_pos (by omega)]
      congr 1
      omega
    · have hqe : wrapN D.length (s + j) = j - l.length - u := by
        unfold wrapN
        split at hp <;> split <;> omega
      rw [hqe, if_neg (by omega), if_pos (by omega), List.getElem?_drop]
      congr 1
      omega
/-- the first n, laid into a row of their own -/
theorem Laid.first {D : List UInt8} {s : Nat} {l : List UInt8} (h : Laid D s l) {Z : List UInt8} {n u : Nat} (hn : n ≤ l.length) (hZ : Z.length = n) (hu : u = min n (D.length - s)) :
    splice (splice Z 0 ((D.drop s).take u)) u (D.take (n - u)) = l.take n := by
  have h1 := h.lt
  have h2 := h.fits
  have hul : ((D.drop s).take u).length = u := by simp; omega
  have hdl : (D.take (n - u)).length = n - u := by simp; omega
  have e1 : (splice Z 0 ((D.drop s).take u)).length = n := by rw [length_splice _ _ _ (by rw [hul]; omega), hZ]
  apply List.ext_getElem?
  intro j
  rw [splice_at _ _ _ (by rw [hdl, e1]; omega), splice_at _ _ _ (by rw [hul]; omega), hul, hdl, show (l.take n)[j]? = if j < n then l[j]? else none from List.getElem?_take]
  by_cases hj : j < n
  · rw [if_pos hj, ← h.holds j (by omega)]
    by_cases hw : j < u
    · rw [if_pos hw, if_neg (by omega), if_pos (by omega), List.getElem?_take, if_pos (by omega), List.getElem?_drop]
      congr 1
      unfold wrapN
      split <;> omega
    · rw [if_neg hw, if_pos (by omega), List.getElem?_take, if_pos (by omega)]
      congr 1
      unfold wrapN
      split <;> omega
  · rw [if_neg hj, if_neg (by omega), if_neg (by omega), if_neg (by omega), if_neg (by omega)]
    exact List.getElem?_eq_none (by omega)
end Go.Proofs.Ytaadffheadimpaa
