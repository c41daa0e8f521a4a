/-
  What the statements on a cache ask of its mathematics. Plain lists and numbers. No conditions beyond those of each statement.
-/
import Derived.Test.YtoafncfknllghaaDoorBMath
namespace Go.Proofs.YtoafncfknllghaaDoor

theorem sweepL_all {t : Nat} {l : List En} (h : ∀ x ∈ l, t < x.t) : sweepL t l = l := by
  unfold sweepL
  rw [List.filter_eq_self]
  intro x hx
  have := h x hx
  simp [expB]; omega
theorem same_none {e : En} {l : List En} (h : ∀ x ∈ l, sameB e x = false) : ¬ l.findIdx (sameB e) < l.length := by
  have := List.findIdx_eq_length.2 h
  omega
/-- one that is not there yet -/
theorem putL_new {n : Nat} {e : En} {t : Nat} {l : List En} (hp : putB e t = true) (hs : ∀ x ∈ l, t < x.t) (hno : ∀ x ∈ l, sameB e x = false) : putL n e t l = roomL n l ++ [e] := by
  rw [putL_yes hp, sweepL_all hs, addL_no (same_none hno)]
theorem putL_grow {n : Nat} {e : En} {t : Nat} {l : List En} (hp : putB e t = true) (hs : ∀ x ∈ l, t < x.t) (hno : ∀ x ∈ l, sameB e x = false) (hl : l.length < n) : putL n e t l = l ++ [e] := by
  rw [putL_new hp hs hno, roomL_no (by omega)]
/-- one like the first -/
theorem putL_first {n : Nat} {e x : En} {t : Nat} {r : List En} (hp : putB e t = true) (hs : ∀ y ∈ x :: r, t < y.t) (hx : sameB e x = true) : putL n e t (x :: r) = timed x e.t :: r := by
  have h0 : (x :: r).findIdx (sameB e) = 0 := by rw [List.findIdx_cons, hx]; rfl
  rw [putL_yes hp, sweepL_all hs, addL_yes (by rw [h0]; simp), h0]
  rfl
theorem expB_no {t : Nat} {e : En} (h : t < e.t) : expB t e = false := decide_eq_false (by omega)
theorem putB_m {k : Cl} {m : ByteArray} {u t : Nat} (h : m ≠ noT) : putB ⟨k, m, noT, u⟩ t = decide (t < u) := by
  unfold putB okE noB expB
  rw [tB_no.2 h, tB_self, ← decide_not]
  simp
theorem putB_h {k : Cl} {m : ByteArray} {u t : Nat} (h : m ≠ noT) : putB ⟨k, noT, m, u⟩ t = decide (t < u) := by
  unfold putB okE noB expB
  rw [tB_no.2 h, tB_self, ← decide_not]
  simp
end Go.Proofs.YtoafncfknllghaaDoor
