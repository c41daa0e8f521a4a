/-
  Slices of bytes that came in, opened: one, and a slice of them. For the frame of the statement. No conditions.
-/
import Derived.Test.YtbnmldfiheffoaaKDeed
import Derived.Test.YtbnmldfiheffoaaKByte
namespace Go.Proofs.Ytbnmldfiheffoaa
open Go.ChangeShapes Go.WideShapes Go.ChangeAt Go.RowKit Go.Deep

/-- bytes that came in: where, their room -/
structure Bs where
  at_ : Option Addr
  cap : Nat
  l : List UInt8
/-- they lie there, whatever is done beside them -/
structure BsAt (w : World) (x : Bs) : Prop where
  nil : x.at_ = none → x.cap = 0
  room : x.l.length ≤ x.cap
  most : x.cap ≤ maxLen
  lies : ∀ w' f, Only f w w' → (∀ y ∈ f, w.heap.size ≤ y) → BArg w' f x.at_ x.l
theorem BsAt.arg {w w' : World} {x : Bs} (h : BsAt w x) {f : List Nat} (o : Only f w w') (hf : ∀ y ∈ f, w.heap.size ≤ y) : BArg w' f x.at_ x.l := h.lies w' f o hf

section
variable {H : Type} {enc : TypeId × Value → H} {P : Program} {w : World} {base : Nat} {spare : Nat → Bool} {held : Bool}
/-- the cells of a slice of one-cell elements -/
theorem open_slice_ones {t e : TypeId} {fuel : Nat} {cs : List Value} {x : DataW H × List MemPlace} (ht : P.underlying t = some (.slice e)) (ce : P.cellsOf e = 1) (h : DataW.trod enc P w base spare held fuel t cs = some x) :
    cs = [.slice none 0 0] ∨ ∃ (a : Addr) (len cap : Nat), cs = [.slice (some a) len cap] ∧ len ≤ cap ∧ cap ≤ maxLen ∧
      ∀ i, i < len → ∃ (v : Value) (y : DataW H × List MemPlace) (n : Nat), w.cell? (a.add i) = some v ∧ DataW.trod enc P w base spare held n e [v] = some y := by
  rcases open_slice ht h with h0 | ⟨a, len, cap, m, n, D, Pl, rfl, hb, hl, hm, hmm, rfl, hx⟩
  · exact Or.inl h0.1
  right
  have hlm : len ≤ m := by rw [hmm]; split <;> omega
  refine ⟨a, len, cap, rfl, hl, hm, fun i hi => ?_⟩
  obtain ⟨cs', h1, h2⟩ := hx i (by omega)
  rw [ce] at h1
  obtain ⟨_, hlen, hcell⟩ := World.cells?_some h1
  have e0 := hcell 0 (by omega)
  rw [add_add, Nat.mul_one, Nat.add_zero] at e0
  have hone : cs' = [cs'[0]] := by
    match cs', hlen with
    | [v], _ => rfl
  refine ⟨cs'[0], (D i, Pl i), n, e0.trans (List.getElem?_eq_getElem (by omega)), ?_⟩
  rw [hone] at h2
  exact h2
end
/-- a slice of slices of bytes -/
def RowsArg (w : World) (a : Option Addr) (c : Nat) (xs : List Bs) : Prop :=
  (∀ j x, xs[j]? = some x → ∃ ad, a = some ad ∧ ad.block < w.heap.size ∧ w.cell? (ad.add j) = some (.slice x.at_ x.l.length x.cap)) ∧ (∀ x ∈ xs, BsAt w x) ∧ xs.length ≤ c ∧ c ≤ maxLen
theorem RowsArg.none_ (w : World) : RowsArg w none 0 [] := ⟨fun j x h => by simp at h, by simp, Nat.le_refl _, Nat.zero_le _⟩
end Go.Proofs.Ytbnmldfiheffoaa
