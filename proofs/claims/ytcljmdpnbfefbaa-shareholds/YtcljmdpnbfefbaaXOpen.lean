/-
  Slices of structs with structs inside that came in, opened; a want that came in; the statements' calls. For the frames of the statements. No conditions.
-/
import Derived.Test.YtcljmdpnbfefbaaXAwake
import Derived.Test.YtcljmdpnbfefbaaKDeed
import Derived.Lib.SmallJoins
import Derived.Deep.Strs
namespace Go.Proofs.Ytcljmdpnbfefbaa
open Go.ChangeShapes Go.WideShapes Go.ChangeAt Go.RowKit Go.Deep Go.Joins

section
variable {H : Type} {enc : TypeId × Value → H} {P : Program} {w : World} {base : Nat} {spare : Nat → Bool} {held : Bool}
/-- the cells of a slice, element by element -/
theorem open_slice_els {t e : TypeId} {fuel m : Nat} {cs : List Value} {x : DataW H × List MemPlace} (ht : P.underlying t = some (.slice e)) (ce : P.cellsOf e = m) (h : DataW.trod enc P w base spare held fuel t cs = some x) :
    cs = [.slice none 0 0] ∨ ∃ (a : Addr) (len cap : Nat), cs = [.slice (some a) len cap] ∧ len ≤ cap ∧ cap ≤ maxLen ∧
      ∀ i, i < len → ∃ (xs : List Value) (y : DataW H × List MemPlace) (n : Nat), xs.length = m ∧ (∀ j v, xs[j]? = some v → w.cell? (a.add (i * m + j)) = some v) ∧ DataW.trod enc P w base spare held n e xs = some y := by
  rcases open_slice ht h with h0 | ⟨a, len, cap, k, n, D, Pl, rfl, hb, hl, hm, hmm, rfl, hx⟩
  · exact Or.inl h0.1
  right
  have hlm : len ≤ k := by rw [hmm]; split <;> omega
  refine ⟨a, len, cap, rfl, hl, hm, ?_⟩
  intro i hi
  obtain ⟨cs', h1, h2⟩ := hx i (by omega)
  rw [ce] at h1
  obtain ⟨_, hlen, hcell⟩ := World.cells?_some h1
  refine ⟨cs', _, _, hlen, ?_, h2⟩
  intro j v hj
  have hjl : j < cs'.length := (List.getElem?_eq_some_iff.1 hj).1
  have e0 := hcell j (by omega)
  rw [add_add] at e0
  rw [e0]; exact hj
end
theorem list3 {α : Type} {cs : List α} (h : cs.length = 3) : ∃ c0 c1 c2, cs = [c0, c1, c2] := by
  match cs, h with
  | [c0, c1, c2], _ => exact ⟨c0, c1, c2, rfl⟩
theorem list5 {α : Type} {cs : List α} (h : cs.length = 5) : ∃ c0 c1 c2 c3 c4, cs = [c0, c1, c2, c3, c4] := by
  match cs, h with
  | [c0, c1, c2, c3, c4], _ => exact ⟨c0, c1, c2, c3, c4, rfl⟩
theorem array5 {α : Type} {cs : Array α} (h : cs.size = 5) : ∃ c0 c1 c2 c3 c4, cs = #[c0, c1, c2, c3, c4] := by
  obtain ⟨l⟩ := cs
  match l, h with
  | [c0, c1, c2, c3, c4], _ => exact ⟨c0, c1, c2, c3, c4, rfl⟩
theorem cellsWt : Try.prog.cellsOf 31 = 5 := by kernel_rfl
theorem cellsCl : Try.prog.cellsOf 29 = 3 := by kernel_rfl
theorem cellsSt : Try.prog.cellsOf 9 = 1 := by kernel_rfl
theorem cellsBo : Try.prog.cellsOf 4 = 1 := by kernel_rfl
/-- a want's cells -/
def wCs (k : Wt) : List Value := [.string k.o, .string k.u, .bool k.c, .string k.m, .string k.s]
theorem open_wcs {H : Type} {enc : TypeId × Value → H} {w : World} {base : Nat} {spare : Nat → Bool} {held : Bool} {n : Nat} {cs : List Value} {y : DataW H × List MemPlace} (h : DataW.trod enc Try.prog w base spare held n 31 cs = some y) :
    ∃ k : Wt, cs = wCs k ∧ WtWf k := by
  obtain ⟨xs, m, _, _, hl, hxl, hg⟩ := DataW.trod_struct Try.underlying31 h
  obtain ⟨c0, c1, c2, c3, c4, rfl⟩ := list5 (hl.trans cellsWt)
  have h0 : DataW.trod enc Try.prog w base spare held m 29 (([c0, c1, c2, c3, c4].drop 0).take (Try.prog.cellsOf 29)) = xs[0]? := hg 0 _ rfl
  have h1 : DataW.trod enc Try.prog w base spare held m 9 (([c0, c1, c2, c3, c4].drop 3).take (Try.prog.cellsOf 9)) = xs[1]? := hg 1 _ rfl
  have h2 : DataW.trod enc Try.prog w base spare held m 9 (([c0, c1, c2, c3, c4].drop 4).take (Try.prog.cellsOf 9)) = xs[2]? := hg 2 _ rfl
  rw [cellsCl] at h0
  rw [cellsSt] at h1 h2
  rw [List.getElem?_eq_getElem (by rw [hxl]; decide)] at h0 h1 h2
  have h0' : DataW.trod enc Try.prog w base spare held m 29 [c0, c1, c2] = some _ := h0
  have h1' : DataW.trod enc Try.prog w base spare held m 9 [c3] = some _ := h1
  have h2' : DataW.trod enc Try.prog w base spare held m 9 [c4] = some _ := h2
  obtain ⟨zs, p, _, _, kl, kxl, kg⟩ := DataW.trod_struct Try.underlying29 h0'
  have k0 : DataW.trod enc Try.prog w base spare held p 9 (([c0, c1, c2].drop 0).take (Try.prog.cellsOf 9)) = zs[0]? := kg 0 _ rfl
  have k1 : DataW.trod enc Try.prog w base spare held p 9 (([c0, c1, c2].drop 1).take (Try.prog.cellsOf 9)) = zs[1]? := kg 1 _ rfl
  have k2 : DataW.trod enc Try.prog w base spare held p 4 (([c0, c1, c2].drop 2).take (Try.prog.cellsOf 4)) = zs[2]? := kg 2 _ rfl
  rw [cellsSt] at k0 k1
  rw [cellsBo] at k2
  rw [List.getElem?_eq_getElem (by rw [kxl]; decide)] at k0 k1 k2
  have k0' : DataW.trod enc Try.prog w base spare held p 9 [c0] = some _ := k0
  have k1' : DataW.trod enc Try.prog w base spare held p 9 [c1] = some _ := k1
  have k2' : DataW.trod enc Try.prog w base spare held p 4 [c2] = some _ := k2
  obtain ⟨a0, e0, _, w0⟩ := DataW.trod_string Try.underlying9 k0'
  obtain ⟨a1, e1, _, w1⟩ := DataW.trod_string Try.underlying9 k1'
  obtain ⟨a2, e2, _⟩ := DataW.trod_bool Try.underlying4 k2'
  obtain ⟨a3, e3, _, w3⟩ := DataW.trod_string Try.underlying9 h1'
  obtain ⟨a4, e4, _, w4⟩ := DataW.trod_string Try.underlying9 h2'
  simp only [List.cons.injEq, and_true] at e0 e1 e2 e3 e4
  subst e0 e1 e2 e3 e4
  exact ⟨⟨a0, a1, a2, a3, a4⟩, rfl, w0, w1, w3, w4⟩
theorem open_want {H : Type} {enc : TypeId × Value → H} {w : World} {base : Nat} {spare : Nat → Bool} {held : Bool} {r : Reach} {b0 : Nat} {v : Value} {d : DataW H} {p : List MemPlace}
    (hv : Value.okWide Try.prog w r b0 31 v) (h : DataW.Trod enc Try.prog w base spare held 31 v d p) : ∃ k : Wt, v = wV k ∧ WtWf k := by
  obtain ⟨cs, rfl, hsz⟩ := okWide_struct Try.underlying31 hv
  obtain ⟨c0, c1, c2, c3, c4, rfl⟩ := array5 (hsz.trans cellsWt)
  obtain ⟨fuel, hf⟩ := h
  have hf' : DataW.trod enc Try.prog w base spare held fuel 31 [c0, c1, c2, c3, c4] = some (d, p) := hf
  obtain ⟨k, e, hk⟩ := open_wcs hf'
  unfold wCs at e
  simp only [List.cons.injEq, and_true] at e
  obtain ⟨rfl, rfl, rfl, rfl, rfl⟩ := e
  exact ⟨k, rfl, hk⟩
end Go.Proofs.Ytcljmdpnbfefbaa
