/-
  Slices of structs with structs inside that came in, opened; an entry that came in. For the frames of the statements. No conditions.
-/
import Derived.Test.YtoafncfknllghaaDoorBRow
import Derived.Test.YtoafncfknllghaaDoorLDeed
namespace Go.Proofs.YtoafncfknllghaaDoor
open Go.ChangeShapes Go.WideShapes Go.ChangeAt Go.RowKit Go.Deep Go.Joins

section
variable {H : Type} {enc : TypeId × Value → H} {P : Program} {w : World} {base : Nat} {spare : Nat → Bool} {held : Bool}
/-- the cells of a slice, element by element -/
theorem open_slice_els {t e : TypeId} {fuel m : Nat} {cs : List Value} {x : DataW H × List MemPlace} (ht : P.underlying t = some (.slice e)) (ce : P.cellsOf e = m) (h : DataW.trod enc P w base spare held fuel t cs = some x) :
    cs = [.slice none 0 0] ∨ ∃ (a : Addr) (len cap : Nat), cs = [.slice (some a) len cap] ∧ len ≤ cap ∧ cap ≤ maxLen ∧
      ∀ i, i < len → ∃ (xs : List Value) (y : DataW H × List MemPlace) (n : Nat), xs.length = m ∧ (∀ j v, xs[j]? = some v → w.cell? (a.add (i * m + j)) = some v) ∧ DataW.trod enc P w base spare held n e xs = some y := by
  rcases open_slice ht h with h0 | ⟨a, len, cap, k, n, D, Pl, rfl, hb, hl, hm, hmm, rfl, hx⟩
  · exact Or.inl h0.1
  right
  have hlm : len ≤ k := by rw [hmm]; split <;> omega
  refine ⟨a, len, cap, rfl, hl, hm, ?_⟩
  intro i hi
  obtain ⟨cs', h1, h2⟩ := hx i (by omega)
  rw [ce] at h1
  obtain ⟨_, hlen, hcell⟩ := World.cells?_some h1
  refine ⟨cs', _, _, hlen, ?_, h2⟩
  intro j v hj
  have hjl : j < cs'.length := (List.getElem?_eq_some_iff.1 hj).1
  have e0 := hcell j (by omega)
  rw [add_add] at e0
  rw [e0]; exact hj
end
theorem list3 {α : Type} {cs : List α} (h : cs.length = 3) : ∃ c0 c1 c2, cs = [c0, c1, c2] := by
  match cs, h with
  | [c0, c1, c2], _ => exact ⟨c0, c1, c2, rfl⟩
theorem list6 {α : Type} {cs : List α} (h : cs.length = 6) : ∃ c0 c1 c2 c3 c4 c5, cs = [c0, c1, c2, c3, c4, c5] := by
  match cs, h with
  | [c0, c1, c2, c3, c4, c5], _ => exact ⟨c0, c1, c2, c3, c4, c5, rfl⟩
theorem list8 {α : Type} {cs : List α} (h : cs.length = 8) : ∃ c0 c1 c2 c3 c4 c5 c6 c7, cs = [c0, c1, c2, c3, c4, c5, c6, c7] := by
  match cs, h with
  | [c0, c1, c2, c3, c4, c5, c6, c7], _ => exact ⟨c0, c1, c2, c3, c4, c5, c6, c7, rfl⟩
theorem cellsEn : Tryd.prog.cellsOf 34 = 6 := by kernel_rfl
theorem cellsCl : Tryd.prog.cellsOf 24 = 3 := by kernel_rfl
theorem cellsSt : Tryd.prog.cellsOf 9 = 1 := by kernel_rfl
theorem cellsBo : Tryd.prog.cellsOf 4 = 1 := by kernel_rfl
theorem cellsU6 : Tryd.prog.cellsOf 26 = 1 := by kernel_rfl
/-- an entry that came in -/
structure EnWf (e : En) : Prop where
  o : e.k.o.size ≤ maxLen
  u : e.k.u.size ≤ maxLen
  m : e.m.size ≤ maxLen
  h : e.h.size ≤ maxLen
  t : (e.t : Int) ≤ 18446744073709551615
theorem open_cell {H : Type} {enc : TypeId × Value → H} {w : World} {base : Nat} {spare : Nat → Bool} {held : Bool} {n : Nat} {cs : List Value} {y : DataW H × List MemPlace} (h : DataW.trod enc Tryd.prog w base spare held n 24 cs = some y) :
    ∃ k : Cl, cs = [.string k.o, .string k.u, .bool k.c] ∧ k.o.size ≤ maxLen ∧ k.u.size ≤ maxLen := by
  obtain ⟨xs, m, _, _, hl, hxl, hg⟩ := DataW.trod_struct Tryd.underlying24 h
  obtain ⟨c0, c1, c2, rfl⟩ := list3 (hl.trans cellsCl)
  have h0 : DataW.trod enc Tryd.prog w base spare held m 9 (([c0, c1, c2].drop 0).take (Tryd.prog.cellsOf 9)) = xs[0]? := hg 0 _ rfl
  have h1 : DataW.trod enc Tryd.prog w base spare held m 9 (([c0, c1, c2].drop 1).take (Tryd.prog.cellsOf 9)) = xs[1]? := hg 1 _ rfl
  have h2 : DataW.trod enc Tryd.prog w base spare held m 4 (([c0, c1, c2].drop 2).take (Tryd.prog.cellsOf 4)) = xs[2]? := hg 2 _ rfl
  rw [cellsSt] at h0 h1
  rw [cellsBo] at h2
  rw [List.getElem?_eq_getElem (by rw [hxl]; decide)] at h0 h1 h2
  have h0' : DataW.trod enc Tryd.prog w base spare held m 9 [c0] = some _ := h0
  have h1' : DataW.trod enc Tryd.prog w base spare held m 9 [c1] = some _ := h1
  have h2' : DataW.trod enc Tryd.prog w base spare held m 4 [c2] = some _ := h2
  obtain ⟨a0, e0, _, w0⟩ := DataW.trod_string Tryd.underlying9 h0'
  obtain ⟨a1, e1, _, w1⟩ := DataW.trod_string Tryd.underlying9 h1'
  obtain ⟨a2, e2, _⟩ := DataW.trod_bool Tryd.underlying4 h2'
  simp only [List.cons.injEq, and_true] at e0 e1 e2
  subst e0 e1 e2
  exact ⟨⟨a0, a1, a2⟩, rfl, w0, w1⟩
theorem open_ent {H : Type} {enc : TypeId × Value → H} {w : World} {base : Nat} {spare : Nat → Bool} {held : Bool} {n : Nat} {cs : List Value} {y : DataW H × List MemPlace} (h : DataW.trod enc Tryd.prog w base spare held n 34 cs = some y) :
    ∃ e : En, cs = eCs e ∧ EnWf e := by
  obtain ⟨xs, m, _, _, hl, hxl, hg⟩ := DataW.trod_struct Tryd.underlying34 h
  obtain ⟨c0, c1, c2, c3, c4, c5, rfl⟩ := list6 (hl.trans cellsEn)
  have h0 : DataW.trod enc Tryd.prog w base spare held m 24 (([c0, c1, c2, c3, c4, c5].drop 0).take (Tryd.prog.cellsOf 24)) = xs[0]? := hg 0 _ rfl
  have h1 : DataW.trod enc Tryd.prog w base spare held m 9 (([c0, c1, c2, c3, c4, c5].drop 3).take (Tryd.prog.cellsOf 9)) = xs[1]? := hg 1 _ rfl
  have h2 : DataW.trod enc Tryd.prog w base spare held m 9 (([c0, c1, c2, c3, c4, c5].drop 4).take (Tryd.prog.cellsOf 9)) = xs[2]? := hg 2 _ rfl
  have h3 : DataW.trod enc Tryd.prog w base spare held m 26 (([c0, c1, c2, c3, c4, c5].drop 5).take (Tryd.prog.cellsOf 26)) = xs[3]? := hg 3 _ rfl
  rw [cellsCl] at h0
  rw [cellsSt] at h1 h2
  rw [cellsU6] at h3
  rw [List.getElem?_eq_getElem (by rw [hxl]; decide)] at h0 h1 h2 h3
  have h0' : DataW.trod enc Tryd.prog w base spare held m 24 [c0, c1, c2] = some _ := h0
  have h1' : DataW.trod enc Tryd.prog w base spare held m 9 [c3] = some _ := h1
  have h2' : DataW.trod enc Tryd.prog w base spare held m 9 [c4] = some _ := h2
  have h3' : DataW.trod enc Tryd.prog w base spare held m 26 [c5] = some _ := h3
  obtain ⟨k, e0, w0, w1⟩ := open_cell h0'
  obtain ⟨a1, e1, _, w2⟩ := DataW.trod_string Tryd.underlying9 h1'
  obtain ⟨a2, e2, _, w3⟩ := DataW.trod_string Tryd.underlying9 h2'
  obtain ⟨a3, e3, _, w4⟩ := DataW.trod_int Tryd.underlying26 h3'
  have hb := wfU w4
  obtain ⟨t, ht⟩ : ∃ t : Nat, a3 = (t : Int) := ⟨a3.toNat, by omega⟩
  subst ht
  simp only [List.cons.injEq, and_true] at e0 e1 e2 e3
  obtain ⟨rfl, rfl, rfl⟩ := e0
  subst e1 e2 e3
  exact ⟨⟨k, a1, a2, t⟩, rfl, w0, w1, w2, w3, hb.2⟩
end Go.Proofs.YtoafncfknllghaaDoor
