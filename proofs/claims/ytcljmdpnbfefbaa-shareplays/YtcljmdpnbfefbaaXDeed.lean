/-
  A slice of the statement's calls that came in, opened: what its cells hold. For the frame of the statement. No conditions.
-/
import Derived.Test.YtcljmdpnbfefbaaXOpen
namespace Go.Proofs.Ytcljmdpnbfefbaa
open Go.ChangeShapes Go.WideShapes Go.ChangeAt Go.RowKit Go.Deep

/-- a call: which, whose, its want -/
structure Dd where
  op : Int
  id : Int
  w : Wt
/-- the cells of a call, from an address on -/
def dCs (x : Dd) : List Value := .int .i64 x.op :: .int .i64 x.id :: wCs x.w
structure DdAt (w : World) (p : Addr) (x : Dd) : Prop where
  c0 : w.cell? p = some (.int .i64 x.op)
  c1 : w.cell? ⟨p.block, p.off + 1, none⟩ = some (.int .i64 x.id)
  c2 : w.cell? ⟨p.block, p.off + 2, none⟩ = some (.string x.w.o)
  c3 : w.cell? ⟨p.block, p.off + 3, none⟩ = some (.string x.w.u)
  c4 : w.cell? ⟨p.block, p.off + 4, none⟩ = some (.bool x.w.c)
  c5 : w.cell? ⟨p.block, p.off + 5, none⟩ = some (.string x.w.m)
  c6 : w.cell? ⟨p.block, p.off + 6, none⟩ = some (.string x.w.s)
theorem DdAt.below {w w' : World} {p : Addr} {x : Dd} (h : DdAt w p x) (hb : Below w.heap.size w w') : DdAt w' p x := by
  have hl : p.block < w.heap.size := block_of_cell h.c0
  exact ⟨(hb.cell (p := p) hl).trans h.c0, (hb.cell (p := ⟨p.block, p.off + 1, none⟩) hl).trans h.c1, (hb.cell (p := ⟨p.block, p.off + 2, none⟩) hl).trans h.c2, (hb.cell (p := ⟨p.block, p.off + 3, none⟩) hl).trans h.c3,
    (hb.cell (p := ⟨p.block, p.off + 4, none⟩) hl).trans h.c4, (hb.cell (p := ⟨p.block, p.off + 5, none⟩) hl).trans h.c5, (hb.cell (p := ⟨p.block, p.off + 6, none⟩) hl).trans h.c6⟩
def DdWf (x : Dd) : Prop := (Lit.int .i64 x.op).wf = true ∧ (Lit.int .i64 x.id).wf = true ∧ WtWf x.w
def DArg (w : World) (a : Option Addr) (c : Nat) (xs : List Dd) : Prop :=
  (∀ j x, xs[j]? = some x → ∃ ad, a = some ad ∧ DdAt w (ad.add (j * 7)) x) ∧ (∀ x ∈ xs, DdWf x) ∧ xs.length ≤ c ∧ c ≤ maxLen
theorem DArg.none_ (w : World) : DArg w none 0 [] := ⟨fun j x h => by simp at h, by simp, Nat.le_refl _, Nat.zero_le _⟩
theorem cellsDd : Try.prog.cellsOf 33 = 7 := by kernel_rfl
theorem cellsIn : Try.prog.cellsOf 3 = 1 := by kernel_rfl
theorem list7 {α : Type} {cs : List α} (h : cs.length = 7) : ∃ c0 c1 c2 c3 c4 c5 c6, cs = [c0, c1, c2, c3, c4, c5, c6] := by
  match cs, h with
  | [c0, c1, c2, c3, c4, c5, c6], _ => exact ⟨c0, c1, c2, c3, c4, c5, c6, rfl⟩
theorem open_deed {H : Type} {enc : TypeId × Value → H} {w : World} {base : Nat} {spare : Nat → Bool} {held : Bool} {n : Nat} {cs : List Value} {y : DataW H × List MemPlace} (h : DataW.trod enc Try.prog w base spare held n 33 cs = some y) :
    ∃ x : Dd, cs = dCs x ∧ DdWf x := by
  obtain ⟨xs, m, _, _, hl, hxl, hg⟩ := DataW.trod_struct Try.underlying33 h
  obtain ⟨c0, c1, c2, c3, c4, c5, c6, rfl⟩ := list7 (hl.trans cellsDd)
  have h0 : DataW.trod enc Try.prog w base spare held m 3 (([c0, c1, c2, c3, c4, c5, c6].drop 0).take (Try.prog.cellsOf 3)) = xs[0]? := hg 0 _ rfl
  have h1 : DataW.trod enc Try.prog w base spare held m 3 (([c0, c1, c2, c3, c4, c5, c6].drop 1).take (Try.prog.cellsOf 3)) = xs[1]? := hg 1 _ rfl
  have h2 : DataW.trod enc Try.prog w base spare held m 31 (([c0, c1, c2, c3, c4, c5, c6].drop 2).take (Try.prog.cellsOf 31)) = xs[2]? := hg 2 _ rfl
  rw [cellsIn] at h0 h1
  rw [cellsWt] at h2
  rw [List.getElem?_eq_getElem (by rw [hxl]; decide)] at h0 h1 h2
  have h0' : DataW.trod enc Try.prog w base spare held m 3 [c0] = some _ := h0
  have h1' : DataW.trod enc Try.prog w base spare held m 3 [c1] = some _ := h1
  have h2' : DataW.trod enc Try.prog w base spare held m 31 [c2, c3, c4, c5, c6] = some _ := h2
  obtain ⟨a0, e0, _, w0⟩ := DataW.trod_int Try.underlying3 h0'
  obtain ⟨a1, e1, _, w1⟩ := DataW.trod_int Try.underlying3 h1'
  obtain ⟨k, e2, w2⟩ := open_wcs h2'
  simp only [List.cons.injEq, and_true] at e0 e1
  subst e0 e1
  refine ⟨⟨a0, a1, k⟩, ?_, w0, w1, w2⟩
  unfold dCs
  rw [← e2]
theorem DdAt.mk_ {w : World} {a : Addr} {i : Nat} {x : Dd} (h : ∀ j v, (dCs x)[j]? = some v → w.cell? (a.add (i * 7 + j)) = some v) : DdAt w (a.add (i * 7)) x := by
  have g0 := h 0 _ rfl
  have g1 := h 1 _ rfl
  have g2 := h 2 _ rfl
  have g3 := h 3 _ rfl
  have g4 := h 4 _ rfl
  have g5 := h 5 _ rfl
  have g6 := h 6 _ rfl
  rw [add_slot a _ 0] at g1
  rw [add_slot a _ 1] at g2
  rw [add_slot a _ 2] at g3
  rw [add_slot a _ 3] at g4
  rw [add_slot a _ 4] at g5
  rw [add_slot a _ 5] at g6
  exact ⟨g0, g1, g2, g3, g4, g5, g6⟩
theorem open_deeds {H : Type} {enc : TypeId × Value → H} {W : World} {a : Option Addr} {len cap : Nat} {d : DataW H} {p : List MemPlace} (h : DataW.Trod enc Try.prog W 0 (fun _ => true) true 22 (.slice a len cap) d p) :
    ∃ xs : List Dd, len = xs.length ∧ DArg W a cap xs := by
  obtain ⟨fuel, hf⟩ := h
  rcases open_slice_els Try.underlying22 cellsDd hf with hcs | ⟨x, l, c, hcs, hl, hm, hel⟩
  · simp [Value.cells] at hcs
    obtain ⟨rfl, rfl, rfl⟩ := hcs
    exact ⟨[], rfl, DArg.none_ _⟩
  · simp [Value.cells] at hcs
    obtain ⟨rfl, rfl, rfl⟩ := hcs
    obtain ⟨xs, hxl, hx⟩ := list_upto (p := fun i (q : Dd) => DdAt W (x.add (i * 7)) q ∧ DdWf q) len (fun i hi => by
      obtain ⟨ys, y, n, _, hc, ht⟩ := hel i hi
      obtain ⟨q, rfl, w0⟩ := open_deed ht
      exact ⟨q, DdAt.mk_ hc, w0⟩)
    refine ⟨xs, hxl.symm, ⟨fun j y hj => ⟨x, rfl, (hx j y hj).1⟩, fun y hy => ?_, by omega, hm⟩⟩
    obtain ⟨j, hj⟩ := List.mem_iff_getElem?.1 hy
    exact (hx j y hj).2
end Go.Proofs.Ytcljmdpnbfefbaa
