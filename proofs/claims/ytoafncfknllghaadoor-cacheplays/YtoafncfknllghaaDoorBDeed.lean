/-
  A slice of the statement's calls that came in, opened: what its cells hold. For the frame of the statement. No conditions.
-/
import Derived.Test.YtoafncfknllghaaDoorBOpen
namespace Go.Proofs.YtoafncfknllghaaDoor
open Go.ChangeShapes Go.WideShapes Go.ChangeAt Go.RowKit Go.Deep

/-- a call: which, its entry, its time -/
structure Dd where
  op : Int
  e : En
  t : Nat
/-- the cells of a call, from an address on -/
def dCs (x : Dd) : List Value := .int .i64 x.op :: (eCs x.e ++ [.int .u64 (x.t : Int)])
structure DdAt (w : World) (p : Addr) (x : Dd) : Prop where
  c0 : w.cell? p = some (.int .i64 x.op)
  c1 : w.cell? ⟨p.block, p.off + 1, none⟩ = some (.string x.e.k.o)
  c2 : w.cell? ⟨p.block, p.off + 2, none⟩ = some (.string x.e.k.u)
  c3 : w.cell? ⟨p.block, p.off + 3, none⟩ = some (.bool x.e.k.c)
  c4 : w.cell? ⟨p.block, p.off + 4, none⟩ = some (.string x.e.m)
  c5 : w.cell? ⟨p.block, p.off + 5, none⟩ = some (.string x.e.h)
  c6 : w.cell? ⟨p.block, p.off + 6, none⟩ = some (.int .u64 (x.e.t : Int))
  c7 : w.cell? ⟨p.block, p.off + 7, none⟩ = some (.int .u64 (x.t : Int))
theorem DdAt.below {w w' : World} {p : Addr} {x : Dd} (h : DdAt w p x) (hb : Below w.heap.size w w') : DdAt w' p x := by
  have hl : p.block < w.heap.size := block_of_cell h.c0
  exact ⟨(hb.cell (p := p) hl).trans h.c0, (hb.cell (p := ⟨p.block, p.off + 1, none⟩) hl).trans h.c1, (hb.cell (p := ⟨p.block, p.off + 2, none⟩) hl).trans h.c2, (hb.cell (p := ⟨p.block, p.off + 3, none⟩) hl).trans h.c3,
    (hb.cell (p := ⟨p.block, p.off + 4, none⟩) hl).trans h.c4, (hb.cell (p := ⟨p.block, p.off + 5, none⟩) hl).trans h.c5, (hb.cell (p := ⟨p.block, p.off + 6, none⟩) hl).trans h.c6, (hb.cell (p := ⟨p.block, p.off + 7, none⟩) hl).trans h.c7⟩
def DArg (w : World) (a : Option Addr) (c : Nat) (xs : List Dd) : Prop :=
  (∀ j x, xs[j]? = some x → ∃ ad, a = some ad ∧ DdAt w (ad.add (j * 8)) x) ∧ (∀ x ∈ xs, (Lit.int .i64 x.op).wf = true ∧ EnWf x.e ∧ (x.t : Int) ≤ 18446744073709551615) ∧ xs.length ≤ c ∧ c ≤ maxLen
theorem DArg.none_ (w : World) : DArg w none 0 [] := ⟨fun j x h => by simp at h, by simp, Nat.le_refl _, Nat.zero_le _⟩
theorem cellsDd : Tryd.prog.cellsOf 36 = 8 := by kernel_rfl
theorem cellsIn : Tryd.prog.cellsOf 3 = 1 := by kernel_rfl
theorem open_deed {H : Type} {enc : TypeId × Value → H} {w : World} {base : Nat} {spare : Nat → Bool} {held : Bool} {n : Nat} {cs : List Value} {y : DataW H × List MemPlace} (h : DataW.trod enc Tryd.prog w base spare held n 36 cs = some y) :
    ∃ x : Dd, cs = dCs x ∧ (Lit.int .i64 x.op).wf = true ∧ EnWf x.e ∧ (x.t : Int) ≤ 18446744073709551615 := by
  obtain ⟨xs, m, _, _, hl, hxl, hg⟩ := DataW.trod_struct Tryd.underlying36 h
  obtain ⟨c0, c1, c2, c3, c4, c5, c6, c7, rfl⟩ := list8 (hl.trans cellsDd)
  have h0 : DataW.trod enc Tryd.prog w base spare held m 3 (([c0, c1, c2, c3, c4, c5, c6, c7].drop 0).take (Tryd.prog.cellsOf 3)) = xs[0]? := hg 0 _ rfl
  have h1 : DataW.trod enc Tryd.prog w base spare held m 34 (([c0, c1, c2, c3, c4, c5, c6, c7].drop 1).take (Tryd.prog.cellsOf 34)) = xs[1]? := hg 1 _ rfl
  have h2 : DataW.trod enc Tryd.prog w base spare held m 26 (([c0, c1, c2, c3, c4, c5, c6, c7].drop 7).take (Tryd.prog.cellsOf 26)) = xs[2]? := hg 2 _ rfl
  rw [cellsIn] at h0
  rw [cellsEn] at h1
  rw [cellsU6] at h2
  rw [List.getElem?_eq_getElem (by rw [hxl]; decide)] at h0 h1 h2
  have h0' : DataW.trod enc Tryd.prog w base spare held m 3 [c0] = some _ := h0
  have h1' : DataW.trod enc Tryd.prog w base spare held m 34 [c1, c2, c3, c4, c5, c6] = some _ := h1
  have h2' : DataW.trod enc Tryd.prog w base spare held m 26 [c7] = some _ := h2
  obtain ⟨a0, e0, _, w0⟩ := DataW.trod_int Tryd.underlying3 h0'
  obtain ⟨e, e1, w1⟩ := open_ent h1'
  obtain ⟨a2, e2, _, w2⟩ := DataW.trod_int Tryd.underlying26 h2'
  have hb := wfU w2
  obtain ⟨t, ht⟩ : ∃ t : Nat, a2 = (t : Int) := ⟨a2.toNat, by omega⟩
  subst ht
  simp only [List.cons.injEq, and_true] at e0 e2
  subst e0 e2
  refine ⟨⟨a0, e, t⟩, ?_, w0, w1, hb.2⟩
  unfold dCs
  rw [← e1]
  rfl
theorem DdAt.mk_ {w : World} {a : Addr} {i : Nat} {x : Dd} (h : ∀ j v, (dCs x)[j]? = some v → w.cell? (a.add (i * 8 + j)) = some v) : DdAt w (a.add (i * 8)) x := by
  have g0 := h 0 _ rfl
  have g1 := h 1 _ rfl
  have g2 := h 2 _ rfl
  have g3 := h 3 _ rfl
  have g4 := h 4 _ rfl
  have g5 := h 5 _ rfl
  have g6 := h 6 _ rfl
  have g7 := h 7 _ rfl
  rw [add_slot a _ 0] at g1
  rw [add_slot a _ 1] at g2
  rw [add_slot a _ 2] at g3
  rw [add_slot a _ 3] at g4
  rw [add_slot a _ 4] at g5
  rw [add_slot a _ 5] at g6
  rw [add_slot a _ 6] at g7
  exact ⟨g0, g1, g2, g3, g4, g5, g6, g7⟩
theorem open_deeds {H : Type} {enc : TypeId × Value → H} {W : World} {a : Option Addr} {len cap : Nat} {d : DataW H} {p : List MemPlace} (h : DataW.Trod enc Tryd.prog W 0 (fun _ => true) true 22 (.slice a len cap) d p) :
    ∃ xs : List Dd, len = xs.length ∧ DArg W a cap xs := by
  obtain ⟨fuel, hf⟩ := h
  rcases open_slice_els Tryd.underlying22 cellsDd hf with hcs | ⟨x, l, c, hcs, hl, hm, hel⟩
  · simp [Value.cells] at hcs
    obtain ⟨rfl, rfl, rfl⟩ := hcs
    exact ⟨[], rfl, DArg.none_ _⟩
  · simp [Value.cells] at hcs
    obtain ⟨rfl, rfl, rfl⟩ := hcs
    obtain ⟨xs, hxl, hx⟩ := list_upto (p := fun i (q : Dd) => DdAt W (x.add (i * 8)) q ∧ (Lit.int .i64 q.op).wf = true ∧ EnWf q.e ∧ (q.t : Int) ≤ 18446744073709551615) len (fun i hi => by
      obtain ⟨ys, y, n, _, hc, ht⟩ := hel i hi
      obtain ⟨q, rfl, w0, w1, w2⟩ := open_deed ht
      exact ⟨q, DdAt.mk_ hc, w0, w1, w2⟩)
    refine ⟨xs, hxl.symm, ⟨fun j y hj => ⟨x, rfl, (hx j y hj).1⟩, fun y hy => ?_, by omega, hm⟩⟩
    obtain ⟨j, hj⟩ := List.mem_iff_getElem?.1 hy
    exact (hx j y hj).2
end Go.Proofs.YtoafncfknllghaaDoor
