/-
  A slice of entries that came in, opened: what its cells hold. For the frame of the statement. No conditions.
-/
import Derived.Test.YtoafncfknllghaaDoorBOpen
namespace Go.Proofs.YtoafncfknllghaaDoor
open Go.ChangeShapes Go.WideShapes Go.ChangeAt Go.RowKit Go.Deep

abbrev Dd := En
/-- the cells of an entry, from an address on -/
structure DdAt (w : World) (p : Addr) (x : En) : Prop where
  c0 : w.cell? p = some (.string x.k.o)
  c1 : w.cell? ⟨p.block, p.off + 1, none⟩ = some (.string x.k.u)
  c2 : w.cell? ⟨p.block, p.off + 2, none⟩ = some (.bool x.k.c)
  c3 : w.cell? ⟨p.block, p.off + 3, none⟩ = some (.string x.m)
  c4 : w.cell? ⟨p.block, p.off + 4, none⟩ = some (.string x.h)
  c5 : w.cell? ⟨p.block, p.off + 5, none⟩ = some (.int .u64 (x.t : Int))
theorem DdAt.below {w w' : World} {p : Addr} {x : En} (h : DdAt w p x) (hb : Below w.heap.size w w') : DdAt w' p x := by
  have hl : p.block < w.heap.size := block_of_cell h.c0
  exact ⟨(hb.cell (p := p) hl).trans h.c0, (hb.cell (p := ⟨p.block, p.off + 1, none⟩) hl).trans h.c1, (hb.cell (p := ⟨p.block, p.off + 2, none⟩) hl).trans h.c2, (hb.cell (p := ⟨p.block, p.off + 3, none⟩) hl).trans h.c3,
    (hb.cell (p := ⟨p.block, p.off + 4, none⟩) hl).trans h.c4, (hb.cell (p := ⟨p.block, p.off + 5, none⟩) hl).trans h.c5⟩
def DArg (w : World) (a : Option Addr) (c : Nat) (xs : List Dd) : Prop :=
  (∀ j x, xs[j]? = some x → ∃ ad, a = some ad ∧ DdAt w (ad.add (j * 6)) x) ∧ (∀ x ∈ xs, EnWf x) ∧ xs.length ≤ c ∧ c ≤ maxLen
theorem DArg.none_ (w : World) : DArg w none 0 [] := ⟨fun j x h => by simp at h, by simp, Nat.le_refl _, Nat.zero_le _⟩
theorem DdAt.mk_ {w : World} {a : Addr} {i : Nat} {x : En} (h : ∀ j v, (eCs x)[j]? = some v → w.cell? (a.add (i * 6 + j)) = some v) : DdAt w (a.add (i * 6)) x := by
  have g0 := h 0 _ rfl
  have g1 := h 1 _ rfl
  have g2 := h 2 _ rfl
  have g3 := h 3 _ rfl
  have g4 := h 4 _ rfl
  have g5 := h 5 _ rfl
  rw [add_slot a _ 0] at g1
  rw [add_slot a _ 1] at g2
  rw [add_slot a _ 2] at g3
  rw [add_slot a _ 3] at g4
  rw [add_slot a _ 4] at g5
  exact ⟨g0, g1, g2, g3, g4, g5⟩
theorem open_deeds {H : Type} {enc : TypeId × Value → H} {W : World} {a : Option Addr} {len cap : Nat} {d : DataW H} {p : List MemPlace} (h : DataW.Trod enc Tryd.prog W 0 (fun _ => true) true 43 (.slice a len cap) d p) :
    ∃ xs : List Dd, len = xs.length ∧ DArg W a cap xs := by
  obtain ⟨fuel, hf⟩ := h
  rcases open_slice_els Tryd.underlying43 cellsEn hf with hcs | ⟨x, l, c, hcs, hl, hm, hel⟩
  · simp [Value.cells] at hcs
    obtain ⟨rfl, rfl, rfl⟩ := hcs
    exact ⟨[], rfl, DArg.none_ _⟩
  · simp [Value.cells] at hcs
    obtain ⟨rfl, rfl, rfl⟩ := hcs
    obtain ⟨xs, hxl, hx⟩ := list_upto (p := fun i (q : En) => DdAt W (x.add (i * 6)) q ∧ EnWf q) len (fun i hi => by
      obtain ⟨ys, y, n, _, hc, ht⟩ := hel i hi
      obtain ⟨q, rfl, w0⟩ := open_ent ht
      exact ⟨q, DdAt.mk_ hc, w0⟩)
    refine ⟨xs, hxl.symm, ⟨fun j y hj => ⟨x, rfl, (hx j y hj).1⟩, fun y hy => ?_, by omega, hm⟩⟩
    obtain ⟨j, hj⟩ := List.mem_iff_getElem?.1 hy
    exact (hx j y hj).2
end Go.Proofs.YtoafncfknllghaaDoor
