/-
  A slice of the statement's calls that came in, opened: what its cells hold. For the frame of the statement. No conditions.
-/
import Derived.Test.YtmpaopfjpigneaaKDeed
import Derived.Test.YtmpaopfjpigneaaKRows
namespace Go.Proofs.Ytmpaopfjpigneaa
open Go.ChangeShapes Go.WideShapes Go.ChangeAt Go.RowKit Go.Deep

/-- a call: which, its key -/
abbrev Dd := Int × ByteArray
def DArg (w : World) (a : Option Addr) (c : Nat) (xs : List Dd) : Prop :=
  (∀ j x, xs[j]? = some x → ∃ ad, a = some ad ∧ ad.block < w.heap.size ∧ w.cell? (ad.add (j * 2)) = some (.int .i64 x.1) ∧ w.cell? ⟨(ad.add (j * 2)).block, (ad.add (j * 2)).off + 1, none⟩ = some (.string x.2)) ∧
  (∀ x ∈ xs, (Lit.int .i64 x.1).wf = true ∧ x.2.size ≤ maxLen) ∧ xs.length ≤ c ∧ c ≤ maxLen
theorem DArg.none_ (w : World) : DArg w none 0 [] := ⟨fun j x h => by simp at h, by simp, Nat.le_refl _, Nat.zero_le _⟩
theorem open_deeds {H : Type} {enc : TypeId × Value → H} {W : World} {a : Option Addr} {len cap : Nat} {d : DataW H} {p : List MemPlace} (h : DataW.Trod enc Try.prog W 0 (fun _ => true) true 22 (.slice a len cap) d p) :
    ∃ xs : List Dd, len = xs.length ∧ DArg W a cap xs := by
  obtain ⟨fuel, hf⟩ := h
  rcases open_slice_fields Try.underlying22 Try.underlying30 (by kernel_rfl) (by kernel_rfl) hf with hcs | ⟨x, l, c, hcs, hl, hm, hcell⟩
  · simp [Value.cells] at hcs
    obtain ⟨rfl, rfl, rfl⟩ := hcs
    exact ⟨[], rfl, DArg.none_ _⟩
  · simp [Value.cells] at hcs
    obtain ⟨rfl, rfl, rfl⟩ := hcs
    obtain ⟨xs, hxl, hx⟩ := list_upto (p := fun i (q : Dd) => W.cell? (x.add (i * 2)) = some (.int .i64 q.1) ∧ W.cell? ⟨(x.add (i * 2)).block, (x.add (i * 2)).off + 1, none⟩ = some (.string q.2) ∧ (Lit.int .i64 q.1).wf = true ∧ q.2.size ≤ maxLen) len (fun i hi => by
      obtain ⟨v0, y0, n0, k0, t0⟩ := hcell i hi 0 _ rfl
      obtain ⟨v1, y1, n1, k1, t1⟩ := hcell i hi 1 _ rfl
      obtain ⟨a0, e0, _, w0⟩ := DataW.trod_int Try.underlying3 t0
      obtain ⟨a1, e1, _, w1⟩ := DataW.trod_string Try.underlying9 t1
      obtain rfl : v0 = .int .i64 a0 := by simpa using e0
      obtain rfl : v1 = .string a1 := by simpa using e1
      rw [add_slot x _ 0] at k1
      exact ⟨(a0, a1), k0, k1, w0, w1⟩)
    refine ⟨xs, hxl.symm, ⟨fun j y hj => ?_, fun y hy => ?_, by omega, hm⟩⟩
    · obtain ⟨k0, k1, _⟩ := hx j y hj
      exact ⟨x, rfl, by have := block_of_cell k0; rwa [block_add] at this, k0, k1⟩
    · obtain ⟨j, hj⟩ := List.mem_iff_getElem?.1 hy
      exact (hx j y hj).2.2
end Go.Proofs.Ytmpaopfjpigneaa
