/-
  A slice of bools that came in, opened. For the frames of statements. No conditions.
-/
import Derived.Test.YtmpaopfjpigneaaKBase
import Derived.ProofKit
import Derived.Deep.Grids
namespace Go.Proofs.Ytmpaopfjpigneaa
open Go.ChangeShapes Go.WideShapes Go.ChangeAt Go.RowKit Go.Deep

def BlArg (w : World) (a : Option Addr) (c : Nat) (xs : List Bool) : Prop :=
  (∀ j x, xs[j]? = some x → ∃ ad, a = some ad ∧ ad.block < w.heap.size ∧ w.cell? (ad.add j) = some (.bool x)) ∧ xs.length ≤ c ∧ c ≤ maxLen
theorem BlArg.none_ (w : World) : BlArg w none 0 [] := ⟨fun j x h => by simp at h, Nat.le_refl _, Nat.zero_le _⟩
theorem open_boolrow {H : Type} {enc : TypeId × Value → H} {W : World} {a : Option Addr} {len cap : Nat} {d : DataW H} {p : List MemPlace} (h : DataW.Trod enc Try.prog W 0 (fun _ => true) true 43 (.slice a len cap) d p) :
    ∃ xs : List Bool, len = xs.length ∧ BlArg W a cap xs := by
  obtain ⟨fuel, hf⟩ := h
  rcases open_bools Try.underlying43 Try.underlying4 (by kernel_rfl) hf with ⟨hcs, _⟩ | ⟨x, l, c, B, hcs, _, hl, hm, _, hcell⟩
  · simp [Value.cells] at hcs
    obtain ⟨rfl, rfl, rfl⟩ := hcs
    exact ⟨[], rfl, BlArg.none_ _⟩
  · simp [Value.cells] at hcs
    obtain ⟨rfl, rfl, rfl⟩ := hcs
    refine ⟨(List.range len).map B, by simp, ⟨fun j y hj => ?_, by simpa using hl, hm⟩⟩
    obtain ⟨hjl, hy⟩ := List.getElem?_eq_some_iff.1 hj
    have hjl' : j < len := by simpa using hjl
    have hc := hcell j (by omega)
    have hy' : B j = y := by simpa using hy
    rw [hy'] at hc
    exact ⟨x, rfl, by have := block_of_cell hc; rwa [block_add] at this, hc⟩
end Go.Proofs.Ytmpaopfjpigneaa
