/-
  A slice of headers that came in, opened: what its cells hold, as texts. For the frames of statements. No conditions.
-/
import Derived.Test.YtinpfkbplflecaaDRow
import Derived.ProofKit
import Derived.Deep.SlicePairs
namespace Go.Proofs.Ytinpfkbplflecaa
open Go.ChangeShapes Go.WideShapes Go.ChangeAt Go.RowKit

theorem list_of {α : Type} {p : Nat → α → Prop} : ∀ n, (∀ i, i < n → ∃ x, p i x) → ∃ xs : List α, xs.length = n ∧ ∀ i x, xs[i]? = some x → p i x
  | 0, _ => ⟨[], rfl, fun i x h => by simp at h⟩
  | n + 1, h => by
    obtain ⟨xs, hl, hx⟩ := list_of n fun i hi => h i (by omega)
    obtain ⟨y, hy⟩ := h n (by omega)
    refine ⟨xs ++ [y], by simp [hl], fun i x hi => ?_⟩
    by_cases hlt : i < xs.length
    · rw [List.getElem?_append_left hlt] at hi; exact hx i x hi
    · have hi2 : i = n := by
        have := (List.getElem?_eq_some_iff.1 hi).1
        simp at this; omega
      subst hi2
      rw [List.getElem?_append_right (by omega), hl, Nat.sub_self] at hi
      obtain rfl : y = x := by simpa using hi
      exact hy
theorem open_heads {H : Type} {enc : TypeId × Value → H} {W : World} {a : Option Addr} {len cap : Nat} {d : DataW H} {p : List MemPlace} (h : DataW.Trod enc Try.prog W 0 (fun _ => true) true 22 (.slice a len cap) d p) :
    ∃ xs : List (ByteArray × ByteArray), len = xs.length ∧ HArg W a cap xs := by
  obtain ⟨fuel, hf⟩ := h
  rcases Go.Deep.open_slice_pairs Try.underlying22 (Try.underlying41) (by kernel_rfl) rfl rfl (by kernel_rfl) (by kernel_rfl) hf with ⟨hcs, _⟩ | ⟨x, l, c, m, n, V0, V1, D0, D1, P0, P1, hcs, _, hl, hm, hmm, _, hcell⟩
  · simp [Value.cells] at hcs
    obtain ⟨rfl, rfl, rfl⟩ := hcs
    exact ⟨[], rfl, HArg.none_ _⟩
  · simp [Value.cells] at hcs
    obtain ⟨rfl, rfl, rfl⟩ := hcs
    have hml : len ≤ m := by rw [hmm]; split <;> omega
    obtain ⟨xs, hxl, hx⟩ := list_of (p := fun i (q : ByteArray × ByteArray) => W.cell? (x.add (i * 2)) = some (.string q.1) ∧ W.cell? ⟨(x.add (i * 2)).block, (x.add (i * 2)).off + 1, none⟩ = some (.string q.2) ∧ q.1.size ≤ maxLen ∧ q.2.size ≤ maxLen) len (fun i hi => by
      obtain ⟨k0, k1, t0, t1⟩ := hcell i (by omega)
      obtain ⟨a0, e0, _, w0⟩ := DataW.trod_string Try.underlying9 t0
      obtain ⟨a1, e1, _, w1⟩ := DataW.trod_string Try.underlying9 t1
      have e0' : V0 i = .string a0 := by simpa using e0
      have e1' : V1 i = .string a1 := by simpa using e1
      rw [e0'] at k0
      rw [e1', add_pair] at k1
      exact ⟨(a0, a1), k0, k1, w0, w1⟩)
    refine ⟨xs, hxl.symm, ⟨fun j y hj => ?_, fun y hy => ?_, by omega, hm, fun h => by cases h⟩⟩
    · obtain ⟨k0, k1, _⟩ := hx j y hj
      exact ⟨x, rfl, by have := block_of_cell k0; rwa [block_add] at this, k0, k1⟩
    · obtain ⟨j, hj⟩ := List.mem_iff_getElem?.1 hy
      exact (hx j y hj).2.2
end Go.Proofs.Ytinpfkbplflecaa
