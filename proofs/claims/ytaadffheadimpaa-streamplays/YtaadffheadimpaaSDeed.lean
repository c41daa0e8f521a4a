/-
  A slice of the statement's calls that came in, opened: what its cells hold, the bytes of each among them. For the frame of the statement. No conditions.
-/
import Derived.Test.YtaadffheadimpaaKDeed
import Derived.Test.YtaadffheadimpaaKRows
namespace Go.Proofs.Ytaadffheadimpaa
open Go.ChangeShapes Go.WideShapes Go.ChangeAt Go.RowKit Go.Deep

/-- a call: which, its number, its bytes -/
abbrev Dd := Int × Int × Bs
def DArg (w : World) (a : Option Addr) (c : Nat) (xs : List Dd) : Prop :=
  (∀ j x, xs[j]? = some x → ∃ ad, a = some ad ∧ ad.block < w.heap.size ∧ w.cell? (ad.add (j * 3)) = some (.int .i64 x.1) ∧ w.cell? ⟨(ad.add (j * 3)).block, (ad.add (j * 3)).off + 1, none⟩ = some (.int .i64 x.2.1) ∧ w.cell? ⟨(ad.add (j * 3)).block, (ad.add (j * 3)).off + 2, none⟩ = some (.slice x.2.2.at_ x.2.2.l.length x.2.2.cap)) ∧
  (∀ x ∈ xs, (Lit.int .i64 x.1).wf = true ∧ (Lit.int .i64 x.2.1).wf = true ∧ BsAt w x.2.2) ∧ xs.length ≤ c ∧ c ≤ maxLen
theorem DArg.none_ (w : World) : DArg w none 0 [] := ⟨fun j x h => by simp at h, by simp, Nat.le_refl _, Nat.zero_le _⟩
theorem open_deeds {H : Type} {enc : TypeId × Value → H} {W : World} {a : Option Addr} {len cap : Nat} {d : DataW H} {p : List MemPlace} (h : DataW.Trod enc Try.prog W 0 (fun _ => true) true 22 (.slice a len cap) d p) :
    ∃ xs : List Dd, len = xs.length ∧ DArg W a cap xs := by
  obtain ⟨fuel, hf⟩ := h
  rcases open_slice_fields Try.underlying22 Try.underlying30 (by kernel_rfl) (by kernel_rfl) hf with hcs | ⟨x, l, c, hcs, hl, hm, hcell⟩
  · simp [Value.cells] at hcs
    obtain ⟨rfl, rfl, rfl⟩ := hcs
    exact ⟨[], rfl, DArg.none_ _⟩
  · simp [Value.cells] at hcs
    obtain ⟨rfl, rfl, rfl⟩ := hcs
    obtain ⟨xs, hxl, hx⟩ := list_upto (p := fun i (q : Dd) => W.cell? (x.add (i * 3)) = some (.int .i64 q.1) ∧ W.cell? ⟨(x.add (i * 3)).block, (x.add (i * 3)).off + 1, none⟩ = some (.int .i64 q.2.1) ∧ W.cell? ⟨(x.add (i * 3)).block, (x.add (i * 3)).off + 2, none⟩ = some (.slice q.2.2.at_ q.2.2.l.length q.2.2.cap) ∧ (Lit.int .i64 q.1).wf = true ∧ (Lit.int .i64 q.2.1).wf = true ∧ BsAt W q.2.2) len (fun i hi => by
      obtain ⟨v0, y0, n0, k0, t0⟩ := hcell i hi 0 _ rfl
      obtain ⟨v1, y1, n1, k1, t1⟩ := hcell i hi 1 _ rfl
      obtain ⟨v2, y2, n2, k2, t2⟩ := hcell i hi 2 _ rfl
      obtain ⟨a0, e0, _, w0⟩ := DataW.trod_int Try.underlying3 t0
      obtain ⟨a1, e1, _, w1⟩ := DataW.trod_int Try.underlying3 t1
      obtain ⟨q, e2, w2⟩ := open_bytes t2
      obtain rfl : v0 = .int .i64 a0 := by simpa using e0
      obtain rfl : v1 = .int .i64 a1 := by simpa using e1
      subst e2
      rw [add_slot x _ 0] at k1
      rw [add_slot x _ 1] at k2
      exact ⟨(a0, a1, q), k0, k1, k2, w0, w1, w2⟩)
    refine ⟨xs, hxl.symm, ⟨fun j y hj => ?_, fun y hy => ?_, by omega, hm⟩⟩
    · obtain ⟨k0, k1, k2, _⟩ := hx j y hj
      exact ⟨x, rfl, by have := block_of_cell k0; rwa [block_add] at this, k0, k1, k2⟩
    · obtain ⟨j, hj⟩ := List.mem_iff_getElem?.1 hy
      exact (hx j y hj).2.2.2
end Go.Proofs.Ytaadffheadimpaa
