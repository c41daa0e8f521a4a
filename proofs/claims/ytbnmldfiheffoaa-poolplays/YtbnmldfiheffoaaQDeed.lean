/-
  A slice of the statement's calls that came in, opened: what its cells hold. For the frame of the statement. No conditions.
-/
import Derived.Test.YtbnmldfiheffoaaKDeed
import Derived.Test.YtbnmldfiheffoaaKRows
namespace Go.Proofs.Ytbnmldfiheffoaa
open Go.ChangeShapes Go.WideShapes Go.ChangeAt Go.RowKit Go.Deep

/-- a call: which, its number, its key, its time, whether it is to be kept -/
structure Dd where
  op : Int
  n : Int
  key : ByteArray
  t : Int
  keep : Bool
/-- the cells of a call -/
structure DdAt (w : World) (g o : Nat) (x : Dd) : Prop where
  c0 : w.cell? ⟨g, o, none⟩ = some (.int .i64 x.op)
  c1 : w.cell? ⟨g, o + 1, none⟩ = some (.int .i64 x.n)
  c2 : w.cell? ⟨g, o + 2, none⟩ = some (.string x.key)
  c3 : w.cell? ⟨g, o + 3, none⟩ = some (.int .u64 x.t)
  c4 : w.cell? ⟨g, o + 4, none⟩ = some (.bool x.keep)
def DArg (w : World) (a : Option Addr) (c : Nat) (xs : List Dd) : Prop :=
  (∀ j x, xs[j]? = some x → ∃ ad, a = some ad ∧ ad.block < w.heap.size ∧ w.cell? (ad.add (j * 5)) = some (.int .i64 x.op) ∧ w.cell? ⟨(ad.add (j * 5)).block, (ad.add (j * 5)).off + 1, none⟩ = some (.int .i64 x.n) ∧
    w.cell? ⟨(ad.add (j * 5)).block, (ad.add (j * 5)).off + 2, none⟩ = some (.string x.key) ∧ w.cell? ⟨(ad.add (j * 5)).block, (ad.add (j * 5)).off + 3, none⟩ = some (.int .u64 x.t) ∧ w.cell? ⟨(ad.add (j * 5)).block, (ad.add (j * 5)).off + 4, none⟩ = some (.bool x.keep)) ∧
  (∀ x ∈ xs, (Lit.int .i64 x.op).wf = true ∧ (Lit.int .i64 x.n).wf = true ∧ x.key.size ≤ maxLen ∧ (Lit.int .u64 x.t).wf = true) ∧ xs.length ≤ c ∧ c ≤ maxLen
theorem DArg.none_ (w : World) : DArg w none 0 [] := ⟨fun j x h => by simp at h, by simp, Nat.le_refl _, Nat.zero_le _⟩
theorem open_deeds {H : Type} {enc : TypeId × Value → H} {W : World} {a : Option Addr} {len cap : Nat} {d : DataW H} {p : List MemPlace} (h : DataW.Trod enc Try.prog W 0 (fun _ => true) true 23 (.slice a len cap) d p) :
    ∃ xs : List Dd, len = xs.length ∧ DArg W a cap xs := by
  obtain ⟨fuel, hf⟩ := h
  rcases open_slice_fields Try.underlying23 Try.underlying31 (by kernel_rfl) (by kernel_rfl) hf with hcs | ⟨x, l, c, hcs, hl, hm, hcell⟩
  · simp [Value.cells] at hcs
    obtain ⟨rfl, rfl, rfl⟩ := hcs
    exact ⟨[], rfl, DArg.none_ _⟩
  · simp [Value.cells] at hcs
    obtain ⟨rfl, rfl, rfl⟩ := hcs
    obtain ⟨xs, hxl, hx⟩ := list_upto (p := fun i (q : Dd) => W.cell? (x.add (i * 5)) = some (.int .i64 q.op) ∧ W.cell? ⟨(x.add (i * 5)).block, (x.add (i * 5)).off + 1, none⟩ = some (.int .i64 q.n) ∧
        W.cell? ⟨(x.add (i * 5)).block, (x.add (i * 5)).off + 2, none⟩ = some (.string q.key) ∧ W.cell? ⟨(x.add (i * 5)).block, (x.add (i * 5)).off + 3, none⟩ = some (.int .u64 q.t) ∧ W.cell? ⟨(x.add (i * 5)).block, (x.add (i * 5)).off + 4, none⟩ = some (.bool q.keep) ∧
        (Lit.int .i64 q.op).wf = true ∧ (Lit.int .i64 q.n).wf = true ∧ q.key.size ≤ maxLen ∧ (Lit.int .u64 q.t).wf = true) len (fun i hi => by
      obtain ⟨v0, y0, n0, k0, t0⟩ := hcell i hi 0 _ rfl
      obtain ⟨v1, y1, n1, k1, t1⟩ := hcell i hi 1 _ rfl
      obtain ⟨v2, y2, n2, k2, t2⟩ := hcell i hi 2 _ rfl
      obtain ⟨v3, y3, n3, k3, t3⟩ := hcell i hi 3 _ rfl
      obtain ⟨v4, y4, n4, k4, t4⟩ := hcell i hi 4 _ rfl
      obtain ⟨a0, e0, _, w0⟩ := DataW.trod_int Try.underlying3 t0
      obtain ⟨a1, e1, _, w1⟩ := DataW.trod_int Try.underlying3 t1
      obtain ⟨a2, e2, _, w2⟩ := DataW.trod_string Try.underlying9 t2
      obtain ⟨a3, e3, _, w3⟩ := DataW.trod_int Try.underlying22 t3
      obtain ⟨a4, e4, _⟩ := DataW.trod_bool Try.underlying4 t4
      obtain rfl : v0 = .int .i64 a0 := by simpa using e0
      obtain rfl : v1 = .int .i64 a1 := by simpa using e1
      obtain rfl : v2 = .string a2 := by simpa using e2
      obtain rfl : v3 = .int .u64 a3 := by simpa using e3
      obtain rfl : v4 = .bool a4 := by simpa using e4
      rw [add_slot x _ 0] at k1
      rw [add_slot x _ 1] at k2
      rw [add_slot x _ 2] at k3
      rw [add_slot x _ 3] at k4
      exact ⟨⟨a0, a1, a2, a3, a4⟩, k0, k1, k2, k3, k4, w0, w1, w2, w3⟩)
    refine ⟨xs, hxl.symm, ⟨fun j y hj => ?_, fun y hy => ?_, by omega, hm⟩⟩
    · obtain ⟨k0, k1, k2, k3, k4, _⟩ := hx j y hj
      exact ⟨x, rfl, by have := block_of_cell k0; rwa [block_add] at this, k0, k1, k2, k3, k4⟩
    · obtain ⟨j, hj⟩ := List.mem_iff_getElem?.1 hy
      exact (hx j y hj).2.2.2.2.2
end Go.Proofs.Ytbnmldfiheffoaa
