/-
  Words that all layers' texts lean on: slices of texts and of integers that came in, numbers of 64 bits, answers. They speak of any program. No conditions.
-/
import Derived.Test.YtcljmdpnbfefbaaRows
import Derived.WalkKit
import Derived.WalkSpells
import Derived.WalkLawsBesides
import Derived.Lib.Hide
import Derived.Below
namespace Go.Proofs.Ytcljmdpnbfefbaa
open Go.RowKit

theorem ret_int {k : IntKind} {a b : Int} (h : a = b) : Ending.returned (.int k a) = .returned (.int k b) := by rw [h]
theorem ret_bool {a b : Bool} (h : a = b) : Ending.returned (.bool a) = .returned (.bool b) := by rw [h]
theorem wfU {a : Int} (h : (Lit.int .u64 a).wf = true) : 0 ≤ a ∧ a ≤ 18446744073709551615 := by
  simp [Lit.wf, IntKind.min, IntKind.max, IntKind.signed, IntKind.bits] at h; exact h
theorem wfI {a : Int} (h : (Lit.int .i64 a).wf = true) : -9223372036854775808 ≤ a ∧ a ≤ 9223372036854775807 := by
  simp [Lit.wf, IntKind.min, IntKind.max, IntKind.signed, IntKind.bits] at h; exact h

/-- a slice of texts: what its cells hold -/
def SRow (w : World) (B : Nat) (A : Option Addr) (xs : List ByteArray) : Prop :=
  ∀ j x, xs[j]? = some x → ∃ ad, A = some ad ∧ ad.block < B ∧ w.cell? (ad.add j) = some (.string x)
theorem SRow.below {w w' : World} {B : Nat} {A : Option Addr} {xs : List ByteArray} (h : SRow w B A xs) (hb : Below B w w') : SRow w' B A xs := by
  intro j x hj
  obtain ⟨ad, e, hB, hc⟩ := h j x hj
  exact ⟨ad, e, hB, (hb.cell (p := ad.add j) (by unfold Addr.add; split <;> exact hB)).trans hc⟩

theorem SRow.one (w : World) (x : ByteArray) (t : TypeId) : SRow (w.alloc (.cells #[.string x] t)) (w.heap.size + 1) (some ⟨w.heap.size, 0, none⟩) [x] := by
  intro j y hj
  match j, hj with
  | 0, hj => simp at hj; subst hj; exact ⟨_, rfl, by simp, by simp [Addr.add]⟩
theorem SRow.two (w : World) (x y : ByteArray) (t : TypeId) : SRow (w.alloc (.cells #[.string x, .string y] t)) (w.heap.size + 1) (some ⟨w.heap.size, 0, none⟩) [x, y] := by
  intro j z hj
  match j, hj with
  | 0, hj => simp at hj; subst hj; exact ⟨_, rfl, by simp, by simp [Addr.add]⟩
  | 1, hj => simp at hj; subst hj; exact ⟨_, rfl, by simp, by simp [Addr.add]⟩

theorem SRow.one_at (w : World) (x : ByteArray) (t : TypeId) (g : Nat) (hg : g = w.heap.size) : SRow (w.alloc (.cells #[.string x] t)) (g + 1) (some ⟨g, 0, none⟩) [x] := by
  subst hg; exact SRow.one w x t
theorem SRow.two_at (w : World) (x y : ByteArray) (t : TypeId) (g : Nat) (hg : g = w.heap.size) : SRow (w.alloc (.cells #[.string x, .string y] t)) (g + 1) (some ⟨g, 0, none⟩) [x, y] := by
  subst hg; exact SRow.two w x y t

theorem block_of_cell {w : World} {a : Addr} {u : Value} (h : w.cell? a = some u) : a.block < w.heap.size := by
  rcases Nat.lt_or_ge a.block w.heap.size with hlt | hge
  · exact hlt
  · unfold World.cell? at h
    rw [Array.getElem?_eq_none hge] at h
    cases h
theorem block_add (a : Addr) (n : Nat) : (a.add n).block = a.block := by unfold Addr.add; split <;> rfl

def SArg (w : World) (a : Option Addr) (c : Nat) (xs : List ByteArray) : Prop :=
  SRow w w.heap.size a xs ∧ (∀ x ∈ xs, x.size ≤ maxLen) ∧ xs.length ≤ c ∧ c ≤ maxLen
theorem SArg.none_ (w : World) : SArg w none 0 [] := ⟨fun j x h => by simp at h, by simp, Nat.le_refl _, Nat.zero_le _⟩
theorem SArg.mk_ {W : World} {x : Addr} {l c : Nat} {ss : List ByteArray} (hl : l ≤ c) (hm : c ≤ maxLen) (hz : ss.length = c)
    (hcell : ∀ i, i < ss.length → W.cell? (x.add i) = some (.string (ss.getD i ByteArray.empty))) (hss : ∀ s ∈ ss, s.size ≤ maxLen) :
    ∃ xs : List ByteArray, l = xs.length ∧ SArg W (some x) c xs := by
  refine ⟨ss.take l, by simp; omega, ?_, fun y hy => hss y (List.mem_of_mem_take hy), by simp; omega, hm⟩
  intro j y hj
  have hjl : j < (ss.take l).length := (List.getElem?_eq_some_iff.1 hj).1
  have hjs : j < ss.length := by simp at hjl; omega
  have hy : ss.getD j ByteArray.empty = y := by
    rw [List.getElem?_take, if_pos (by simp at hjl; omega)] at hj
    simp [List.getD, hj]
  have hc := hcell j hjs
  rw [hy] at hc
  exact ⟨x, rfl, by have := block_of_cell hc; rwa [block_add] at this, hc⟩

def IArg (k : IntKind) (w : World) (a : Option Addr) (c : Nat) (xs : List Int) : Prop :=
  (∀ j x, xs[j]? = some x → ∃ ad, a = some ad ∧ ad.block < w.heap.size ∧ w.cell? (ad.add j) = some (.int k x)) ∧ (∀ x ∈ xs, (Lit.int k x).wf = true) ∧ xs.length ≤ c ∧ c ≤ maxLen
theorem IArg.none_ (k : IntKind) (w : World) : IArg k w none 0 [] := ⟨fun j x h => by simp at h, by simp, Nat.le_refl _, Nat.zero_le _⟩
theorem IArg.mk_ {k : IntKind} {W : World} {x : Addr} {l c : Nat} {zs : List Int} (hl : l ≤ c) (hm : c ≤ maxLen) (hz : zs.length = c)
    (hcell : ∀ i, i < zs.length → W.cell? (x.add i) = some (.int k (zs.getD i 0))) (hwz : ∀ n ∈ zs, (Lit.int k n).wf = true) :
    ∃ xs : List Int, l = xs.length ∧ IArg k W (some x) c xs := by
  refine ⟨zs.take l, by simp; omega, ?_, fun y hy => hwz y (List.mem_of_mem_take hy), by simp; omega, hm⟩
  intro j y hj
  have hjl : j < (zs.take l).length := (List.getElem?_eq_some_iff.1 hj).1
  have hjs : j < zs.length := by simp at hjl; omega
  have hy : zs.getD j 0 = y := by
    rw [List.getElem?_take, if_pos (by simp at hjl; omega)] at hj
    simp [List.getD, hj]
  have hc := hcell j hjs
  rw [hy] at hc
  exact ⟨x, rfl, by have := block_of_cell hc; rwa [block_add] at this, hc⟩
end Go.Proofs.Ytcljmdpnbfefbaa
