/-
  Words for a row of bytes of the call's own that came of a text: what its cells hold; a store; the way back to a text. They speak of any program. No conditions.
-/
import Derived.Test.YtfamllkmmiajoaaDoorOAwake
import Derived.Test.YtfamllkmmiajoaaDoorOMath2
import Derived.Laws.IdiomStrings
namespace Go.Proofs.YtfamllkmmiajoaaDoor
open Go.RowKit

/-- block g holds these bytes from its head on, none of them frozen -/
def BRow (w : World) (g : Nat) (l : List UInt8) : Prop :=
  ∀ j (h : j < l.length), w.cell? ⟨g, j, none⟩ = some (.int .u8 (l[j].toNat : Int)) ∧ w.frozen? ⟨g, j, none⟩ = false

theorem BRow.drew {w : World} {g : Nat} {l : List UInt8} (h : BRow w g l) : BRow w.drew g l := h
theorem BRow.drewN {w : World} {g : Nat} {l : List UInt8} (h : BRow w g l) (n : Nat) : BRow (w.drewN n) g l := h
theorem BRow.of_string (w : World) (s : ByteArray) (cap : Nat) (e : TypeId) :
    BRow (w.alloc (.cells (bytesRow s cap) e ((bytesRow s cap).size, (bytesRow s cap).size + 1))) w.heap.size s.data.toList := by
  intro j h
  have hj : j < s.data.size := by simpa using h
  refine ⟨?_, ?_⟩
  · rw [World.cell?_alloc_mark, bytesRow_at s cap j hj]; simp
  · rw [World.frozen?_alloc_mark]
    have : j < (bytesRow s cap).size := by unfold bytesRow; rw [Array.size_append, Array.size_map]; omega
    have h1 : decide ((bytesRow s cap).size ≤ j) = false := by simp; omega
    rw [h1]; rfl
theorem BRow.set_ {w : World} {g : Nat} {l : List UInt8} (h : BRow w g l) (k : Nat) (b : UInt8) (_hk : k < l.length) :
    BRow (w.setCell ⟨g, k, none⟩ (.int .u8 (b.toNat : Int))) g (l.set k b) := by
  intro j hj
  have hj' : j < l.length := by simpa using hj
  refine ⟨?_, ?_⟩
  · by_cases e : k = j
    · subst e
      rw [World.cell?_setCell_same _ _ _ (h k hj').1]; simp
    · rw [World.cell?_setCell_other _ _ _ _ (by intro h; injection h with _ h2; exact e h2)]
      rw [(h j hj').1]; simp [e]
  · rw [World.frozen?_setCell]; exact (h j hj').2
end Go.Proofs.YtfamllkmmiajoaaDoor
