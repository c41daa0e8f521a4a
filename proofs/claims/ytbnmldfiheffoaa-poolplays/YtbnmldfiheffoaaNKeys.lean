/-
  The contracts of Table.Keys and the document's own Keys over this seat's program: a row of texts of the call's own. Conditions: the table lies there.
-/
import Derived.Test.YtbnmldfiheffoaaNOps
namespace Go.Proofs.Ytbnmldfiheffoaa
open Go.RowKit

/-- the keys of hosts -/
def keysL (l : List Ho) : List ByteArray := l.map (fun h => h.1)
theorem keysL_take {l : List Ho} {k : Nat} (hk : k < l.length) : keysL (l.take (k + 1)) = keysL (l.take k) ++ [(nthH l k).1] := by
  unfold keysL
  rw [List.take_succ_eq_append_getElem hk, List.map_append, nthH_eq hk]; rfl

theorem cell_second (w : World) (o : Obj) (x : Value) (t : TypeId) : ((w.alloc o).alloc (.cells #[x] t)).cell? ⟨w.heap.size + 1, 0, none⟩ = some x := by
  have h1 : ∀ W : World, (W.alloc (.cells #[x] t)).cell? ⟨W.heap.size, 0, none⟩ = some x := fun W => by simp
  have h2 := h1 (w.alloc o)
  rw [show (w.alloc o).heap.size = w.heap.size + 1 by simp] at h2
  exact h2
end Go.Proofs.Ytbnmldfiheffoaa
