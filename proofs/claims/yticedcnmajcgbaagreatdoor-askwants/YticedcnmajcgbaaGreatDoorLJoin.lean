/-
  The contract of the document's own Join over this seat's program. Conditions: those of each statement.
-/
import Derived.Test.YticedcnmajcgbaaGreatDoorLRef1
namespace Go.Proofs.YticedcnmajcgbaaGreatDoor
open Go.RowKit

theorem sum_take (xs : List ByteArray) (k : Nat) : ((xs.take k).map ByteArray.size).sum ≤ (xs.map ByteArray.size).sum := by
  have e : (xs.map ByteArray.size).sum = ((xs.take k).map ByteArray.size).sum + ((xs.drop k).map ByteArray.size).sum := by
    rw [← List.sum_append, ← List.map_append, List.take_append_drop]
  omega
theorem dat_join_len (xs : List ByteArray) (k : Nat) (hk : k ≤ xs.length) : (mk (Lk.joinL (dat (xs.take k)))).size ≤ (xs.map ByteArray.size).sum + 2 * xs.length := by
  have h1 := Lk.join_len (dat (xs.take k))
  have h2 := sum_take xs k
  rw [dat_sum, dat_len, List.length_take] at h1
  rw [mk_size]; omega
theorem size_le_sum {xs : List ByteArray} {x : ByteArray} (h : x ∈ xs) : x.size ≤ (xs.map ByteArray.size).sum := by
  induction xs with
  | nil => cases h
  | cons y r ih =>
    rw [List.map_cons, List.sum_cons]
    rcases List.mem_cons.1 h with rfl | h
    · omega
    · have := ih h; omega

end Go.Proofs.YticedcnmajcgbaaGreatDoor
