/-
  Contracts of octet's Join and of the statements' helper In, over this seat's program. Conditions: the texts lie where the slice says; what is joined has at most 2^40 bytes.
-/
import Derived.Test.YtbnkfocaegcjdaaDoorOWords
import Derived.Test.YtbnkfocaegcjdaaDoorOMath2
import Derived.Lib.Join
namespace Go.Proofs.YtbnkfocaegcjdaaDoor
open Go.RowKit

theorem sum_data (xs : List ByteArray) : ((xs.map (·.data.toList)).map List.length).sum = (xs.map ByteArray.size).sum := by
  rw [List.map_map]; congr 1
/-- the texts' bytes -/
def dat (xs : List ByteArray) : List (List UInt8) := xs.map (·.data.toList)
theorem dat_snoc (xs : List ByteArray) (x : ByteArray) : dat (xs ++ [x]) = dat xs ++ [x.data.toList] := by simp [dat]
theorem dat_len (xs : List ByteArray) : (dat xs).length = xs.length := by simp [dat]
theorem dat_sum (xs : List ByteArray) : ((dat xs).map List.length).sum = (xs.map ByteArray.size).sum := sum_data xs

theorem join_eq : ∀ l : List (List UInt8), Lib.join l [44, 32] = Lk.joinL l
  | [] => rfl
  | [x] => by rw [Lib.join_one]; rfl
  | x :: y :: r => by
    have := join_eq (y :: r)
    rw [Lib.join_cons] at this ⊢
    rw [Lk.joinL, ← this, Lib.joinTail, Lib.joinTail]
    simp

end Go.Proofs.YtbnkfocaegcjdaaDoor
