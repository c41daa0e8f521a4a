/-
  Contracts of octet's Join and of the statements' helper In, over this seat's program. Conditions: the texts lie where the slice says; what is joined has at most 2^40 bytes.
-/
import Derived.Test.YtfamllkmmiajoaaDoorOWords
import Derived.Test.YtfamllkmmiajoaaDoorOMath2
import Derived.Lib.Join
namespace Go.Proofs.YtfamllkmmiajoaaDoor
open Go.RowKit

theorem sum_data (xs : List ByteArray) : ((xs.map (·.data.toList)).map List.length).sum = (xs.map ByteArray.size).sum := by
  rw [List.map_map]; congr 1
/-- the texts' bytes -/
def dat (xs : List ByteArray) : List (List UInt8) := xs.map (·.data.toList)
theorem dat_snoc (xs : List ByteArray) (x : ByteArray) : dat (xs ++ [x]) = dat xs ++ [x.data.toList] := by simp [dat]
theorem dat_len (xs : List ByteArray) : (dat xs).length = xs.length := by simp [dat]
theorem dat_sum (xs : List ByteArray) : ((dat xs).map List.length).sum = (xs.map ByteArray.size).sum := sum_data xs

theorem join_eq : ∀ l : List (List UInt8), Lib.join l [44, 32] = Lk.joinL l
  | [] => rfl
  | [x] => by rw [Lib.join_one]; rfl
  | x :: y :: r => by
    have := join_eq (y :: r)
    rw [Lib.join_cons] at this ⊢
    rw [Lk.joinL, ← this, Lib.joinTail, Lib.joinTail]
    simp

set_option maxHeartbeats 400000 in
theorem In_any (c : Int) (s : ByteArray) (w : World) (hs : s.size ≤ maxLen) :
    Calls Tryd.prog 24 #[.int .u8 c, .string s] w fun e w' => e = .returned (.bool (Lk.inL c s.data.toList)) ∧ w = w' := by
  unfold maxLen at hs
  go_enter Tryd.func24, Tryd.ntmps24
  go_wp2
  go_loop [5] (fun i => ∃ k : Nat, k ≤ s.size ∧ i = .int .i64 k ∧ (s.data.toList.take k).any (fun b => (b.toNat : Int) == c) = false) (fun i => s.size - (intOf i).toNat)
  case atStart => exact ⟨0, Nat.zero_le _, rfl, rfl⟩
  case round =>
    obtain ⟨k, hk, rfl, ha⟩ := hrel
    have HA := Lib.hid ha
    clear ha
    by_cases hlt : k < s.size
    · cases hc : ((s[k].toNat : Int) == c)
      · have HC := Lib.hid hc
        go_wp2
        go_round
        case rel => exact ⟨k + 1, by omega, by go_num, Lk.any_no hlt HA.out HC.out⟩
        case measure => simp [intOf]; omega
      · have HC := Lib.hid hc
        go_wp2
        go_ret
        exact ⟨ret_bool (by rw [Lk.inL, Lk.any_yes hlt HC.out]), rfl⟩
    · go_wp2
      go_ret
      exact ⟨ret_bool (by have := HA.out; rw [Lk.take_all s k (by omega)] at this; rw [Lk.inL, this]), rfl⟩
end Go.Proofs.YtfamllkmmiajoaaDoor
