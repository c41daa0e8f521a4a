/-
  Contracts of octet's functions of one byte, over this seat's program: each returns what the plain mathematics says, and the world is as it was. Conditions: the byte is from 0 to 255.
-/
import Derived.Test.YtfamllkmmiajoaaDoorKBase
import Derived.Test.YtfamllkmmiajoaaDoorOMath
namespace Go.Proofs.YtfamllkmmiajoaaDoor
open Go.RowKit

set_option maxHeartbeats 400000 in
theorem lowerByte_any (c : Int) (w : World) (h0 : 0 ≤ c) (h1 : c ≤ 255) :
    Calls Tryd.prog 63 #[.int .u8 c] w fun e w' => e = .returned (.int .u8 (Lk.lowI c)) ∧ w = w' := by
  by_cases a : 65 ≤ c
  · by_cases b : c ≤ 90
    · go_enter Tryd.func63, Tryd.ntmps63
      go_wp2
      go_ret
      exact ⟨ret_int (by rw [Lk.lowI_up a b]), rfl⟩
    · go_enter Tryd.func63, Tryd.ntmps63
      go_wp2
      go_ret
      exact ⟨ret_int (by rw [Lk.lowI_not (by omega)]), rfl⟩
  · go_enter Tryd.func63, Tryd.ntmps63
    go_wp2
    go_ret
    exact ⟨ret_int (by rw [Lk.lowI_not (by omega)]), rfl⟩

set_option maxHeartbeats 400000 in
theorem isDigit_any (c : Int) (w : World) :
    Calls Tryd.prog 77 #[.int .u8 c] w fun e w' => e = .returned (.bool (Lk.digB c)) ∧ w = w' := by
  go_enter Tryd.func77, Tryd.ntmps77
  go_wp2
  all_goals
    go_ret
    exact ⟨ret_bool (by simp [Lk.digB, *] <;> omega), rfl⟩

end Go.Proofs.YtfamllkmmiajoaaDoor
