/-
  The contract of the statements' helper Low over this seat's program. Conditions: the bound is at least 1, and fits int.
-/
import Derived.Test.YtcljmdpnbfefbaaKBase
namespace Go.Proofs.Ytcljmdpnbfefbaa
open Go.RowKit

/-- Low's number -/
def lowV (x n : Int) : Int := (IntKind.u64.wrap x) % n
theorem lowV_bd (x : Int) {n : Int} (hn : 1 ≤ n) : 0 ≤ lowV x n ∧ lowV x n < n :=
  ⟨Int.emod_nonneg _ (by omega), Int.emod_lt_of_pos _ (by omega)⟩
theorem wrapU_nonneg (x : Int) : 0 ≤ IntKind.u64.wrap x := by
  simp only [IntKind.wrap, IntKind.bits, IntKind.signed]
  simp
  omega

set_option maxHeartbeats 400000 in
theorem Low_any (x n : Int) (w : World) (hn : 1 ≤ n) (hn2 : n ≤ 9223372036854775807) :
    Calls Try.prog 11 #[.int .i64 x, .int .i64 n] w fun e w' => e = .returned (.int .i64 (lowV x n)) ∧ w = w' := by
  have hv := lowV_bd x hn
  have HE : Hid (wrap64 ((IntKind.u64.wrap x).tmod n) = lowV x n) := by
    show _ = _
    have e : (IntKind.u64.wrap x).tmod n = lowV x n := by rw [lowV, Int.tmod_eq_emod_of_nonneg (wrapU_nonneg x)]
    rw [e]
    unfold wrap64
    omega
  clear hv
  go_enter Try.func11, Try.ntmps11
  go_wp2
  go_ret
  exact ⟨ret_int HE.out, rfl⟩
end Go.Proofs.Ytcljmdpnbfefbaa
