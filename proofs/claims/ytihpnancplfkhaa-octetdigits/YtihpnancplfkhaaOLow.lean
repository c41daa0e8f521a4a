/-
  Contracts of the statements' helper Low and of the blank that OctetTrims picks, over this seat's program. Conditions: the numbers fit int; the bound is at least 1.
-/
import Derived.Test.YtihpnancplfkhaaOArgs
namespace Go.Proofs.Ytihpnancplfkhaa
open Go.RowKit

/-- Low's number -/
def lowV (x n : Int) : Int := (IntKind.u64.wrap x) % n
theorem lowV_bd (x : Int) {n : Int} (hn : 1 ≤ n) : 0 ≤ lowV x n ∧ lowV x n < n :=
  ⟨Int.emod_nonneg _ (by omega), Int.emod_lt_of_pos _ (by omega)⟩

set_option maxHeartbeats 400000 in
theorem Low_any (x n : Int) (w : World) (hn : 1 ≤ n) (hn2 : n ≤ 9223372036854775807) :
    Calls Try.prog 29 #[.int .i64 x, .int .i64 n] w fun e w' => e = .returned (.int .i64 (lowV x n)) ∧ w = w' := by
  have hv := lowV_bd x hn
  have HE : Hid (wrap64 ((IntKind.u64.wrap x).tmod n) = lowV x n) := by
    show _ = _
    have e : (IntKind.u64.wrap x).tmod n = lowV x n := by rw [lowV, Int.tmod_eq_emod_of_nonneg (wrap_u64_nonneg x)]
    rw [e]
    unfold wrap64
    omega
  clear hv
  go_enter Try.func29, Try.ntmps29
  go_wp2
  go_ret
  exact ⟨ret_int HE.out, rfl⟩

def blankV (x : Int) : List UInt8 := if lowV x 4 = 0 then [9] else if lowV x 4 = 1 then [10] else if lowV x 4 = 2 then [13] else [32]
theorem blankV_sp (x : Int) : (blankV x).all Lk.sp = true := by unfold blankV; (repeat' split) <;> decide
theorem blankV_len (x : Int) : (blankV x).length = 1 := by unfold blankV; (repeat' split) <;> rfl
set_option maxHeartbeats 400000 in
theorem blank_any (x : Int) (w : World) :
    Calls Try.prog 28 #[.int .i64 x] w fun e w' => e = .returned (.string (mk (blankV x))) ∧ w = w' := by
  have hv := lowV_bd x (n := 4) (by decide)
  have i0 : ∀ w, (Instr.index 39 (.agg #[.string ⟨#[9]⟩, .string ⟨#[10]⟩, .string ⟨#[13]⟩, .string ⟨#[32]⟩]) (.int .i64 0)).run Try.prog w = .ok (.string ⟨#[9]⟩) w := fun _ => by kernel_rfl
  have i1 : ∀ w, (Instr.index 39 (.agg #[.string ⟨#[9]⟩, .string ⟨#[10]⟩, .string ⟨#[13]⟩, .string ⟨#[32]⟩]) (.int .i64 1)).run Try.prog w = .ok (.string ⟨#[10]⟩) w := fun _ => by kernel_rfl
  have i2 : ∀ w, (Instr.index 39 (.agg #[.string ⟨#[9]⟩, .string ⟨#[10]⟩, .string ⟨#[13]⟩, .string ⟨#[32]⟩]) (.int .i64 2)).run Try.prog w = .ok (.string ⟨#[13]⟩) w := fun _ => by kernel_rfl
  have i3 : ∀ w, (Instr.index 39 (.agg #[.string ⟨#[9]⟩, .string ⟨#[10]⟩, .string ⟨#[13]⟩, .string ⟨#[32]⟩]) (.int .i64 3)).run Try.prog w = .ok (.string ⟨#[32]⟩) w := fun _ => by kernel_rfl
  rcases (show (lowV x 4 = 0 ∧ blankV x = [9]) ∨ (lowV x 4 = 1 ∧ blankV x = [10]) ∨ (lowV x 4 = 2 ∧ blankV x = [13]) ∨ (lowV x 4 = 3 ∧ blankV x = [32]) by
    rcases (show lowV x 4 = 0 ∨ lowV x 4 = 1 ∨ lowV x 4 = 2 ∨ lowV x 4 = 3 by omega) with h | h | h | h <;> simp [blankV, h]) with ⟨h, hb⟩ | ⟨h, hb⟩ | ⟨h, hb⟩ | ⟨h, hb⟩
  all_goals
    have HB := Lib.hid hb
    have HH := Lib.hid h
    clear h hv hb
    go_enter Try.func28, Try.ntmps28
    go_wp2_with fail
    refine (Low_any _ _ _ (by decide) (by decide)).mono ?_
    rintro e w' ⟨rfl, rfl⟩
    rw [HH.out]
    go_wp2
    go_ret
    exact ⟨ret_string (by rw [HB.out]; rfl), rfl⟩
end Go.Proofs.Ytihpnancplfkhaa
