/-
  The two tables of package method in memory, as its text lays them: kept by whatever makes new memory alone. Conditions: none.
-/
import Derived.Test.YtpnajoehhjiigaaDoorLOct2
import Derived.Test.YtpnajoehhjiigaaDoorJMath
import Derived.Laws.Rows
namespace Go.Proofs.YtpnajoehhjiigaaDoor
open Go.RowKit

def usA : Array Value := #[.string ⟨#[68, 69, 76, 69, 84, 69]⟩, .string ⟨#[71, 69, 84]⟩, .string ⟨#[72, 69, 65, 68]⟩, .string ⟨#[79, 80, 84, 73, 79, 78, 83]⟩, .string ⟨#[80, 79, 83, 84]⟩, .string ⟨#[80, 85, 84]⟩]
def baA : Array Value := #[.string ⟨#[67, 79, 78, 78, 69, 67, 84]⟩, .string ⟨#[84, 82, 65, 67, 69]⟩, .string ⟨#[84, 82, 65, 67, 75]⟩]
/-- the tables of methods -/
structure MEnv (w : World) : Prop where
  us : ∃ t fr, w.heap[(0 : Nat)]? = some (.cells usA t fr)
  ba : ∃ t fr, w.heap[(1 : Nat)]? = some (.cells baA t fr)
theorem heap_lt {w : World} {g : Nat} {o : Obj} (h : w.heap[g]? = some o) : g < w.heap.size := (Array.getElem?_eq_some_iff.1 h).1
theorem MEnv.below {w w' : World} (h : MEnv w) (hb : Below w.heap.size w w') : MEnv w' := by
  obtain ⟨⟨t, fr, h1⟩, ⟨t', fr', h2⟩⟩ := h
  exact ⟨⟨t, fr, (hb.block _ (heap_lt h1)).trans h1⟩, ⟨t', fr', (hb.block _ (heap_lt h2)).trans h2⟩⟩
theorem MEnv.drewN {w : World} (h : MEnv w) (n : Nat) : MEnv (w.drewN n) := h.below ⟨rfl, rfl, rfl, Nat.le_refl _, fun _ _ => rfl⟩
theorem MEnv.alloc {w : World} (h : MEnv w) (o : Obj) : MEnv (w.alloc o) := h.below ((Below.refl _ _).alloc (Nat.le_refl _) o)

theorem us_0 (w : World) : (Instr.index 29 (.agg usA) (.int .i64 0)).run Tryd.prog w = .ok (.string ⟨#[68, 69, 76, 69, 84, 69]⟩) w := by kernel_rfl
theorem us_1 (w : World) : (Instr.index 29 (.agg usA) (.int .i64 1)).run Tryd.prog w = .ok (.string ⟨#[71, 69, 84]⟩) w := by kernel_rfl
theorem us_2 (w : World) : (Instr.index 29 (.agg usA) (.int .i64 2)).run Tryd.prog w = .ok (.string ⟨#[72, 69, 65, 68]⟩) w := by kernel_rfl
theorem us_3 (w : World) : (Instr.index 29 (.agg usA) (.int .i64 3)).run Tryd.prog w = .ok (.string ⟨#[79, 80, 84, 73, 79, 78, 83]⟩) w := by kernel_rfl
theorem us_4 (w : World) : (Instr.index 29 (.agg usA) (.int .i64 4)).run Tryd.prog w = .ok (.string ⟨#[80, 79, 83, 84]⟩) w := by kernel_rfl
theorem us_5 (w : World) : (Instr.index 29 (.agg usA) (.int .i64 5)).run Tryd.prog w = .ok (.string ⟨#[80, 85, 84]⟩) w := by kernel_rfl
theorem ba_0 (w : World) : (Instr.index 31 (.agg baA) (.int .i64 0)).run Tryd.prog w = .ok (.string ⟨#[67, 79, 78, 78, 69, 67, 84]⟩) w := by kernel_rfl
theorem ba_1 (w : World) : (Instr.index 31 (.agg baA) (.int .i64 1)).run Tryd.prog w = .ok (.string ⟨#[84, 82, 65, 67, 69]⟩) w := by kernel_rfl
theorem ba_2 (w : World) : (Instr.index 31 (.agg baA) (.int .i64 2)).run Tryd.prog w = .ok (.string ⟨#[84, 82, 65, 67, 75]⟩) w := by kernel_rfl

/-- one of the six, by its number -/
theorem us_view (k : Nat) (h : k < 6) : ∃ m : ByteArray, Lk.usL[k]? = some m.data.toList ∧ m.size ≤ 7 ∧ ∀ w, (Instr.index 29 (.agg usA) (.int .i64 (k : Int))).run Tryd.prog w = .ok (.string m) w := by
  match k, h with
  | 0, _ => exact ⟨_, rfl, by decide, us_0⟩
  | 1, _ => exact ⟨_, rfl, by decide, us_1⟩
  | 2, _ => exact ⟨_, rfl, by decide, us_2⟩
  | 3, _ => exact ⟨_, rfl, by decide, us_3⟩
  | 4, _ => exact ⟨_, rfl, by decide, us_4⟩
  | 5, _ => exact ⟨_, rfl, by decide, us_5⟩
theorem ba_view (k : Nat) (h : k < 3) : ∃ m : ByteArray, Lk.baL[k]? = some m.data.toList ∧ m.size ≤ 7 ∧ ∀ w, (Instr.index 31 (.agg baA) (.int .i64 (k : Int))).run Tryd.prog w = .ok (.string m) w := by
  match k, h with
  | 0, _ => exact ⟨_, rfl, by decide, ba_0⟩
  | 1, _ => exact ⟨_, rfl, by decide, ba_1⟩
  | 2, _ => exact ⟨_, rfl, by decide, ba_2⟩
end Go.Proofs.YtpnajoehhjiigaaDoor
