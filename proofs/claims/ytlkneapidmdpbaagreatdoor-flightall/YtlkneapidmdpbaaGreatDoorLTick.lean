/-
  The contracts of tick over this seat's program. Conditions: those of each statement.
-/
import Derived.Test.YtlkneapidmdpbaaGreatDoorLBase
import Derived.Laws.LoneSync
namespace Go.Proofs.YtlkneapidmdpbaaGreatDoor
open Go.RowKit

/-- the sum, held at the end -/
def Lk.addT (a b : Int) : Int := if 18446744073709551615 < a + b then 18446744073709551615 else a + b
/-- what is left -/
def Lk.leftT (now at_ : Int) : Int := if at_ ≤ now then 0 else at_ - now
theorem Lk.addT_le (a b : Int) : Lk.addT a b ≤ 18446744073709551615 := by unfold Lk.addT; split <;> omega
theorem Lk.addT_ge (a b : Int) (ha : 0 ≤ a) (hb : 0 ≤ b) : 0 ≤ Lk.addT a b := by unfold Lk.addT; split <;> omega
theorem Lk.leftT_ge (a b : Int) : 0 ≤ Lk.leftT a b := by unfold Lk.leftT; split <;> omega
theorem Lk.leftT_le (a b : Int) (ha : 0 ≤ a) (hb : b ≤ 18446744073709551615) : Lk.leftT a b ≤ 18446744073709551615 := by unfold Lk.leftT; split <;> omega

set_option maxHeartbeats 400000 in
theorem tickAdd_any (a b : Int) (w : World) (ha : 0 ≤ a) (ha2 : a ≤ 18446744073709551615) (hb : 0 ≤ b) (hb2 : b ≤ 18446744073709551615) :
    Calls Tryz.prog 51 #[.int .u64 a, .int .u64 b] w fun e w' => e = .returned (.int .u64 (Lk.addT a b)) ∧ w = w' := by
  by_cases h : 18446744073709551615 < a + b
  · have h2 : 18446744073709551615 - a < b := by omega
    go_enter Tryz.func51, Tryz.ntmps51
    go_wp2
    go_ret
    exact ⟨ret_int (by rw [Lk.addT, if_pos h]), rfl⟩
  · have h2 : ¬ 18446744073709551615 - a < b := by omega
    go_enter Tryz.func51, Tryz.ntmps51
    go_wp2
    go_ret
    exact ⟨ret_int (by rw [Lk.addT, if_neg (by omega)]), rfl⟩
set_option maxHeartbeats 400000 in
theorem rtickAdd_any (a b : Int) (w : World) (ha : 0 ≤ a) (ha2 : a ≤ 18446744073709551615) (hb : 0 ≤ b) (hb2 : b ≤ 18446744073709551615) :
    Calls Tryz.prog 55 #[.int .u64 a, .int .u64 b] w fun e w' => e = .returned (.int .u64 (Lk.addT a b)) ∧ w = w' := by
  by_cases h : 18446744073709551615 < a + b
  · have h2 : 18446744073709551615 - a < b := by omega
    go_enter Tryz.func55, Tryz.ntmps55
    go_wp2
    go_ret
    exact ⟨ret_int (by rw [Lk.addT, if_pos h]), rfl⟩
  · have h2 : ¬ 18446744073709551615 - a < b := by omega
    go_enter Tryz.func55, Tryz.ntmps55
    go_wp2
    go_ret
    exact ⟨ret_int (by rw [Lk.addT, if_neg (by omega)]), rfl⟩
/-- at block g lies a clock that shows t -/
def ClockAt (w : World) (g : Nat) (t : Int) : Prop := w.cell? ⟨g, 0, none⟩ = some (.int .u64 t) ∧ w.frozen? ⟨g, 0, none⟩ = false
theorem ClockAt.lt {w : World} {g : Nat} {t : Int} (h : ClockAt w g t) : g < w.heap.size := by
  rcases Nat.lt_or_ge g w.heap.size with hlt | hge
  · exact hlt
  · have h1 := h.1
    unfold World.cell? at h1
    rw [Array.getElem?_eq_none hge] at h1
    cases h1
theorem ClockAt.below {w w' : World} {g B : Nat} {t : Int} (h : ClockAt w g t) (hb : Below B w w') (hg : g < B) : ClockAt w' g t :=
  ⟨(hb.cell (p := ⟨g, 0, none⟩) hg).trans h.1, (hb.frozen (p := ⟨g, 0, none⟩) hg).trans h.2⟩
theorem ClockAt.set {w : World} {g : Nat} {t : Int} (h : ClockAt w g t) (u : Int) : ClockAt (w.setCell ⟨g, 0, none⟩ (.int .u64 u)) g u :=
  ⟨World.cell?_setCell_same _ _ _ h.1, by rw [World.frozen?_setCell]; exact h.2⟩
theorem ClockAt.set_other {w : World} {g g2 : Nat} {t : Int} (h : ClockAt w g t) (u : Value) (hg : g2 ≠ g) : ClockAt (w.setCell ⟨g2, 0, none⟩ u) g t :=
  ⟨by rw [World.cell?_setCell_other _ _ _ _ (by intro e; injection e; exact hg (by assumption))]; exact h.1, by rw [World.frozen?_setCell]; exact h.2⟩
theorem ClockAt.new (w : World) (t : Int) (e : TypeId) : ClockAt (w.alloc (.cells #[.int .u64 t] e)) w.heap.size t := ⟨by simp, by simp⟩

end Go.Proofs.YtlkneapidmdpbaaGreatDoor
