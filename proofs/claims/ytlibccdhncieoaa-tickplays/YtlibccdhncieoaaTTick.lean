/-
  Contracts of tick's functions and of the reference's, over this seat's program: a sum held at its end, what is left, a clock that is made, asked, moved on. Conditions: numbers are those of 64 bits; a clock's own cell is there and not frozen.
-/
import Derived.Test.YtlibccdhncieoaaKBase
import Derived.Laws.LoneSync
namespace Go.Proofs.Ytlibccdhncieoaa
open Go.RowKit

/-- the sum, held at the end -/
def Lk.addT (a b : Int) : Int := if 18446744073709551615 < a + b then 18446744073709551615 else a + b
/-- what is left -/
def Lk.leftT (now at_ : Int) : Int := if at_ ≤ now then 0 else at_ - now
theorem Lk.addT_le (a b : Int) : Lk.addT a b ≤ 18446744073709551615 := by unfold Lk.addT; split <;> omega
theorem Lk.addT_ge (a b : Int) (ha : 0 ≤ a) (hb : 0 ≤ b) : 0 ≤ Lk.addT a b := by unfold Lk.addT; split <;> omega
theorem Lk.leftT_ge (a b : Int) : 0 ≤ Lk.leftT a b := by unfold Lk.leftT; split <;> omega
theorem Lk.leftT_le (a b : Int) (ha : 0 ≤ a) (hb : b ≤ 18446744073709551615) : Lk.leftT a b ≤ 18446744073709551615 := by unfold Lk.leftT; split <;> omega

set_option maxHeartbeats 400000 in
theorem tickAdd_any (a b : Int) (w : World) (ha : 0 ≤ a) (ha2 : a ≤ 18446744073709551615) (hb : 0 ≤ b) (hb2 : b ≤ 18446744073709551615) :
    Calls Try.prog 8 #[.int .u64 a, .int .u64 b] w fun e w' => e = .returned (.int .u64 (Lk.addT a b)) ∧ w = w' := by
  by_cases h : 18446744073709551615 < a + b
  · have h2 : 18446744073709551615 - a < b := by omega
    go_enter Try.func8, Try.ntmps8
    go_wp2
    go_ret
    exact ⟨ret_int (by rw [Lk.addT, if_pos h]), rfl⟩
  · have h2 : ¬ 18446744073709551615 - a < b := by omega
    go_enter Try.func8, Try.ntmps8
    go_wp2
    go_ret
    exact ⟨ret_int (by rw [Lk.addT, if_neg (by omega)]), rfl⟩
set_option maxHeartbeats 400000 in
theorem rtickAdd_any (a b : Int) (w : World) (ha : 0 ≤ a) (ha2 : a ≤ 18446744073709551615) (hb : 0 ≤ b) (hb2 : b ≤ 18446744073709551615) :
    Calls Try.prog 9 #[.int .u64 a, .int .u64 b] w fun e w' => e = .returned (.int .u64 (Lk.addT a b)) ∧ w = w' := by
  by_cases h : 18446744073709551615 < a + b
  · have h2 : 18446744073709551615 - a < b := by omega
    go_enter Try.func9, Try.ntmps9
    go_wp2
    go_ret
    exact ⟨ret_int (by rw [Lk.addT, if_pos h]), rfl⟩
  · have h2 : ¬ 18446744073709551615 - a < b := by omega
    go_enter Try.func9, Try.ntmps9
    go_wp2
    go_ret
    exact ⟨ret_int (by rw [Lk.addT, if_neg (by omega)]), rfl⟩
set_option maxHeartbeats 400000 in
theorem tickLeft_any (a b : Int) (w : World) (ha : 0 ≤ a) (hb2 : b ≤ 18446744073709551615) :
    Calls Try.prog 10 #[.int .u64 a, .int .u64 b] w fun e w' => e = .returned (.int .u64 (Lk.leftT a b)) ∧ w = w' := by
  by_cases h : b ≤ a
  · go_enter Try.func10, Try.ntmps10
    go_wp2
    go_ret
    exact ⟨ret_int (by rw [Lk.leftT, if_pos h]), rfl⟩
  · go_enter Try.func10, Try.ntmps10
    go_wp2
    go_ret
    exact ⟨ret_int (by rw [Lk.leftT, if_neg (by omega)]), rfl⟩
set_option maxHeartbeats 400000 in
theorem rtickLeft_any (a b : Int) (w : World) (ha : 0 ≤ a) (hb2 : b ≤ 18446744073709551615) :
    Calls Try.prog 11 #[.int .u64 a, .int .u64 b] w fun e w' => e = .returned (.int .u64 (Lk.leftT a b)) ∧ w = w' := by
  by_cases h : b ≤ a
  · go_enter Try.func11, Try.ntmps11
    go_wp2
    go_ret
    exact ⟨ret_int (by rw [Lk.leftT, if_pos h]), rfl⟩
  · go_enter Try.func11, Try.ntmps11
    go_wp2
    go_ret
    exact ⟨ret_int (by rw [Lk.leftT, if_neg (by omega)]), rfl⟩
/-- at block g lies a clock that shows t -/
def ClockAt (w : World) (g : Nat) (t : Int) : Prop := w.cell? ⟨g, 0, none⟩ = some (.int .u64 t) ∧ w.frozen? ⟨g, 0, none⟩ = false
theorem ClockAt.lt {w : World} {g : Nat} {t : Int} (h : ClockAt w g t) : g < w.heap.size := by
  rcases Nat.lt_or_ge g w.heap.size with hlt | hge
  · exact hlt
  · have h1 := h.1
    unfold World.cell? at h1
    rw [Array.getElem?_eq_none hge] at h1
    cases h1
theorem ClockAt.below {w w' : World} {g B : Nat} {t : Int} (h : ClockAt w g t) (hb : Below B w w') (hg : g < B) : ClockAt w' g t :=
  ⟨(hb.cell (p := ⟨g, 0, none⟩) hg).trans h.1, (hb.frozen (p := ⟨g, 0, none⟩) hg).trans h.2⟩
theorem ClockAt.set {w : World} {g : Nat} {t : Int} (h : ClockAt w g t) (u : Int) : ClockAt (w.setCell ⟨g, 0, none⟩ (.int .u64 u)) g u :=
  ⟨World.cell?_setCell_same _ _ _ h.1, by rw [World.frozen?_setCell]; exact h.2⟩
theorem ClockAt.set_other {w : World} {g g2 : Nat} {t : Int} (h : ClockAt w g t) (u : Value) (hg : g2 ≠ g) : ClockAt (w.setCell ⟨g2, 0, none⟩ u) g t :=
  ⟨by rw [World.cell?_setCell_other _ _ _ _ (by intro e; injection e; exact hg (by assumption))]; exact h.1, by rw [World.frozen?_setCell]; exact h.2⟩
theorem ClockAt.new (w : World) (t : Int) (e : TypeId) : ClockAt (w.alloc (.cells #[.int .u64 t] e)) w.heap.size t := ⟨by simp, by simp⟩

set_option maxHeartbeats 400000 in
/-- an atomic number is read -/
theorem atomLoad_any (g : Nat) (t : Int) (w : World) (hc : ClockAt w g t) :
    Calls Try.prog 18 #[.pointer (some ⟨g, 0, none⟩)] w fun e w' => e = .returned (.int .u64 t) ∧ w = w' := by
  obtain ⟨h0, _⟩ := hc
  have hl := run_call_load (P := Try.prog) Try.func20 (by kernel_rfl) (by kernel_rfl) (by kernel_rfl) .u64 (by kernel_rfl) h0
  go_enter Try.func18, Try.ntmps18
  go_wp2
  go_ret
  exact ⟨rfl, rfl⟩
set_option maxHeartbeats 400000 in
/-- an atomic number is laid -/
theorem atomStore_any (g : Nat) (t u : Int) (w : World) (hc : ClockAt w g t) :
    Calls Try.prog 17 #[.pointer (some ⟨g, 0, none⟩), .int .u64 u] w fun e w' => e = .returned (.tuple #[]) ∧ w' = w.setCell ⟨g, 0, none⟩ (.int .u64 u) := by
  obtain ⟨h0, hz⟩ := hc
  have hst := run_call_store (P := Try.prog) Try.func19 (by kernel_rfl) (by kernel_rfl) (by kernel_rfl) (by kernel_rfl) (k := .u64) (y := u) h0 hz
  go_enter Try.func17, Try.ntmps17
  go_wp2
  go_end0
  exact ⟨rfl, rfl⟩
set_option maxHeartbeats 400000 in
theorem clockNow_any (g : Nat) (t : Int) (w : World) (hc : ClockAt w g t) :
    Calls Try.prog 15 #[.pointer (some ⟨g, 0, none⟩)] w fun e w' => e = .returned (.int .u64 t) ∧ w = w' := by
  go_enter Try.func15, Try.ntmps15
  go_wp2_with (go_at_call 18; refine (atomLoad_any _ _ _ hc).mono ?_; rintro e w' ⟨rfl, rfl⟩)
  go_ret
  exact ⟨rfl, rfl⟩
set_option maxHeartbeats 400000 in
theorem clockNew_any (t : Int) (w : World) :
    Calls Try.prog 13 #[.int .u64 t] w fun e w' => e = .returned (.pointer (some ⟨w.heap.size, 0, none⟩)) ∧ w' = w.alloc (.cells #[.int .u64 t] 40) := by
  have h0 : (w.alloc (.cells #[.int .u64 0] 40)).cell? ⟨w.heap.size, 0, none⟩ = some (.int .u64 0) := by simp
  have hz : (w.alloc (.cells #[.int .u64 0] 40)).frozen? ⟨w.heap.size, 0, none⟩ = false := by simp
  have hc : ClockAt (w.alloc (.cells #[.int .u64 0] 40)) w.heap.size 0 := ⟨h0, hz⟩
  clear h0 hz
  go_enter Try.func13, Try.ntmps13
  go_wp2_with (go_at_call 17; refine (atomStore_any _ _ _ _ hc).mono ?_; rintro e w' ⟨rfl, rfl⟩)
  go_ret
  exact ⟨rfl, rfl⟩
set_option maxHeartbeats 400000 in
theorem clockStep_any (g : Nat) (t n : Int) (w : World) (hc : ClockAt w g t) (ht : 0 ≤ t) (ht2 : t ≤ 18446744073709551615) (hn : 0 ≤ n) (hn2 : n ≤ 18446744073709551615) :
    Calls Try.prog 14 #[.pointer (some ⟨g, 0, none⟩), .int .u64 n] w fun e w' => e = .returned (.int .u64 (Lk.addT t n)) ∧ w' = w.setCell ⟨g, 0, none⟩ (.int .u64 (Lk.addT t n)) := by
  go_enter Try.func14, Try.ntmps14
  go_wp2_with (first
    | (go_at_call 8; refine (tickAdd_any _ _ _ ht ht2 hn hn2).mono ?_; rintro e w' ⟨rfl, rfl⟩)
    | (go_at_call 18; refine (atomLoad_any _ _ _ hc).mono ?_; rintro e w' ⟨rfl, rfl⟩)
    | (go_at_call 17; refine (atomStore_any _ _ _ _ hc).mono ?_; rintro e w' ⟨rfl, rfl⟩))
  go_ret
  exact ⟨rfl, rfl⟩
set_option maxHeartbeats 400000 in
theorem clockPast_any (g : Nat) (t n : Int) (w : World) (hc : ClockAt w g t) :
    Calls Try.prog 16 #[.pointer (some ⟨g, 0, none⟩), .int .u64 n] w fun e w' => e = .returned (.bool (decide (n ≤ t))) ∧ w = w' := by
  go_enter Try.func16, Try.ntmps16
  go_wp2_with (go_at_call 15; refine (clockNow_any _ _ _ hc).mono ?_; rintro e w' ⟨rfl, rfl⟩)
  go_ret
  exact ⟨rfl, rfl⟩
end Go.Proofs.Ytlibccdhncieoaa
