/-
  The contract of the laws' own awake over this seat's program: it returns true, and nothing that was there has turned. No conditions.
-/
import Derived.Test.YtbpdemgbljbhcaaWOps
namespace Go.Proofs.Ytbpdemgbljbhcaa
open Go.RowKit

theorem Only.to_below {s : List Nat} {a c : World} (k : Only s a c) (hs : ∀ x ∈ s, a.heap.size ≤ x) : Below a.heap.size a c := Only.below (Below.refl _ _) k (Nat.le_refl _) hs
/-- what has turned lies above B -/
theorem Only.above {s : List Nat} {B : Nat} {a b c : World} (h : Below B a b) (k : Only s b c) (hB : B ≤ a.heap.size) (hs : ∀ x ∈ s, B ≤ x) : Below B a c := Only.below h k (Nat.le_trans hB h.size) hs
/-- a wheel, all of it above B -/
structure Up (B : Nat) (gw : Nat) (v : Value) : Prop where
  gw : B ≤ gw
  row : ∀ g ∈ ownL v, B ≤ g
theorem Up.foot {B gw : Nat} {v : Value} (h : Up B gw v) : ∀ x ∈ gw :: ownL v, B ≤ x := by
  intro x hx
  rcases List.mem_cons.1 hx with rfl | hx
  · exact h.gw
  · exact h.row x hx
theorem Wh.up {w : World} {B gw : Nat} {most next : Int} {v : Value} {s : List Al} (h : Wh w gw most next v s) (hB : B ≤ gw) : Up B gw v := ⟨hB, fun g hg => by have := (h.own hg).1; omega⟩

set_option maxHeartbeats 1200000 in
theorem awake9_any (w : World) : Calls Try.prog 8 #[] w fun e w' => e = .returned (.bool true) ∧ Below w.heap.size w w' := by
  go_enter Try.func8, Try.ntmps8
  go_wp2_with fail
  refine (wheelNew_wh 9 w).mono ?_
  rintro e w1 ⟨rfl, hw1, ho1, _⟩
  have HW1 : Hid (Wh w1 w.heap.size 9 1 (.slice none 0 0) []) := hw1
  have HB1 : Hid (Below w.heap.size w w1) := ho1.to_below (by simp)
  clear hw1 ho1
  go_wp2_with fail
  refine (wheelArm_room w.heap.size 9 1 _ [] 5 7 w1 HW1.out (by simp) (by omega) (by omega) (by omega)).mono ?_
  rintro e w2 ⟨rfl, v2, hw2, ho2, _⟩
  have HW2 : Hid (Wh w2 w.heap.size 9 2 v2 [(5, 1, 7)]) := hw2
  have HB2 : Hid (Below w.heap.size w w2) := Only.above HB1.out ho2 (Nat.le_refl _) (HW1.out.up (Nat.le_refl _)).foot
  clear hw2 ho2
  go_wp2_with fail
  refine (wheelArm_room w.heap.size 9 2 _ [(5, 1, 7)] 3 8 w2 HW2.out (by simp) (by omega) (by omega) (by omega)).mono ?_
  rintro e w3 ⟨rfl, v3, hw3, ho3, _⟩
  have HW3 : Hid (Wh w3 w.heap.size 9 3 v3 [(5, 1, 7), (3, 2, 8)]) := hw3
  have HB3 : Hid (Below w.heap.size w w3) := Only.above HB2.out ho3 (Nat.le_refl _) (HW2.out.up (Nat.le_refl _)).foot
  clear hw3 ho3
  go_wp2_with fail
  refine (wheelArm_room w.heap.size 9 3 _ [(5, 1, 7), (3, 2, 8)] 3 9 w3 HW3.out (by simp) (by omega) (by omega) (by omega)).mono ?_
  rintro e w4 ⟨rfl, v4, hw4, ho4, _⟩
  have HW4 : Hid (Wh w4 w.heap.size 9 4 v4 [(5, 1, 7), (3, 2, 8), (3, 3, 9)]) := hw4
  have HB4 : Hid (Below w.heap.size w w4) := Only.above HB3.out ho4 (Nat.le_refl _) (HW3.out.up (Nat.le_refl _)).foot
  clear hw4 ho4
  have HF : Hid (Fore [(5, 1, 7), (3, 2, 8), (3, 3, 9)] (3, 2, 8)) := ⟨by simp, by intro b hb; simp at hb; rcases hb with rfl | rfl | rfl <;> rw [aLe_iff] <;> simp⟩
  go_wp2_with fail
  refine (wheelDue_some w.heap.size 9 4 _ [(5, 1, 7), (3, 2, 8), (3, 3, 9)] (3, 2, 8) 4 w4 HW4.out HF.out (by simp) (by simp)).mono ?_
  rintro e w5 ⟨rfl, v5, hw5, ho5, _⟩
  have HW5 : Hid (Wh w5 w.heap.size 9 4 v5 [(5, 1, 7), (3, 3, 9)]) := hw5
  have HB5 : Hid (Below w.heap.size w w5) := Only.above HB4.out ho5 (Nat.le_refl _) (HW4.out.up (Nat.le_refl _)).foot
  clear hw5 ho5
  go_wp2_with fail
  refine (wheelLen_any w.heap.size 9 4 _ [(5, 1, 7), (3, 3, 9)] w5 HW5.out).mono ?_
  rintro e w' ⟨rfl, rfl⟩
  go_wp2
  go_ret
  exact ⟨rfl, HB5.out⟩
end Go.Proofs.Ytbpdemgbljbhcaa
