/-
  What layer 7's chapter tells by example, over this seat's program, and words that the walks of its statements share. Conditions: those of each statement.
-/
import Derived.Test.YtinpfkbplflecaaVSafe3
import Derived.Test.YtinpfkbplflecaaDWords
namespace Go.Proofs.Ytinpfkbplflecaa
open Go.RowKit

theorem aw7_0 : essL [32, 84, 101, 120, 116, 47, 80, 108, 97, 105, 110, 32, 59, 120] = some [116, 101, 120, 116, 47, 112, 108, 97, 105, 110] := by decide
theorem aw7_1 : essV (⟨#[32, 84, 101, 120, 116, 47, 80, 108, 97, 105, 110, 32, 59, 120]⟩ : ByteArray).data.toList = .tuple #[.string ⟨#[116, 101, 120, 116, 47, 112, 108, 97, 105, 110]⟩, .bool true] := essV_yes aw7_0
theorem aw7_2 : rangeL (⟨#[98, 121, 116, 101, 115, 61, 53, 45]⟩ : ByteArray).data.toList = true := by decide
theorem aw7_3 : rangeL (⟨#[98, 121, 116, 101, 115, 61, 53, 45, 52]⟩ : ByteArray).data.toList = false := by decide
theorem aw7_4 : rangeL (⟨#[98, 121, 116, 101, 115, 61, 45, 52]⟩ : ByteArray).data.toList = false := by decide
theorem aw7_5 : safeH (hd (⟨#[120]⟩, ⟨#[]⟩)) = false := by decide

set_option maxHeartbeats 1000000 in
theorem awake7_any (w : World) : Calls Try.prog 27 #[] w fun e w' => e = .returned (.bool true) ∧ Below w.heap.size w w' := by
  go_enter Try.func27, Try.ntmps27
  go_wp2_with fail
  refine (Essence_any _ _ (by unfold maxLen; decide)).mono ?_
  rintro e w1 ⟨rfl, hb⟩
  rw [aw7_1]
  have HB1 : Hid (Below w.heap.size w w1) := hb
  clear hb
  go_wp2_with fail
  refine (Range_any _ _ (by unfold maxLen; decide)).mono ?_
  rintro e w2 ⟨rfl, n2, hw⟩
  rw [aw7_2]
  have HB2 : Hid (Below w.heap.size w w2) := by show Below _ _ _; rw [hw]; exact below_drewN HB1.out _
  clear hw
  go_wp2_with fail
  refine (Range_any _ _ (by unfold maxLen; decide)).mono ?_
  rintro e w3 ⟨rfl, n3, hw⟩
  rw [aw7_3]
  have HB3 : Hid (Below w.heap.size w w3) := by show Below _ _ _; rw [hw]; exact below_drewN HB2.out _
  clear hw
  go_wp2_with fail
  refine (Range_any _ _ (by unfold maxLen; decide)).mono ?_
  rintro e w4 ⟨rfl, n4, hw⟩
  rw [aw7_4]
  have HB4 : Hid (Below w.heap.size w w4) := by show Below _ _ _; rw [hw]; exact below_drewN HB3.out _
  clear hw
  go_wp2_with fail
  refine (Header_any ⟨#[120]⟩ ⟨#[]⟩ _ (by unfold maxLen; decide) (by unfold maxLen; decide)).mono ?_
  rintro e w5 ⟨rfl, hb⟩
  rw [aw7_5]
  have HB5 : Hid (Below w.heap.size w w5) := HB4.out.trans (hb.mono HB4.out.size)
  clear hb
  go_wp2
  go_ret
  exact ⟨rfl, HB5.out⟩

theorem rep_ok (n : Nat) (c : UInt8) (p : UInt8 → Bool) (h : p c = true) : (List.replicate n c).all p = true := by
  rw [List.all_eq_true]
  intro x hx
  obtain rfl := (List.mem_replicate.1 hx).2
  exact h
theorem rep_trim (n : Nat) (c : UInt8) (h : Lk.sp c = false) : Lk.trimL (List.replicate n c) = List.replicate n c := by
  apply Lk.trim_of_tight
  cases n with
  | zero => exact .inl rfl
  | succ n => exact .inr ⟨⟨c, List.replicate n c, rfl, h⟩, ⟨c, List.replicate n c, List.replicate_succ', h⟩⟩
theorem low_nat (x : Int) (n : Nat) (hn : 1 ≤ n) : ∃ k : Nat, lowV x (n : Int) = (k : Int) ∧ k < n := by
  have := lowV_bd x (n := (n : Int)) (by omega)
  exact ⟨(lowV x n).toNat, by omega, by omega⟩
end Go.Proofs.Ytinpfkbplflecaa
