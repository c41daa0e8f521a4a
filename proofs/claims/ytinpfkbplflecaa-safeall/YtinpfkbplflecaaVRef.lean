/-
  Contracts of the document's own answer of layer 7 (Byte, each, Essence, Range, Header), over this seat's program, by the same plain mathematics as safe's. Conditions: the texts' sizes are such as any text's.
-/
import Derived.Test.YtinpfkbplflecaaVSafe2
import Derived.Test.YtinpfkbplflecaaLRef1
namespace Go.Proofs.Ytinpfkbplflecaa
open Go.RowKit

theorem inL_contains (c : UInt8) : ∀ l : List UInt8, Lk.inL c.toNat l = l.contains c
  | [] => rfl
  | b :: l => by
    have ih := inL_contains c l
    unfold Lk.inL at ih ⊢
    rw [List.any_cons, List.contains_cons, ih]
    congr 1
    rw [Bool.eq_iff_iff]
    simp only [beq_iff_eq]
    constructor
    · intro h; exact Lk.u8_eq h.symm
    · intro h; rw [h]
def bar13 : List UInt8 := [34, 40, 41, 58, 60, 62, 63, 64, 91, 92, 93, 123, 125]
theorem bar_127 : barL.contains 127 = true := by decide
theorem bar_not {c : UInt8} (h : ¬ (c.toNat : Int) = 127) : barL.contains c = Lk.inL c.toNat bar13 := by
  rw [inL_contains]
  have e : barL = bar13 ++ [127] := rfl
  have h2 : (c == 127) = false := by
    rw [beq_eq_false_iff_ne]; intro e; subst e; exact h rfl
  rw [e]
  simp; intro e; subst e; exact absurd rfl h

set_option maxHeartbeats 1000000 in
theorem refByte_any (c : UInt8) (w : World) :
    Calls Try.prog 31 #[.int .u8 (c.toNat : Int)] w fun e w' => e = .returned (.bool (byteOk c)) ∧ w = w' := by
  by_cases h9 : (c.toNat : Int) = 9
  · have HE : Hid (byteOk c = true) := by
      show _ = _
      have : c = 9 := Lk.u8_eq (by rw [h9]; rfl)
      subst this; decide
    go_enter Try.func31, Try.ntmps31
    go_wp2
    go_ret
    exact ⟨ret_bool HE.out.symm, rfl⟩
  by_cases h32 : (c.toNat : Int) < 32
  · have HE := Lib.hid (byteOk_lo h9 h32)
    go_enter Try.func31, Try.ntmps31
    go_wp2
    go_ret
    exact ⟨ret_bool (by rw [HE.out]; simpa using h9), rfl⟩
  by_cases h127 : (c.toNat : Int) = 127
  · have HE : Hid (byteOk c = false) := by
      show _ = _
      have : c = 127 := Lk.u8_eq (by rw [h127]; rfl)
      subst this; decide
    go_enter Try.func31, Try.ntmps31
    go_wp2
    go_ret
    exact ⟨ret_bool HE.out.symm, rfl⟩
  have HE : Hid (byteOk c = !Lk.inL c.toNat bar13) := by show _ = _; rw [byteOk_hi h9 h32, bar_not h127]
  go_enter Try.func31, Try.ntmps31
  go_wp2_with fail
  refine (In_any _ _ _ (by decide)).mono ?_
  rintro e w' ⟨rfl, rfl⟩
  cases hi : Lk.inL c.toNat bar13
  · have HI := Lib.hid hi
    rw [show Lk.inL (c.toNat : Int) (⟨#[34, 40, 41, 58, 60, 62, 63, 64, 91, 92, 93, 123, 125]⟩ : ByteArray).data.toList = false from HI.out]
    clear hi
    go_wp2
    go_ret
    exact ⟨ret_bool (by rw [HE.out, HI.out] <;> simp_all), rfl⟩
  · have HI := Lib.hid hi
    rw [show Lk.inL (c.toNat : Int) (⟨#[34, 40, 41, 58, 60, 62, 63, 64, 91, 92, 93, 123, 125]⟩ : ByteArray).data.toList = true from HI.out]
    clear hi
    go_wp2
    go_ret
    exact ⟨ret_bool (by rw [HE.out, HI.out] <;> simp_all), rfl⟩

set_option maxHeartbeats 1000000 in
theorem eachB_any (s : ByteArray) (w : World) (hs : s.size ≤ maxLen) :
    Calls Try.prog 69 #[.string s, .bool false] w fun e w' => e = .returned (.bool (bytesOk s.data.toList)) ∧ w = w' := by
  unfold maxLen at hs
  go_enter Try.func69, Try.ntmps69
  go_wp2
  go_loop [5] (fun i => ∃ k : Nat, k ≤ s.size ∧ i = .int .i64 k ∧ (s.data.toList.take k).all byteOk = true) (fun i => s.size - (intOf i).toNat)
  case atStart => exact ⟨0, Nat.zero_le _, rfl, rfl⟩
  case round =>
    obtain ⟨k, hk, rfl, ha⟩ := hrel
    have HA := Lib.hid ha
    clear ha
    by_cases hlt : k < s.size
    · cases hc : byteOk s[k]
      · have HC := Lib.hid hc
        go_wp2_with fail
        refine (refByte_any _ _).mono ?_
        rintro e w' ⟨rfl, rfl⟩
        rw [HC.out]
        go_wp2
        go_ret
        exact ⟨ret_bool (by rw [bytesOk, Lk.all_no hlt HC.out]), rfl⟩
      · have HC := Lib.hid hc
        go_wp2_with fail
        refine (refByte_any _ _).mono ?_
        rintro e w' ⟨rfl, rfl⟩
        rw [HC.out]
        go_wp2
        go_round
        case rel => exact ⟨k + 1, by omega, by go_num, Lk.all_step hlt HA.out HC.out⟩
        case measure => simp [intOf]; omega
    · go_wp2
      go_ret
      exact ⟨ret_bool (by have := HA.out; rw [Lk.take_all s k (by omega)] at this; rw [bytesOk, this]), rfl⟩

set_option maxHeartbeats 1000000 in
theorem eachL_any (s : ByteArray) (w : World) (hs : s.size ≤ maxLen) :
    Calls Try.prog 69 #[.string s, .bool true] w fun e w' => e = .returned (.bool (langsOk s.data.toList)) ∧ w = w' := by
  unfold maxLen at hs
  go_enter Try.func69, Try.ntmps69
  go_wp2
  go_loop [5] (fun i => ∃ k : Nat, k ≤ s.size ∧ i = .int .i64 k ∧ (s.data.toList.take k).all langOk = true) (fun i => s.size - (intOf i).toNat)
  case atStart => exact ⟨0, Nat.zero_le _, rfl, rfl⟩
  case round =>
    obtain ⟨k, hk, rfl, ha⟩ := hrel
    have HA := Lib.hid ha
    clear ha
    by_cases hlt : k < s.size
    · cases hp : Lk.plB s[k].toNat
      case true =>
        have HC : Hid (langOk s[k] = true) := by show _ = _; rw [langOk, hp]; rfl
        have HP := Lib.hid hp
        clear hp
        go_wp2_with fail
        refine (Plain_any _ _).mono ?_
        rintro e w' ⟨rfl, rfl⟩
        rw [HP.out]
        go_wp2
        go_round
        case rel => exact ⟨k + 1, by omega, by go_num, Lk.all_step hlt HA.out HC.out⟩
        case measure => simp [intOf]; omega
      have HP := Lib.hid hp
      cases hi : Lk.inL s[k].toNat marksL
      · have HC : Hid (langOk s[k] = false) := by show _ = _; rw [langOk, hp, ← inL_contains, hi]; rfl
        have HI := Lib.hid hi
        clear hp hi
        go_wp2_with fail
        refine (Plain_any _ _).mono ?_
        rintro e w' ⟨rfl, rfl⟩
        rw [HP.out]
        go_wp2_with fail
        refine (In_any _ _ _ (by decide)).mono ?_
        rintro e w' ⟨rfl, rfl⟩
        rw [show Lk.inL (s[k].toNat : Int) (⟨#[32, 42, 44, 45, 46, 59, 61]⟩ : ByteArray).data.toList = false from HI.out]
        go_wp2
        go_ret
        exact ⟨ret_bool (by rw [langsOk, Lk.all_no hlt HC.out]), rfl⟩
      · have HC : Hid (langOk s[k] = true) := by show _ = _; rw [langOk, hp, ← inL_contains, hi]; rfl
        have HI := Lib.hid hi
        clear hp hi
        go_wp2_with fail
        refine (Plain_any _ _).mono ?_
        rintro e w' ⟨rfl, rfl⟩
        rw [HP.out]
        go_wp2_with fail
        refine (In_any _ _ _ (by decide)).mono ?_
        rintro e w' ⟨rfl, rfl⟩
        rw [show Lk.inL (s[k].toNat : Int) (⟨#[32, 42, 44, 45, 46, 59, 61]⟩ : ByteArray).data.toList = true from HI.out]
        go_wp2
        go_round
        case rel => exact ⟨k + 1, by omega, by go_num, Lk.all_step hlt HA.out HC.out⟩
        case measure => simp [intOf]; omega
    · go_wp2
      go_ret
      exact ⟨ret_bool (by have := HA.out; rw [Lk.take_all s k (by omega)] at this; rw [langsOk, this]), rfl⟩

/-- where a loop to the first c ends -/
theorem split1_stop {c : UInt8} {l : List UInt8} {k : Nat} (hk : k ≤ l.length) (h1 : ∀ b ∈ l.take k, b ≠ c) (h2 : ∀ h : k < l.length, l[k] = c) : split1 c l = (l.take k, if k < l.length then some (l.drop (k + 1)) else none) := by
  by_cases h : k < l.length
  · rw [if_pos h]
    have e : l = l.take k ++ c :: l.drop (k + 1) := by
      conv => lhs; rw [← List.take_append_drop k l, List.drop_eq_getElem_cons h, h2 h]
    conv => lhs; rw [e]
    exact split1_at c _ _ h1
  · rw [if_neg h]
    rw [List.take_of_length_le (by omega)] at h1 ⊢
    exact split1_none c l h1
theorem stop_step {c : UInt8} {s : ByteArray} {k : Nat} (h : k < s.size) (h1 : ∀ b ∈ s.data.toList.take k, b ≠ c) (h2 : s[k] ≠ c) : ∀ b ∈ s.data.toList.take (k + 1), b ≠ c := by
  rw [Lk.take_snoc s k h]
  intro b hb
  rcases List.mem_append.1 hb with hb | hb
  · exact h1 b hb
  · obtain rfl : b = s[k] := by simpa using hb
    exact h2
end Go.Proofs.Ytinpfkbplflecaa
