/-
  Contracts of octet's Trim and Digits, over this seat's program: each returns what the plain mathematics says, and the world is as it was. Conditions: the text's size is such as any text's.
-/
import Derived.Test.YtihpnancplfkhaaOText
import Derived.Lib.Strings
namespace Go.Proofs.Ytihpnancplfkhaa
open Go.RowKit

theorem trim_fin {s : ByteArray} {k m : Nat} (hkm : k ≤ m) (hm : m ≤ s.size) (ha : (s.data.toList.take k).all Lk.sp = true) (hd : (s.data.toList.drop m).all Lk.sp = true)
    (hf : s.size ≤ k ∨ ∃ h : k < s.size, Lk.sp s[k] = false) (he : k = m ∨ k < m ∧ ∃ h : m - 1 < s.size, Lk.sp s[m - 1] = false) :
    s.extract k m = ⟨(Lk.trimL s.data.toList).toArray⟩ := by
  rw [Lib.extract_eq, Lk.trim_walk s.data.toList k m hkm (by simpa using hm) ha hd]
  rcases he with rfl | ⟨h1, h2, h3⟩
  · exact .inl rfl
  · rcases hf with h | ⟨h4, h5⟩
    · exact .inl (by omega)
    · exact .inr ⟨⟨by simpa using h4, h5⟩, by omega, by simpa using h2, h3⟩

set_option maxHeartbeats 400000 in
theorem Trim_any (s : ByteArray) (w : World) (hs : s.size ≤ maxLen) :
    Calls Try.prog 20 #[.string s] w fun e w' => e = .returned (.string ⟨(Lk.trimL s.data.toList).toArray⟩) ∧ w = w' := by
  unfold maxLen at hs
  go_enter Try.func20, Try.ntmps20
  go_wp2
  go_loop [3] (fun i => ∃ k : Nat, k ≤ s.size ∧ i = .int .i64 k ∧ (s.data.toList.take k).all Lk.sp = true) (fun i => s.size - (intOf i).toNat)
  case atStart => exact ⟨0, Nat.zero_le _, rfl, rfl⟩
  case round =>
    obtain ⟨k, hk, rfl, ha⟩ := hrel
    have HA := Lib.hid ha
    clear ha
    by_cases hc : ∃ h : k < s.size, Lk.sp s[k] = true
    · obtain ⟨hlt, hc⟩ := hc
      have hcb : Lk.spB s[k].toNat = true := hc
      have HC := Lib.hid hc
      clear hc
      go_wp2_with (go_at_call 38; refine (isSpace_any _ _).mono ?_; rintro e w' ⟨rfl, rfl⟩)
      go_round
      case rel => exact ⟨k + 1, by omega, by go_num, Lk.all_step hlt HA.out HC.out⟩
      case measure => simp [intOf]; omega
    · have HF : Hid (s.size ≤ k ∨ ∃ h : k < s.size, Lk.sp s[k] = false) := by
        by_cases h : k < s.size
        · exact .inr ⟨h, by cases e : Lk.sp s[k]; rfl; exact absurd ⟨h, e⟩ hc⟩
        · exact .inl (by omega)
      clear hc
      by_cases hlt : k < s.size
      have hcb : Lk.spB s[k].toNat = false := by rcases HF.out with h | ⟨_, h⟩; omega; exact h
      all_goals
        go_wp2_with (go_at_call 38; refine (isSpace_any _ _).mono ?_; rintro e w' ⟨rfl, rfl⟩)
        try clear hcb
        go_loop [4] (fun i => ∃ m : Nat, k ≤ m ∧ m ≤ s.size ∧ i = .int .i64 m ∧ (s.data.toList.drop m).all Lk.sp = true) (fun i => (intOf i).toNat)
        case atStart => exact ⟨s.size, hk, Nat.le_refl _, rfl, by rw [List.drop_of_length_le (by simp)]; rfl⟩
        case round =>
          obtain ⟨m, hkm, hm, rfl, hd⟩ := hrel
          have HD := Lib.hid hd
          clear hd
          by_cases hlt2 : k < m
          rotate_left
          · go_wp2_with (go_at_call 38; refine (isSpace_any _ _).mono ?_; rintro e w' ⟨rfl, rfl⟩)
            go_ret
            exact ⟨ret_string (trim_fin hkm hm HA.out HD.out HF.out (.inl (by omega))), rfl⟩
          all_goals (try (exfalso; omega))
          all_goals
            have h1 : m - 1 < s.size := by omega
            have eb : ((m : Int) - 1).toNat = m - 1 := by omega
            cases hc2 : Lk.sp s[m - 1]
            · have hcb2 : Lk.spB s[m - 1].toNat = false := hc2
              have HC2 := Lib.hid hc2
              clear hc2
              go_wp2_with (go_at_call 38; refine (isSpace_any _ _).mono ?_; rintro e w' ⟨rfl, rfl⟩)
              go_ret
              exact ⟨ret_string (trim_fin hkm hm HA.out HD.out HF.out (.inr ⟨hlt2, h1, HC2.out⟩)), rfl⟩
            · have hcb2 : Lk.spB s[m - 1].toNat = true := hc2
              have HC2 := Lib.hid hc2
              clear hc2
              go_wp2_with (go_at_call 38; refine (isSpace_any _ _).mono ?_; rintro e w' ⟨rfl, rfl⟩)
              go_round
              case rel => exact ⟨m - 1, by omega, by omega, by go_num, Lk.drop_step h1 HC2.out (by rw [show m - 1 + 1 = m by omega]; exact HD.out)⟩
              case measure => simp [intOf]; omega
end Go.Proofs.Ytihpnancplfkhaa
