/-
  Contracts of octet's functions that only read texts (Token, Fold, Trim), over this seat's program: each returns what the plain mathematics says. Conditions: the texts' sizes are such as any text's.
-/
import Derived.Test.YtihpnancplfkhaaOSmall
import Derived.BigQuiet
import Derived.Deep.QuietTactic
namespace Go.Proofs.Ytihpnancplfkhaa
open Go.RowKit

theorem ret_string {a b : ByteArray} (h : a = b) : Ending.returned (.string a) = .returned (.string b) := by rw [h]

set_option maxHeartbeats 400000 in
theorem Token_any (s : ByteArray) (w : World) (hs : s.size ≤ maxLen) :
    Calls Try.prog 18 #[.string s] w fun e w' => e = .returned (.bool (Lk.tokL s.data.toList)) ∧ w = w' := by
  unfold maxLen at hs
  go_enter Try.func18, Try.ntmps18
  go_wp2
  go_loop [3, 6] (fun _ i => ∃ k : Nat, k ≤ s.size ∧ i = .int .i64 k ∧ (s.data.toList.take k).all (fun b => Lk.tokB b.toNat) = true) (fun _ i => s.size - (intOf i).toNat)
  case atStart => exact ⟨0, Nat.zero_le _, rfl, rfl⟩
  case round =>
    obtain ⟨k, hk, rfl, ha⟩ := hrel
    have HA := Lib.hid ha
    clear ha
    by_cases hlt : k < s.size
    · have hb := Lk.byte_bd s[k]
      cases hc : Lk.tokB s[k].toNat
      · have HC := Lib.hid hc
        go_wp2_with (go_at_call 36; refine (isTokenByte_any _ _ hb.1 hb.2).mono ?_; rintro e w' ⟨rfl, rfl⟩)
        go_ret
        exact ⟨ret_bool (by rw [Lk.tokL, Lk.all_no hlt HC.out]; rfl), rfl⟩
      · have HC := Lib.hid hc
        go_wp2_with (go_at_call 36; refine (isTokenByte_any _ _ hb.1 hb.2).mono ?_; rintro e w' ⟨rfl, rfl⟩)
        go_round
        case rel => exact ⟨k + 1, by omega, by go_num, Lk.all_step hlt HA.out HC.out⟩
        case measure => simp [intOf]; omega
    · go_wp2
      go_ret
      exact ⟨ret_bool (by have := HA.out; rw [Lk.take_all s k (by omega)] at this; rw [Lk.tokL, this, ByteArray.toList_eq]; rfl), rfl⟩

theorem quiet_mine {f : FuncId} {args : Array Value} {w : World} {n : Nat} {v : Value}
    (h : Calls Try.prog f args (w.drewN n) fun e w' => e = .returned v ∧ w.drewN n = w') : Calls Try.prog f args (w.drewN n) fun e w'' => e = .returned v ∧ ∃ m, w'' = w.drewN m :=
  h.mono fun _ _ ⟨he, hm⟩ => ⟨he, n, hm.symm⟩

set_option maxHeartbeats 400000 in
theorem Fold_any (a b : ByteArray) (w : World) (ha : a.size ≤ maxLen) (_hb : b.size ≤ maxLen) :
    Calls Try.prog 16 #[.string a, .string b] w fun e w' => e = .returned (.bool (Lk.foldL a.data.toList b.data.toList)) ∧ ∃ n, w' = w.drewN n := by
  unfold maxLen at ha
  by_cases hl : a.size = b.size
  · have H : ((a.size : Int) != (b.size : Int)) = false := by simp [hl]
    have HL := Lib.hid hl
    clear hl
    go_enter Try.func16, Try.ntmps16
    go_wp2
    go_loopw [5, 13] (fun _ i wr => ∃ k m : Nat, k ≤ a.size ∧ i = .int .i64 k ∧ wr = w.drewN m ∧ Lk.lower (a.data.toList.take k) = Lk.lower (b.data.toList.take k)) (fun _ i _ => a.size - (intOf i).toNat)
    case atStart => exact ⟨0, 0, Nat.zero_le _, rfl, rfl, rfl⟩
    case round =>
      obtain ⟨k, m, hk, rfl, hw, hr⟩ := hrel
      have HR := Lib.hid hr
      have HW := Lib.hid hw
      clear hr hw
      by_cases hlt : k < a.size
      · have hlt2 : k < b.size := by have := HL.out; omega
        have ba := Lk.byte_bd a[k]
        have bb := Lk.byte_bd b[k]
        by_cases hc : Lk.lowI a[k].toNat = Lk.lowI b[k].toNat
        · have HC := Lib.hid hc
          have hne : (Lk.lowI a[k].toNat != Lk.lowI b[k].toNat) = false := by simp [hc]
          clear hc
          go_wp2_with fail
          go_quiet ((go_at_call 35; exact quiet_mine (lowerByte_any _ _ (by omega) (by omega))))
          go_wp2
          go_roundw
          case rel => exact ⟨k + 1, _, by omega, by go_num, by rw [HW.out, World.drewN_drewN], Lk.fold_step hlt hlt2 HR.out HC.out⟩
          case measure => simp [intOf]; omega
        · have HC := Lib.hid hc
          have hne : (Lk.lowI a[k].toNat != Lk.lowI b[k].toNat) = true := by simp [hc]
          clear hc
          go_wp2_with fail
          go_quiet ((go_at_call 35; exact quiet_mine (lowerByte_any _ _ (by omega) (by omega))))
          go_wp2
          go_ret
          exact ⟨ret_bool (by rw [Lk.fold_no hlt hlt2 HC.out]), _, by rw [HW.out, World.drewN_drewN]⟩
      · go_wp2
        go_ret
        exact ⟨ret_bool (by have h := HR.out; have := HL.out; rw [Lk.take_all a k (by omega), Lk.take_all b k (by omega)] at h; rw [Lk.foldL, h]; simp), m, HW.out⟩
  · have H : ((a.size : Int) != (b.size : Int)) = true := by simp; omega
    go_enter Try.func16, Try.ntmps16
    go_wp2
    go_ret
    exact ⟨ret_bool (by rw [Lk.foldL]; symm; simp; intro h; exact hl (by have := congrArg List.length h; simpa [Lk.lower] using this)), 0, rfl⟩
end Go.Proofs.Ytihpnancplfkhaa
