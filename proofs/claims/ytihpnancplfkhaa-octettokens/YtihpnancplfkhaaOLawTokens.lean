/-
  The walk of the law OctetTokens: whatever the text, it returns true, and nothing that was there has turned. Conditions: the text's size is such as any text's.
-/
import Derived.Test.YtihpnancplfkhaaOAwake
namespace Go.Proofs.Ytihpnancplfkhaa
open Go.RowKit

set_option maxHeartbeats 1000000 in
theorem walk_OctetTokens (a0 : ByteArray) (w : World) (h0 : a0.size ≤ maxLen) :
    Calls Try.prog 8 #[.string a0] w fun e w' => e = .returned (.bool true) ∧ Below w.heap.size w w' := by
  cases hl : Lk.longL 500 [a0.size]
  · have hsz : a0.size ≤ 500 := by have := Lk.long_no _ _ hl; simp at this; omega
    have HL : Hid (Lk.longL (500 : Int).toNat ([a0].map ByteArray.size) = false) := hl
    obtain ⟨b, hb⟩ : ∃ b, decide (0 < a0.size) = b := ⟨_, rfl⟩
    clear hl
    go_enter Try.func8, Try.ntmps8
    go_wp2_with fail
    refine (Long_any _ _ _ _ [a0] _ _ (by decide) (by decide) rfl (SRow.one _ _ _) (by simp [maxLen]) (by simpa using h0)).mono ?_
    rintro e w' ⟨rfl, rfl⟩
    rw [HL.out]
    go_wp2_with fail
    go_loop [3, 4] (fun al i => ∃ (k : Nat) (cur : Bool), k ≤ a0.size ∧ i = .int .i64 k ∧ al = .bool cur ∧ cur = (b && (a0.data.toList.take k).all (fun c => Lk.tokB c.toNat))) (fun _ i => a0.size - (intOf i).toNat)
    case atStart => exact ⟨0, b, Nat.zero_le _, rfl, rfl, by simp⟩
    case round =>
      obtain ⟨k, cur, hk, rfl, rfl, hcur⟩ := hrel
      have HC := Lib.hid hcur
      have HB := Lib.hid hb
      clear hcur hb
      by_cases hlt : k < a0.size
      · have hx : (a0.extract k (k + 1)).data.toList = [a0[k]] := by
          rw [Lib.extract_data, List.drop_eq_getElem_cons (by simpa using hlt)]; simp; rfl
        have ht : Lk.tokL (a0.extract k (k + 1)).data.toList = Lk.tokB a0[k].toNat := by rw [hx]; simp [Lk.tokL]
        have HT := Lib.hid ht
        have hz : (a0.extract k (k + 1)).size ≤ maxLen := by simp [maxLen]; omega
        clear ht hx
        have HN : Hid ((b && (a0.data.toList.take (k + 1)).all (fun c => Lk.tokB c.toNat)) = (cur && Lk.tokB a0[k].toNat)) := by
          show _ = _
          rw [HC.out, Lk.take_snoc a0 k hlt, List.all_append]; simp [Bool.and_assoc]
        cases cur
        · go_wp2_with fail
          go_round
          case rel => exact ⟨k + 1, false, by omega, by go_num, rfl, by rw [HN.out]; rfl⟩
          case measure => simp [intOf]; omega
        · go_wp2_with fail
          refine (Token_any _ _ hz).mono ?_
          rintro e w' ⟨rfl, rfl⟩
          rw [HT.out]
          go_wp2_with fail
          go_round
          case rel => exact ⟨k + 1, Lk.tokB a0[k].toNat, by omega, by go_num, rfl, by rw [HN.out]; rfl⟩
          case measure => simp [intOf]; omega
      · have hk2 : k = a0.size := by omega
        have HF : Hid (Lk.tokL a0.data.toList = cur) := by
          show _ = _
          rw [HC.out, Lk.take_all a0 k (by omega), Lk.tokL, ← HB.out]
          have : (!a0.data.toList.isEmpty) = decide (0 < a0.size) := by
            have e : a0.data.toList.length = a0.size := by simp
            cases h : a0.data.toList with
            | nil => rw [h] at e; simp at e; simp [← e]
            | cons x r => rw [h] at e; simp at e; simp [← e]
          rw [this]; simp [Bool.and_comm]
        clear hk2
        go_wp2_with fail
        refine (Token_any _ _ h0).mono ?_
        rintro e w' ⟨rfl, rfl⟩
        rw [HF.out]
        go_wp2_with fail
        refine (awake_any _).mono ?_
        rintro e w' ⟨rfl, hb⟩
        go_wp2
        go_ret
        exact ⟨rfl, ((Below.refl _ _).alloc (Nat.le_refl _) _).trans (hb.mono (by simp))⟩
  · have HL : Hid (Lk.longL (500 : Int).toNat ([a0].map ByteArray.size) = true) := hl
    clear hl
    go_enter Try.func8, Try.ntmps8
    go_wp2_with fail
    refine (Long_any _ _ _ _ [a0] _ _ (by decide) (by decide) rfl (SRow.one _ _ _) (by simp [maxLen]) (by simpa using h0)).mono ?_
    rintro e w' ⟨rfl, rfl⟩
    rw [HL.out]
    go_wp2_with fail
    refine (awake_any _).mono ?_
    rintro e w' ⟨rfl, hb⟩
    go_wp2
    go_ret
    exact ⟨rfl, ((Below.refl _ _).alloc (Nat.le_refl _) _).trans (hb.mono (by simp))⟩
end Go.Proofs.Ytihpnancplfkhaa
