/-
  Contracts of the document's own answer of layer 1 (the package of the statements that says what chapter 1 says), over this seat's program: Token, Trim, Digits, each by the same plain mathematics as octet's. Conditions: the text's size is such as any text's.
-/
import Derived.Test.YtfamllkmmiajoaaDoorOJoin
namespace Go.Proofs.YtfamllkmmiajoaaDoor
open Go.RowKit

theorem spB_yes {c : Int} (h : Lk.spB c = true) : (c == 9) = true ∨ ((c == 9) = false ∧ (c == 10) = true) ∨ ((c == 9) = false ∧ (c == 10) = false ∧ (c == 13) = true) ∨ ((c == 9) = false ∧ (c == 10) = false ∧ (c == 13) = false ∧ (c == 32) = true) := by
  unfold Lk.spB at h
  cases h1 : (c == 9) <;> cases h2 : (c == 10) <;> cases h3 : (c == 13) <;> cases h4 : (c == 32) <;> simp_all
theorem spB_no {c : Int} (h : Lk.spB c = false) : (c == 9) = false ∧ (c == 10) = false ∧ (c == 13) = false ∧ (c == 32) = false := by
  unfold Lk.spB at h
  cases h1 : (c == 9) <;> cases h2 : (c == 10) <;> cases h3 : (c == 13) <;> cases h4 : (c == 32) <;> simp_all

theorem tok_ref (c : UInt8) : Lk.tokB c.toNat = (Lk.plB c.toNat || (Lk.inL c.toNat [33, 35, 36, 37, 38, 39, 42, 43, 45, 46, 94, 95, 124, 126] || (c.toNat : Int) == 96)) := by
  have : ∀ n : Fin 256, Lk.tokB (UInt8.ofNat n.val).toNat = (Lk.plB (UInt8.ofNat n.val).toNat || (Lk.inL (UInt8.ofNat n.val).toNat [33, 35, 36, 37, 38, 39, 42, 43, 45, 46, 94, 95, 124, 126] || ((UInt8.ofNat n.val).toNat : Int) == 96)) := by decide +kernel
  have h := this ⟨c.toNat, c.toNat_lt⟩
  simpa using h

set_option maxHeartbeats 1000000 in
theorem refDigits_any (s : ByteArray) (w : World) (hs : s.size ≤ maxLen) :
    Calls Tryd.prog 72 #[.string s] w fun e w' => e = .returned (digRes s.data.toList) ∧ w = w' := by
  unfold maxLen at hs
  go_enter Tryd.func72, Tryd.ntmps72
  go_wp2
  go_loop [4, 5, 6] (fun n i _ => ∃ k : Nat, k ≤ s.size ∧ i = .int .i64 k ∧ (s.data.toList.take k).all (fun b => Lk.digB b.toNat) = true ∧ n = .int .u64 (Lk.sat (Lk.valL (s.data.toList.take k)) : Int)) (fun _ i _ => s.size - (intOf i).toNat)
  case atStart => exact ⟨0, Nat.zero_le _, rfl, rfl, rfl⟩
  case round =>
    obtain ⟨k, hk, rfl, ha, rfl⟩ := hrel
    have HA := Lib.hid ha
    clear ha
    by_cases hlt : k < s.size
    · have hb := Lk.byte_bd s[k]
      by_cases h48 : 48 ≤ (s[k].toNat : Int)
      · by_cases h57 : (s[k].toNat : Int) ≤ 57
        · have HC : Hid (Lk.digB s[k].toNat = true) := by show _ = _; simp [Lk.digB]; omega
          have hsat := Lk.sat_le (Lk.valL (s.data.toList.take k))
          have hst := Lk.sat_step (Lk.valL (s.data.toList.take k)) (s[k].toNat - 48) (by omega)
          rw [← Lk.val_snoc, ← Lk.take_snoc s k hlt] at hst
          have HS := Lib.hid hst
          clear hst
          generalize Lk.sat (Lk.valL (s.data.toList.take k)) = n at *
          unfold Lk.M64 at hsat
          by_cases hgt : (18446744073709551615 - ((s[k].toNat : Int) - 48)) / 10 < (n : Int)
          · go_wp2
            go_round
            case rel =>
              refine ⟨k + 1, by omega, by go_num, Lk.all_step hlt HA.out HC.out, ?_⟩
              rw [← HS.out, Lk.apd, if_pos (by unfold Lk.M64; omega)]; rfl
            case measure => simp [intOf]; omega
          · go_wp2
            go_round
            case rel =>
              refine ⟨k + 1, by omega, by go_num, Lk.all_step hlt HA.out HC.out, ?_⟩
              rw [← HS.out, Lk.apd, if_neg (by unfold Lk.M64; omega)]
              go_num
            case measure => simp [intOf]; omega
        · have HC : Hid (Lk.digB s[k].toNat = false) := by show _ = _; simp [Lk.digB]; omega
          go_wp2
          go_ret2
          exact ⟨by rw [digRes_f (by rw [Lk.digL, Lk.all_no hlt HC.out]; rfl)]; rfl, rfl⟩
      · have HC : Hid (Lk.digB s[k].toNat = false) := by show _ = _; simp [Lk.digB]; omega
        go_wp2
        go_ret2
        exact ⟨by rw [digRes_f (by rw [Lk.digL, Lk.all_no hlt HC.out]; rfl)]; rfl, rfl⟩
    · have ht := Lib.hid (Lk.take_all s k (by omega))
      by_cases h0 : 0 < s.size
      · have g1 : decide (0 < s.size) = true := decide_eq_true h0
        go_wp2
        go_ret2
        have ha := HA.out
        rw [ht.out] at ha
        exact ⟨by rw [digRes_t (by rw [Lk.digL, ha, Lk.notEmpty_size]; simpa using h0), ht.out]; rfl, rfl⟩
      · have g1 : decide (0 < s.size) = false := decide_eq_false h0
        have HN : Hid (s.data.toList = []) := Lk.nil_of_size h0
        go_wp2
        go_ret2
        exact ⟨by rw [digRes_f (by rw [HN.out]; rfl), HN.out]; simp [Lk.valL, Lk.sat], rfl⟩
end Go.Proofs.YtfamllkmmiajoaaDoor
