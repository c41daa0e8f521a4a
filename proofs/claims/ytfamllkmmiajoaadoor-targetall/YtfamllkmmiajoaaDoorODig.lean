/-
  Contracts of octet's appendDigit and Digits, over this seat's program: each returns what the plain mathematics says, and the world is as it was. Conditions: the numbers fit uint64; the text's size is such as any text's.
-/
import Derived.Test.YtfamllkmmiajoaaDoorOTrim
namespace Go.Proofs.YtfamllkmmiajoaaDoor
open Go.RowKit

set_option maxHeartbeats 400000 in
theorem appendDigit_any (n : Nat) (d : Int) (w : World) (_hn : n ≤ Lk.M64) (hd0 : 0 ≤ d) (hd : d ≤ 9) :
    Calls Tryd.prog 78 #[.int .u64 (n : Int), .int .u64 d] w fun e w' => e = .returned (.int .u64 (Lk.apd n d.toNat : Int)) ∧ w = w' := by
  obtain ⟨d, rfl⟩ := Int.eq_ofNat_of_zero_le hd0
  rw [Int.toNat_natCast]
  go_enter Tryd.func78, Tryd.ntmps78
  go_wp2
  · go_ret
    exact ⟨ret_int (by rw [Lk.apd, if_pos (by unfold Lk.M64; omega)]; rfl), rfl⟩
  · go_ret
    exact ⟨ret_int (by rw [Lk.apd, if_neg (by unfold Lk.M64; omega)]; omega), rfl⟩

def digRes (l : List UInt8) : Value := .tuple #[.int .u64 (if Lk.digL l then (Lk.sat (Lk.valL l) : Int) else 0), .bool (Lk.digL l)]
theorem digRes_t {l : List UInt8} (h : Lk.digL l = true) : digRes l = .tuple #[.int .u64 (Lk.sat (Lk.valL l) : Int), .bool true] := by
  unfold digRes; rw [h]; rfl
theorem digRes_f {l : List UInt8} (h : Lk.digL l = false) : digRes l = .tuple #[.int .u64 0, .bool false] := by
  unfold digRes; rw [h]; rfl

set_option maxHeartbeats 400000 in
theorem Digits_any (s : ByteArray) (w : World) (hs : s.size ≤ maxLen) :
    Calls Tryd.prog 65 #[.string s] w fun e w' => e = .returned (digRes s.data.toList) ∧ w = w' := by
  unfold maxLen at hs
  by_cases h0 : s.size = 0
  · have he : s.toList = [] := by rw [ByteArray.toList_eq]; exact List.length_eq_zero_iff.1 (by simpa using h0)
    have HE := Lib.hid h0
    clear h0
    go_enter Tryd.func65, Tryd.ntmps65
    go_wp2
    go_ret2
    exact ⟨by rw [digRes_f (by have h : s.data.toList = [] := List.length_eq_zero_iff.1 (by simpa using HE.out); rw [h]; rfl)]; rfl, rfl⟩
  · have he : s.toList.isEmpty = false := by rw [ByteArray.toList_eq]; cases h : s.data.toList.isEmpty; rfl; (exact absurd (by have := congrArg List.length (List.isEmpty_iff.1 h); simpa using this) h0)
    have HE := Lib.hid h0
    clear h0
    go_enter Tryd.func65, Tryd.ntmps65
    go_wp2
    go_loop [4, 5, 10] (fun n _ i => ∃ k : Nat, k ≤ s.size ∧ i = .int .i64 k ∧ (s.data.toList.take k).all (fun b => Lk.digB b.toNat) = true ∧ n = .int .u64 (Lk.sat (Lk.valL (s.data.toList.take k)) : Int)) (fun _ _ i => s.size - (intOf i).toNat)
    case atStart => exact ⟨0, Nat.zero_le _, rfl, rfl, rfl⟩
    case round =>
      obtain ⟨k, hk, rfl, ha, rfl⟩ := hrel
      have HA := Lib.hid ha
      clear ha
      by_cases hlt : k < s.size
      · have hb := Lk.byte_bd s[k]
        cases hc : Lk.digB s[k].toNat
        · have HC := Lib.hid hc
          go_wp2_with (first
            | (go_at_call 77; refine (isDigit_any _ _).mono ?_; rintro e w' ⟨rfl, rfl⟩))
          go_ret2
          exact ⟨by rw [digRes_f (by rw [Lk.digL, Lk.all_no hlt HC.out]; rfl)]; rfl, rfl⟩
        · have HC := Lib.hid hc
          have hd : 48 ≤ (s[k].toNat : Int) ∧ (s[k].toNat : Int) ≤ 57 := by simpa [Lk.digB] using hc
          have hsat := Lk.sat_le (Lk.valL (s.data.toList.take k))
          go_wp2_with (first
            | (go_at_call 77; refine (isDigit_any _ _).mono ?_; rintro e w' ⟨rfl, rfl⟩))
          refine (appendDigit_any _ _ _ hsat (by omega) (by omega)).mono ?_
          rintro e w' ⟨rfl, rfl⟩
          go_wp2
          go_round
          case rel =>
            refine ⟨k + 1, by omega, by go_num, Lk.all_step hlt HA.out HC.out, ?_⟩
            rw [Lk.take_snoc s k hlt, Lk.val_snoc, ← Lk.sat_step _ _ (by omega), show ((s[k].toNat : Int) - 48).toNat = s[k].toNat - 48 by omega]
          case measure => simp [intOf]; omega
      · go_wp2
        go_ret2
        have ht := Lk.take_all s k (by omega)
        have ha := HA.out
        rw [ht] at ha
        exact ⟨by rw [digRes_t (by rw [Lk.digL, ha]; rw [ByteArray.toList_eq] at he; simp [he]), ht]; rfl, rfl⟩
end Go.Proofs.YtfamllkmmiajoaaDoor
