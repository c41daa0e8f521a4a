/-
  Contracts of octet over this seat's program, those that lean on nothing of the library. Conditions: those of each statement.
-/
import Derived.Test.YtlkneapidmdpbaaGreatDoorLBase
import Derived.BigQuiet
import Derived.Deep.QuietTactic
import Derived.Lib.Strings
namespace Go.Proofs.YtlkneapidmdpbaaGreatDoor
open Go.RowKit

set_option maxHeartbeats 400000 in
theorem lowerByte_any (c : Int) (w : World) (h0 : 0 ≤ c) (h1 : c ≤ 255) :
    Calls Tryz.prog 104 #[.int .u8 c] w fun e w' => e = .returned (.int .u8 (Lk.lowI c)) ∧ w = w' := by
  by_cases a : 65 ≤ c
  · by_cases b : c ≤ 90
    · go_enter Tryz.func104, Tryz.ntmps104
      go_wp2
      go_ret
      exact ⟨ret_int (by rw [Lk.lowI_up a b]), rfl⟩
    · go_enter Tryz.func104, Tryz.ntmps104
      go_wp2
      go_ret
      exact ⟨ret_int (by rw [Lk.lowI_not (by omega)]), rfl⟩
  · go_enter Tryz.func104, Tryz.ntmps104
    go_wp2
    go_ret
    exact ⟨ret_int (by rw [Lk.lowI_not (by omega)]), rfl⟩

set_option maxHeartbeats 400000 in
theorem isSpace_any (c : Int) (w : World) :
    Calls Tryz.prog 105 #[.int .u8 c] w fun e w' => e = .returned (.bool (Lk.spB c)) ∧ w = w' := by
  go_enter Tryz.func105, Tryz.ntmps105
  go_wp2
  all_goals
    go_ret
    exact ⟨ret_bool (by simp_all [Lk.spB]), rfl⟩

set_option maxHeartbeats 400000 in
theorem isDigit_any (c : Int) (w : World) :
    Calls Tryz.prog 167 #[.int .u8 c] w fun e w' => e = .returned (.bool (Lk.digB c)) ∧ w = w' := by
  go_enter Tryz.func167, Tryz.ntmps167
  go_wp2
  all_goals
    go_ret
    exact ⟨ret_bool (by simp [Lk.digB, *] <;> omega), rfl⟩

set_option maxHeartbeats 400000 in
theorem isLetter_any (c : Int) (w : World) (h0 : 0 ≤ c) (h1 : c ≤ 255) :
    Calls Tryz.prog 199 #[.int .u8 c] w fun e w' => e = .returned (.bool (Lk.letB c)) ∧ w = w' := by
  go_enter Tryz.func199, Tryz.ntmps199
  go_wp2_with (go_at_call 104; refine (lowerByte_any _ _ h0 h1).mono ?_; rintro e w' ⟨rfl, rfl⟩)
  all_goals
    go_ret
    exact ⟨ret_bool (by simp [Lk.letB, Lk.smB, *] <;> omega), rfl⟩

set_option maxHeartbeats 1000000 in
theorem isTokenByte_any (c : Int) (w : World) (h0 : 0 ≤ c) (h1 : c ≤ 255) :
    Calls Tryz.prog 166 #[.int .u8 c] w fun e w' => e = .returned (.bool (Lk.tokB c)) ∧ w = w' := by
  go_enter Tryz.func166, Tryz.ntmps166
  go_wp2_with (first
    | (go_at_call 199; refine (isLetter_any _ _ h0 h1).mono ?_; rintro e w' ⟨rfl, rfl⟩)
    | (go_at_call 167; refine (isDigit_any _ _).mono ?_; rintro e w' ⟨rfl, rfl⟩))
  all_goals
    go_ret
    refine ⟨ret_bool ?_, rfl⟩
    first
      | (rw [Lk.tokB_sg]; simp [Lk.sgB, *]; done)
      | (rw [Lk.tokB_or]; all_goals (simp [Lk.sgB, *]; done))

set_option maxHeartbeats 1000000 in
theorem Plain_any (c : Int) (w : World) :
    Calls Tryz.prog 140 #[.int .u8 c] w fun e w' => e = .returned (.bool (Lk.plB c)) ∧ w = w' := by
  go_enter Tryz.func140, Tryz.ntmps140
  go_wp2
  all_goals
    go_ret
    exact ⟨ret_bool (by rw [Bool.eq_iff_iff]; simp [Lk.plB, Lk.smB, Lk.upB, Lk.digB]; omega), rfl⟩
end Go.Proofs.YtlkneapidmdpbaaGreatDoor

namespace Go.Proofs.YtlkneapidmdpbaaGreatDoor
open Go.RowKit

theorem ret_string {a b : ByteArray} (h : a = b) : Ending.returned (.string a) = .returned (.string b) := by rw [h]

set_option maxHeartbeats 400000 in
theorem Token_any (s : ByteArray) (w : World) (hs : s.size ≤ maxLen) :
    Calls Tryz.prog 123 #[.string s] w fun e w' => e = .returned (.bool (Lk.tokL s.data.toList)) ∧ w = w' := by
  unfold maxLen at hs
  go_enter Tryz.func123, Tryz.ntmps123
  go_wp2
  go_loop [3, 6] (fun _ i => ∃ k : Nat, k ≤ s.size ∧ i = .int .i64 k ∧ (s.data.toList.take k).all (fun b => Lk.tokB b.toNat) = true) (fun _ i => s.size - (intOf i).toNat)
  case atStart => exact ⟨0, Nat.zero_le _, rfl, rfl⟩
  case round =>
    obtain ⟨k, hk, rfl, ha⟩ := hrel
    have HA := Lib.hid ha
    clear ha
    by_cases hlt : k < s.size
    · have hb := Lk.byte_bd s[k]
      cases hc : Lk.tokB s[k].toNat
      · have HC := Lib.hid hc
        go_wp2_with (go_at_call 166; refine (isTokenByte_any _ _ hb.1 hb.2).mono ?_; rintro e w' ⟨rfl, rfl⟩)
        go_ret
        exact ⟨ret_bool (by rw [Lk.tokL, Lk.all_no hlt HC.out]; rfl), rfl⟩
      · have HC := Lib.hid hc
        go_wp2_with (go_at_call 166; refine (isTokenByte_any _ _ hb.1 hb.2).mono ?_; rintro e w' ⟨rfl, rfl⟩)
        go_round
        case rel => exact ⟨k + 1, by omega, by go_num, Lk.all_step hlt HA.out HC.out⟩
        case measure => simp [intOf]; omega
    · go_wp2
      go_ret
      exact ⟨ret_bool (by have := HA.out; rw [Lk.take_all s k (by omega)] at this; rw [Lk.tokL, this, ByteArray.toList_eq]; rfl), rfl⟩

theorem quiet_mine {f : FuncId} {args : Array Value} {w : World} {n : Nat} {v : Value}
    (h : Calls Tryz.prog f args (w.drewN n) fun e w' => e = .returned v ∧ w.drewN n = w') : Calls Tryz.prog f args (w.drewN n) fun e w'' => e = .returned v ∧ ∃ m, w'' = w.drewN m :=
  h.mono fun _ _ ⟨he, hm⟩ => ⟨he, n, hm.symm⟩

set_option maxHeartbeats 400000 in
theorem Fold_any (a b : ByteArray) (w : World) (ha : a.size ≤ maxLen) (_hb : b.size ≤ maxLen) :
    Calls Tryz.prog 57 #[.string a, .string b] w fun e w' => e = .returned (.bool (Lk.foldL a.data.toList b.data.toList)) ∧ ∃ n, w' = w.drewN n := by
  unfold maxLen at ha
  by_cases hl : a.size = b.size
  · have H : ((a.size : Int) != (b.size : Int)) = false := by simp [hl]
    have HL := Lib.hid hl
    clear hl
    go_enter Tryz.func57, Tryz.ntmps57
    go_wp2
    go_loopw [5, 13] (fun _ i wr => ∃ k m : Nat, k ≤ a.size ∧ i = .int .i64 k ∧ wr = w.drewN m ∧ Lk.lower (a.data.toList.take k) = Lk.lower (b.data.toList.take k)) (fun _ i _ => a.size - (intOf i).toNat)
    case atStart => exact ⟨0, 0, Nat.zero_le _, rfl, rfl, rfl⟩
    case round =>
      obtain ⟨k, m, hk, rfl, hw, hr⟩ := hrel
      have HR := Lib.hid hr
      have HW := Lib.hid hw
      clear hr hw
      by_cases hlt : k < a.size
      · have hlt2 : k < b.size := by have := HL.out; omega
        have ba := Lk.byte_bd a[k]
        have bb := Lk.byte_bd b[k]
        by_cases hc : Lk.lowI a[k].toNat = Lk.lowI b[k].toNat
        · have HC := Lib.hid hc
          have hne : (Lk.lowI a[k].toNat != Lk.lowI b[k].toNat) = false := by simp [hc]
          clear hc
          go_wp2_with fail
          go_quiet ((go_at_call 104; exact quiet_mine (lowerByte_any _ _ (by omega) (by omega))))
          go_wp2
          go_roundw
          case rel => exact ⟨k + 1, _, by omega, by go_num, by rw [HW.out, World.drewN_drewN], Lk.fold_step hlt hlt2 HR.out HC.out⟩
          case measure => simp [intOf]; omega
        · have HC := Lib.hid hc
          have hne : (Lk.lowI a[k].toNat != Lk.lowI b[k].toNat) = true := by simp [hc]
          clear hc
          go_wp2_with fail
          go_quiet ((go_at_call 104; exact quiet_mine (lowerByte_any _ _ (by omega) (by omega))))
          go_wp2
          go_ret
          exact ⟨ret_bool (by rw [Lk.fold_no hlt hlt2 HC.out]), _, by rw [HW.out, World.drewN_drewN]⟩
      · go_wp2
        go_ret
        exact ⟨ret_bool (by have h := HR.out; have := HL.out; rw [Lk.take_all a k (by omega), Lk.take_all b k (by omega)] at h; rw [Lk.foldL, h]; simp), m, HW.out⟩
  · have H : ((a.size : Int) != (b.size : Int)) = true := by simp; omega
    go_enter Tryz.func57, Tryz.ntmps57
    go_wp2
    go_ret
    exact ⟨ret_bool (by rw [Lk.foldL]; symm; simp; intro h; exact hl (by have := congrArg List.length h; simpa [Lk.lower] using this)), 0, rfl⟩
end Go.Proofs.YtlkneapidmdpbaaGreatDoor

namespace Go.Proofs.YtlkneapidmdpbaaGreatDoor
open Go.RowKit

theorem trim_fin {s : ByteArray} {k m : Nat} (hkm : k ≤ m) (hm : m ≤ s.size) (ha : (s.data.toList.take k).all Lk.sp = true) (hd : (s.data.toList.drop m).all Lk.sp = true)
    (hf : s.size ≤ k ∨ ∃ h : k < s.size, Lk.sp s[k] = false) (he : k = m ∨ k < m ∧ ∃ h : m - 1 < s.size, Lk.sp s[m - 1] = false) :
    s.extract k m = ⟨(Lk.trimL s.data.toList).toArray⟩ := by
  rw [Lib.extract_eq, Lk.trim_walk s.data.toList k m hkm (by simpa using hm) ha hd]
  rcases he with rfl | ⟨h1, h2, h3⟩
  · exact .inl rfl
  · rcases hf with h | ⟨h4, h5⟩
    · exact .inl (by omega)
    · exact .inr ⟨⟨by simpa using h4, h5⟩, by omega, by simpa using h2, h3⟩

set_option maxHeartbeats 400000 in
theorem Trim_any (s : ByteArray) (w : World) (hs : s.size ≤ maxLen) :
    Calls Tryz.prog 58 #[.string s] w fun e w' => e = .returned (.string ⟨(Lk.trimL s.data.toList).toArray⟩) ∧ w = w' := by
  unfold maxLen at hs
  go_enter Tryz.func58, Tryz.ntmps58
  go_wp2
  go_loop [3] (fun i => ∃ k : Nat, k ≤ s.size ∧ i = .int .i64 k ∧ (s.data.toList.take k).all Lk.sp = true) (fun i => s.size - (intOf i).toNat)
  case atStart => exact ⟨0, Nat.zero_le _, rfl, rfl⟩
  case round =>
    obtain ⟨k, hk, rfl, ha⟩ := hrel
    have HA := Lib.hid ha
    clear ha
    by_cases hc : ∃ h : k < s.size, Lk.sp s[k] = true
    · obtain ⟨hlt, hc⟩ := hc
      have hcb : Lk.spB s[k].toNat = true := hc
      have HC := Lib.hid hc
      clear hc
      go_wp2_with (go_at_call 105; refine (isSpace_any _ _).mono ?_; rintro e w' ⟨rfl, rfl⟩)
      go_round
      case rel => exact ⟨k + 1, by omega, by go_num, Lk.all_step hlt HA.out HC.out⟩
      case measure => simp [intOf]; omega
    · have HF : Hid (s.size ≤ k ∨ ∃ h : k < s.size, Lk.sp s[k] = false) := by
        by_cases h : k < s.size
        · exact .inr ⟨h, by cases e : Lk.sp s[k]; rfl; exact absurd ⟨h, e⟩ hc⟩
        · exact .inl (by omega)
      clear hc
      by_cases hlt : k < s.size
      have hcb : Lk.spB s[k].toNat = false := by rcases HF.out with h | ⟨_, h⟩; omega; exact h
      all_goals
        go_wp2_with (go_at_call 105; refine (isSpace_any _ _).mono ?_; rintro e w' ⟨rfl, rfl⟩)
        try clear hcb
        go_loop [4] (fun i => ∃ m : Nat, k ≤ m ∧ m ≤ s.size ∧ i = .int .i64 m ∧ (s.data.toList.drop m).all Lk.sp = true) (fun i => (intOf i).toNat)
        case atStart => exact ⟨s.size, hk, Nat.le_refl _, rfl, by rw [List.drop_of_length_le (by simp)]; rfl⟩
        case round =>
          obtain ⟨m, hkm, hm, rfl, hd⟩ := hrel
          have HD := Lib.hid hd
          clear hd
          by_cases hlt2 : k < m
          rotate_left
          · go_wp2_with (go_at_call 105; refine (isSpace_any _ _).mono ?_; rintro e w' ⟨rfl, rfl⟩)
            go_ret
            exact ⟨ret_string (trim_fin hkm hm HA.out HD.out HF.out (.inl (by omega))), rfl⟩
          all_goals (try (exfalso; omega))
          all_goals
            have h1 : m - 1 < s.size := by omega
            have eb : ((m : Int) - 1).toNat = m - 1 := by omega
            cases hc2 : Lk.sp s[m - 1]
            · have hcb2 : Lk.spB s[m - 1].toNat = false := hc2
              have HC2 := Lib.hid hc2
              clear hc2
              go_wp2_with (go_at_call 105; refine (isSpace_any _ _).mono ?_; rintro e w' ⟨rfl, rfl⟩)
              go_ret
              exact ⟨ret_string (trim_fin hkm hm HA.out HD.out HF.out (.inr ⟨hlt2, h1, HC2.out⟩)), rfl⟩
            · have hcb2 : Lk.spB s[m - 1].toNat = true := hc2
              have HC2 := Lib.hid hc2
              clear hc2
              go_wp2_with (go_at_call 105; refine (isSpace_any _ _).mono ?_; rintro e w' ⟨rfl, rfl⟩)
              go_round
              case rel => exact ⟨m - 1, by omega, by omega, by go_num, Lk.drop_step h1 HC2.out (by rw [show m - 1 + 1 = m by omega]; exact HD.out)⟩
              case measure => simp [intOf]; omega
end Go.Proofs.YtlkneapidmdpbaaGreatDoor

namespace Go.Proofs.YtlkneapidmdpbaaGreatDoor
open Go.RowKit

set_option maxHeartbeats 400000 in
theorem appendDigit_any (n : Nat) (d : Int) (w : World) (_hn : n ≤ Lk.M64) (hd0 : 0 ≤ d) (hd : d ≤ 9) :
    Calls Tryz.prog 168 #[.int .u64 (n : Int), .int .u64 d] w fun e w' => e = .returned (.int .u64 (Lk.apd n d.toNat : Int)) ∧ w = w' := by
  obtain ⟨d, rfl⟩ := Int.eq_ofNat_of_zero_le hd0
  rw [Int.toNat_natCast]
  go_enter Tryz.func168, Tryz.ntmps168
  go_wp2
  · go_ret
    exact ⟨ret_int (by rw [Lk.apd, if_pos (by unfold Lk.M64; omega)]; rfl), rfl⟩
  · go_ret
    exact ⟨ret_int (by rw [Lk.apd, if_neg (by unfold Lk.M64; omega)]; omega), rfl⟩

def digRes (l : List UInt8) : Value := .tuple #[.int .u64 (if Lk.digL l then (Lk.sat (Lk.valL l) : Int) else 0), .bool (Lk.digL l)]
theorem digRes_t {l : List UInt8} (h : Lk.digL l = true) : digRes l = .tuple #[.int .u64 (Lk.sat (Lk.valL l) : Int), .bool true] := by
  unfold digRes; rw [h]; rfl
theorem digRes_f {l : List UInt8} (h : Lk.digL l = false) : digRes l = .tuple #[.int .u64 0, .bool false] := by
  unfold digRes; rw [h]; rfl

set_option maxHeartbeats 400000 in
theorem Digits_any (s : ByteArray) (w : World) (hs : s.size ≤ maxLen) :
    Calls Tryz.prog 124 #[.string s] w fun e w' => e = .returned (digRes s.data.toList) ∧ w = w' := by
  unfold maxLen at hs
  by_cases h0 : s.size = 0
  · have he : s.toList = [] := by rw [ByteArray.toList_eq]; exact List.length_eq_zero_iff.1 (by simpa using h0)
    have HE := Lib.hid h0
    clear h0
    go_enter Tryz.func124, Tryz.ntmps124
    go_wp2
    go_ret2
    exact ⟨by rw [digRes_f (by have h : s.data.toList = [] := List.length_eq_zero_iff.1 (by simpa using HE.out); rw [h]; rfl)]; rfl, rfl⟩
  · have he : s.toList.isEmpty = false := by rw [ByteArray.toList_eq]; cases h : s.data.toList.isEmpty; rfl; (exact absurd (by have := congrArg List.length (List.isEmpty_iff.1 h); simpa using this) h0)
    have HE := Lib.hid h0
    clear h0
    go_enter Tryz.func124, Tryz.ntmps124
    go_wp2
    go_loop [4, 5, 10] (fun n _ i => ∃ k : Nat, k ≤ s.size ∧ i = .int .i64 k ∧ (s.data.toList.take k).all (fun b => Lk.digB b.toNat) = true ∧ n = .int .u64 (Lk.sat (Lk.valL (s.data.toList.take k)) : Int)) (fun _ _ i => s.size - (intOf i).toNat)
    case atStart => exact ⟨0, Nat.zero_le _, rfl, rfl, rfl⟩
    case round =>
      obtain ⟨k, hk, rfl, ha, rfl⟩ := hrel
      have HA := Lib.hid ha
      clear ha
      by_cases hlt : k < s.size
      · have hb := Lk.byte_bd s[k]
        cases hc : Lk.digB s[k].toNat
        · have HC := Lib.hid hc
          go_wp2_with (first
            | (go_at_call 167; refine (isDigit_any _ _).mono ?_; rintro e w' ⟨rfl, rfl⟩))
          go_ret2
          exact ⟨by rw [digRes_f (by rw [Lk.digL, Lk.all_no hlt HC.out]; rfl)]; rfl, rfl⟩
        · have HC := Lib.hid hc
          have hd : 48 ≤ (s[k].toNat : Int) ∧ (s[k].toNat : Int) ≤ 57 := by simpa [Lk.digB] using hc
          have hsat := Lk.sat_le (Lk.valL (s.data.toList.take k))
          go_wp2_with (first
            | (go_at_call 167; refine (isDigit_any _ _).mono ?_; rintro e w' ⟨rfl, rfl⟩))
          refine (appendDigit_any _ _ _ hsat (by omega) (by omega)).mono ?_
          rintro e w' ⟨rfl, rfl⟩
          go_wp2
          go_round
          case rel =>
            refine ⟨k + 1, by omega, by go_num, Lk.all_step hlt HA.out HC.out, ?_⟩
            rw [Lk.take_snoc s k hlt, Lk.val_snoc, ← Lk.sat_step _ _ (by omega), show ((s[k].toNat : Int) - 48).toNat = s[k].toNat - 48 by omega]
          case measure => simp [intOf]; omega
      · go_wp2
        go_ret2
        have ht := Lk.take_all s k (by omega)
        have ha := HA.out
        rw [ht] at ha
        exact ⟨by rw [digRes_t (by rw [Lk.digL, ha]; rw [ByteArray.toList_eq] at he; simp [he]), ht]; rfl, rfl⟩
end Go.Proofs.YtlkneapidmdpbaaGreatDoor
