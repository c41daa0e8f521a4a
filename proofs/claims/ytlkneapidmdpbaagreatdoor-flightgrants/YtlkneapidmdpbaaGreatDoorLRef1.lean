/-
  Contracts of the document's own answer of layer 1 over this seat's program. Conditions: those of each statement.
-/
import Derived.Test.YtlkneapidmdpbaaGreatDoorLOct2
namespace Go.Proofs.YtlkneapidmdpbaaGreatDoor
open Go.RowKit

theorem spB_yes {c : Int} (h : Lk.spB c = true) : (c == 9) = true ∨ ((c == 9) = false ∧ (c == 10) = true) ∨ ((c == 9) = false ∧ (c == 10) = false ∧ (c == 13) = true) ∨ ((c == 9) = false ∧ (c == 10) = false ∧ (c == 13) = false ∧ (c == 32) = true) := by
  unfold Lk.spB at h
  cases h1 : (c == 9) <;> cases h2 : (c == 10) <;> cases h3 : (c == 13) <;> cases h4 : (c == 32) <;> simp_all
theorem spB_no {c : Int} (h : Lk.spB c = false) : (c == 9) = false ∧ (c == 10) = false ∧ (c == 13) = false ∧ (c == 32) = false := by
  unfold Lk.spB at h
  cases h1 : (c == 9) <;> cases h2 : (c == 10) <;> cases h3 : (c == 13) <;> cases h4 : (c == 32) <;> simp_all

set_option maxHeartbeats 2000000 in
theorem refTrim_any (s : ByteArray) (w : World) (hs : s.size ≤ maxLen) :
    Calls Tryz.prog 96 #[.string s] w fun e w' => e = .returned (.string ⟨(Lk.trimL s.data.toList).toArray⟩) ∧ w = w' := by
  unfold maxLen at hs
  go_enter Tryz.func96, Tryz.ntmps96
  go_wp2
  go_loop [3] (fun i => ∃ k : Nat, k ≤ s.size ∧ i = .int .i64 k ∧ (s.data.toList.take k).all Lk.sp = true) (fun i => s.size - (intOf i).toNat)
  case atStart => exact ⟨0, Nat.zero_le _, rfl, rfl⟩
  case round =>
    obtain ⟨k, hk, rfl, ha⟩ := hrel
    have HA := Lib.hid ha
    clear ha
    by_cases hc : ∃ h : k < s.size, Lk.sp s[k] = true
    · obtain ⟨hlt, hc⟩ := hc
      have HC := Lib.hid hc
      rcases spB_yes (show Lk.spB s[k].toNat = true from hc) with g1 | ⟨g1, g2⟩ | ⟨g1, g2, g3⟩ | ⟨g1, g2, g3, g4⟩
      all_goals
        clear hc
        go_wp2
        go_round
        case rel => exact ⟨k + 1, by omega, by go_num, Lk.all_step hlt HA.out HC.out⟩
        case measure => simp [intOf]; omega
    · have HF : Hid (s.size ≤ k ∨ ∃ h : k < s.size, Lk.sp s[k] = false) := by
        by_cases h : k < s.size
        · exact .inr ⟨h, by cases e : Lk.sp s[k]; rfl; exact absurd ⟨h, e⟩ hc⟩
        · exact .inl (by omega)
      clear hc
      by_cases hlt : k < s.size
      obtain ⟨g1, g2, g3, g4⟩ := spB_no (show Lk.spB s[k].toNat = false from by rcases HF.out with h | ⟨_, h⟩; omega; exact h)
      all_goals
        go_wp2
        try clear g1 g2 g3 g4
        go_loop [4] (fun i => ∃ m : Nat, k ≤ m ∧ m ≤ s.size ∧ i = .int .i64 m ∧ (s.data.toList.drop m).all Lk.sp = true) (fun i => (intOf i).toNat)
        case atStart => exact ⟨s.size, hk, Nat.le_refl _, rfl, by rw [List.drop_of_length_le (by simp)]; rfl⟩
        case round =>
          obtain ⟨m, hkm, hm, rfl, hd⟩ := hrel
          have HD := Lib.hid hd
          clear hd
          by_cases hlt2 : k < m
          rotate_left
          · go_wp2
            go_ret
            exact ⟨ret_string (trim_fin hkm hm HA.out HD.out HF.out (.inl (by omega))), rfl⟩
          all_goals (try (exfalso; omega))
          all_goals
            have h1 : m - 1 < s.size := by omega
            have eb : ((m : Int) - 1).toNat = m - 1 := by omega
            cases hc2 : Lk.sp s[m - 1]
            · obtain ⟨g1, g2, g3, g4⟩ := spB_no (show Lk.spB s[m - 1].toNat = false from hc2)
              have HC2 := Lib.hid hc2
              clear hc2
              go_wp2
              go_ret
              exact ⟨ret_string (trim_fin hkm hm HA.out HD.out HF.out (.inr ⟨hlt2, h1, HC2.out⟩)), rfl⟩
            · have HC2 := Lib.hid hc2
              rcases spB_yes (show Lk.spB s[m - 1].toNat = true from hc2) with g1 | ⟨g1, g2⟩ | ⟨g1, g2, g3⟩ | ⟨g1, g2, g3, g4⟩
              all_goals
                clear hc2
                go_wp2
                go_round
                case rel => exact ⟨m - 1, by omega, by omega, by go_num, Lk.drop_step h1 HC2.out (by rw [show m - 1 + 1 = m by omega]; exact HD.out)⟩
                case measure => simp [intOf]; omega

theorem tok_ref (c : UInt8) : Lk.tokB c.toNat = (Lk.plB c.toNat || (Lk.inL c.toNat [33, 35, 36, 37, 38, 39, 42, 43, 45, 46, 94, 95, 124, 126] || (c.toNat : Int) == 96)) := by
  have : ∀ n : Fin 256, Lk.tokB (UInt8.ofNat n.val).toNat = (Lk.plB (UInt8.ofNat n.val).toNat || (Lk.inL (UInt8.ofNat n.val).toNat [33, 35, 36, 37, 38, 39, 42, 43, 45, 46, 94, 95, 124, 126] || ((UInt8.ofNat n.val).toNat : Int) == 96)) := by decide +kernel
  have h := this ⟨c.toNat, c.toNat_lt⟩
  simpa using h

set_option maxHeartbeats 1000000 in
theorem refToken_any (s : ByteArray) (w : World) (hs : s.size ≤ maxLen) :
    Calls Tryz.prog 93 #[.string s] w fun e w' => e = .returned (.bool (Lk.tokL s.data.toList)) ∧ w = w' := by
  unfold maxLen at hs
  go_enter Tryz.func93, Tryz.ntmps93
  go_wp2
  go_loop [3] (fun i => ∃ k : Nat, k ≤ s.size ∧ i = .int .i64 k ∧ (s.data.toList.take k).all (fun b => Lk.tokB b.toNat) = true) (fun i => s.size - (intOf i).toNat)
  case atStart => exact ⟨0, Nat.zero_le _, rfl, rfl⟩
  case round =>
    obtain ⟨k, hk, rfl, ha⟩ := hrel
    have HA := Lib.hid ha
    clear ha
    by_cases hlt : k < s.size
    · have HT := Lib.hid (tok_ref s[k])
      cases hp : Lk.plB s[k].toNat
      · cases hi : Lk.inL s[k].toNat [33, 35, 36, 37, 38, 39, 42, 43, 45, 46, 94, 95, 124, 126]
        · cases h96 : ((s[k].toNat : Int) == 96)
          · have HC : Hid (Lk.tokB s[k].toNat = false) := by show _ = _; rw [HT.out, hp, hi, h96]; rfl
            have h96' : ((s[k].toNat : Int) != 96) = true := by simp [bne, h96]
            have HI := Lib.hid hi
            clear hi
            go_wp2_with fail
            refine (Plain_any _ _).mono ?_
            rintro e w' ⟨rfl, rfl⟩
            go_wp2_with fail
            refine (In_any _ _ _ (by decide)).mono ?_
            rintro e w' ⟨rfl, rfl⟩
            rw [HI.out]
            go_wp2_with fail
            go_ret
            exact ⟨ret_bool (by rw [Lk.tokL, Lk.all_no hlt HC.out]; rfl), rfl⟩
          · have HC : Hid (Lk.tokB s[k].toNat = true) := by show _ = _; rw [HT.out, hp, hi, h96]; rfl
            have h96' : ((s[k].toNat : Int) != 96) = false := by simp [bne, h96]
            have HI := Lib.hid hi
            clear hi
            go_wp2_with fail
            refine (Plain_any _ _).mono ?_
            rintro e w' ⟨rfl, rfl⟩
            go_wp2_with fail
            refine (In_any _ _ _ (by decide)).mono ?_
            rintro e w' ⟨rfl, rfl⟩
            rw [HI.out]
            go_wp2_with fail
            go_round
            case rel => exact ⟨k + 1, by omega, by go_num, Lk.all_step hlt HA.out HC.out⟩
            case measure => simp [intOf]; omega
        · have HC : Hid (Lk.tokB s[k].toNat = true) := by show _ = _; rw [HT.out, hp, hi]; rfl
          have HI := Lib.hid hi
          clear hi
          go_wp2_with fail
          refine (Plain_any _ _).mono ?_
          rintro e w' ⟨rfl, rfl⟩
          go_wp2_with fail
          refine (In_any _ _ _ (by decide)).mono ?_
          rintro e w' ⟨rfl, rfl⟩
          rw [HI.out]
          go_wp2_with fail
          go_round
          case rel => exact ⟨k + 1, by omega, by go_num, Lk.all_step hlt HA.out HC.out⟩
          case measure => simp [intOf]; omega
      · have HC : Hid (Lk.tokB s[k].toNat = true) := by show _ = _; rw [HT.out, hp]; rfl
        go_wp2_with fail
        refine (Plain_any _ _).mono ?_
        rintro e w' ⟨rfl, rfl⟩
        go_wp2_with fail
        go_round
        case rel => exact ⟨k + 1, by omega, by go_num, Lk.all_step hlt HA.out HC.out⟩
        case measure => simp [intOf]; omega
    · have HE : Hid (decide (0 < s.size) = Lk.tokL s.data.toList) := by
        show _ = _
        have := HA.out
        rw [Lk.take_all s k (by omega)] at this
        rw [Lk.tokL, this, Bool.true_and, Lk.notEmpty_size]
      go_wp2
      go_ret
      exact ⟨ret_bool HE.out, rfl⟩

set_option maxHeartbeats 1000000 in
theorem refDigits_any (s : ByteArray) (w : World) (hs : s.size ≤ maxLen) :
    Calls Tryz.prog 95 #[.string s] w fun e w' => e = .returned (digRes s.data.toList) ∧ w = w' := by
  unfold maxLen at hs
  go_enter Tryz.func95, Tryz.ntmps95
  go_wp2
  go_loop [4, 5, 6] (fun n i _ => ∃ k : Nat, k ≤ s.size ∧ i = .int .i64 k ∧ (s.data.toList.take k).all (fun b => Lk.digB b.toNat) = true ∧ n = .int .u64 (Lk.sat (Lk.valL (s.data.toList.take k)) : Int)) (fun _ i _ => s.size - (intOf i).toNat)
  case atStart => exact ⟨0, Nat.zero_le _, rfl, rfl, rfl⟩
  case round =>
    obtain ⟨k, hk, rfl, ha, rfl⟩ := hrel
    have HA := Lib.hid ha
    clear ha
    by_cases hlt : k < s.size
    · have hb := Lk.byte_bd s[k]
      by_cases h48 : 48 ≤ (s[k].toNat : Int)
      · by_cases h57 : (s[k].toNat : Int) ≤ 57
        · have HC : Hid (Lk.digB s[k].toNat = true) := by show _ = _; simp [Lk.digB]; omega
          have hsat := Lk.sat_le (Lk.valL (s.data.toList.take k))
          have hst := Lk.sat_step (Lk.valL (s.data.toList.take k)) (s[k].toNat - 48) (by omega)
          rw [← Lk.val_snoc, ← Lk.take_snoc s k hlt] at hst
          have HS := Lib.hid hst
          clear hst
          generalize Lk.sat (Lk.valL (s.data.toList.take k)) = n at *
          unfold Lk.M64 at hsat
          by_cases hgt : (18446744073709551615 - ((s[k].toNat : Int) - 48)) / 10 < (n : Int)
          · go_wp2
            go_round
            case rel =>
              refine ⟨k + 1, by omega, by go_num, Lk.all_step hlt HA.out HC.out, ?_⟩
              rw [← HS.out, Lk.apd, if_pos (by unfold Lk.M64; omega)]; rfl
            case measure => simp [intOf]; omega
          · go_wp2
            go_round
            case rel =>
              refine ⟨k + 1, by omega, by go_num, Lk.all_step hlt HA.out HC.out, ?_⟩
              rw [← HS.out, Lk.apd, if_neg (by unfold Lk.M64; omega)]
              go_num
            case measure => simp [intOf]; omega
        · have HC : Hid (Lk.digB s[k].toNat = false) := by show _ = _; simp [Lk.digB]; omega
          go_wp2
          go_ret2
          exact ⟨by rw [digRes_f (by rw [Lk.digL, Lk.all_no hlt HC.out]; rfl)]; rfl, rfl⟩
      · have HC : Hid (Lk.digB s[k].toNat = false) := by show _ = _; simp [Lk.digB]; omega
        go_wp2
        go_ret2
        exact ⟨by rw [digRes_f (by rw [Lk.digL, Lk.all_no hlt HC.out]; rfl)]; rfl, rfl⟩
    · have ht := Lib.hid (Lk.take_all s k (by omega))
      by_cases h0 : 0 < s.size
      · have g1 : decide (0 < s.size) = true := decide_eq_true h0
        go_wp2
        go_ret2
        have ha := HA.out
        rw [ht.out] at ha
        exact ⟨by rw [digRes_t (by rw [Lk.digL, ha, Lk.notEmpty_size]; simpa using h0), ht.out]; rfl, rfl⟩
      · have g1 : decide (0 < s.size) = false := decide_eq_false h0
        have HN : Hid (s.data.toList = []) := Lk.nil_of_size h0
        go_wp2
        go_ret2
        exact ⟨by rw [digRes_f (by rw [HN.out]; rfl), HN.out]; simp [Lk.valL, Lk.sat], rfl⟩
end Go.Proofs.YtlkneapidmdpbaaGreatDoor

namespace Go.Proofs.YtlkneapidmdpbaaGreatDoor
open Go.RowKit

set_option maxHeartbeats 1000000 in
theorem refLower_any (s : ByteArray) (w : World) (hs : s.size ≤ maxLen) :
    Calls Tryz.prog 94 #[.string s] w fun e w' => e = .returned (.string ⟨(Lk.lower s.data.toList).toArray⟩) ∧ Below w.heap.size w w' := by
  unfold maxLen at hs
  obtain ⟨cap, hconv⟩ := conv_to w s
  have HB := Lib.hid (BRow.of_string w s cap 5)
  go_enter Tryz.func94, Tryz.ntmps94
  go_wp2
  clear hconv
  go_loopw [4] (fun i wr => ∃ k : Nat, k ≤ s.size ∧ i = .int .i64 k ∧ BRow wr w.heap.size (Lk.turned (fun _ => Lk.lowU) s.data.toList k) ∧ Below w.heap.size w wr) (fun i _ => s.size - (intOf i).toNat)
  case atStart => exact ⟨0, Nat.zero_le _, rfl, by rw [Lk.turned_zero]; exact HB.out, ((Below.refl _ _).alloc (Nat.le_refl _) _).drew⟩
  case round =>
    obtain ⟨k, hk, rfl, hr, hb⟩ := hrel
    have HR := Lib.hid hr
    clear hr
    by_cases hlt : k < s.size
    · have hl : k < s.data.toList.length := by simpa using hlt
      have hl2 : k < (Lk.turned (fun _ => Lk.lowU) s.data.toList k).length := by rw [Lk.turned_len]; exact hl
      obtain ⟨hc, hf⟩ := HR.out k hl2
      have HT := Lib.hid (Lk.turned_at (fun _ => Lk.lowU) _ _ hl)
      rw [HT.out] at hc
      have hbd := Lk.byte_bd s.data.toList[k]
      have HN : Hid (BRow (wr.setCell ⟨w.heap.size, k, none⟩ (.int .u8 (Lk.lowI s.data.toList[k].toNat))) w.heap.size (Lk.turned (fun _ => Lk.lowU) s.data.toList (k + 1))) := by
        have := HR.out.set_ k (Lk.lowU s.data.toList[k]) hl2
        rw [Lk.turned_succ (fun _ => Lk.lowU) _ _ hl, Lk.lowU_toNat] at this
        exact this
      have HS : Hid (Lk.lowI s.data.toList[k].toNat = s.data.toList[k].toNat → BRow wr w.heap.size (Lk.turned (fun _ => Lk.lowU) s.data.toList (k + 1))) := by
        intro he
        have h1 : Lk.lowU s.data.toList[k] = s.data.toList[k] := Lk.u8_eq (by rw [Lk.lowU_toNat, he])
        have h2 : (Lk.turned (fun _ => Lk.lowU) s.data.toList k).set k (Lk.turned (fun _ => Lk.lowU) s.data.toList k)[k] = Lk.turned (fun _ => Lk.lowU) s.data.toList k := List.set_getElem_self _
        rw [← Lk.turned_succ (fun _ => Lk.lowU) _ _ hl, h1, ← HT.out, h2]
        exact HR.out
      clear HT
      generalize s.data.toList[k] = c at *
      clear hl hl2
      by_cases h65 : 65 ≤ (c.toNat : Int)
      · by_cases h90 : (c.toNat : Int) ≤ 90
        · rw [Lk.lowI_up h65 h90] at HN
          clear HS
          go_wp2
          go_roundw
          case rel => exact ⟨k + 1, by omega, by go_num, HN.out, below_set hb _⟩
          case measure => simp [intOf]; omega
        · have hs2 := HS.out (Lk.lowI_not (by omega))
          have HS2 := Lib.hid hs2
          clear hs2 HN HS
          go_wp2
          go_roundw
          case rel => exact ⟨k + 1, by omega, by go_num, HS2.out, hb⟩
          case measure => simp [intOf]; omega
      · have hs2 := HS.out (Lk.lowI_not (by omega))
        have HS2 := Lib.hid hs2
        clear hs2 HN HS
        go_wp2
        go_roundw
        case rel => exact ⟨k + 1, by omega, by go_num, HS2.out, hb⟩
        case measure => simp [intOf]; omega
    · have hcv := conv_back (cap := cap) HR.out (n := s.size) (by rw [Lk.turned_len]; simp)
      rw [Lk.turned_all _ _ _ (by simp; omega), Lk.mapIdx_const] at hcv
      go_wp2
      go_ret
      exact ⟨rfl, hb⟩

set_option maxHeartbeats 400000 in
theorem refFold_any (a b : ByteArray) (w : World) (ha : a.size ≤ maxLen) (hb : b.size ≤ maxLen) :
    Calls Tryz.prog 136 #[.string a, .string b] w fun e w' => e = .returned (.bool (Lk.foldL a.data.toList b.data.toList)) ∧ Below w.heap.size w w' := by
  obtain ⟨x, hx⟩ : ∃ x : ByteArray, x = ⟨(Lk.lower a.data.toList).toArray⟩ := ⟨_, rfl⟩
  obtain ⟨y, hy⟩ : ∃ y : ByteArray, y = ⟨(Lk.lower b.data.toList).toArray⟩ := ⟨_, rfl⟩
  have HE : Hid ((x.toList == y.toList) = Lk.foldL a.data.toList b.data.toList) := by
    show _ = _
    rw [ByteArray.toList_eq, ByteArray.toList_eq, hx, hy]; rfl
  go_enter Tryz.func136, Tryz.ntmps136
  go_wp2_with fail
  refine (refLower_any a _ ha).mono ?_
  rintro e w1 ⟨rfl, hb1⟩
  rw [← hx]
  clear hx
  go_wp2_with fail
  refine (refLower_any b _ hb).mono ?_
  rintro e w2 ⟨rfl, hb2⟩
  rw [← hy]
  clear hy
  go_wp2
  go_ret
  exact ⟨ret_bool HE.out, hb1.trans (hb2.mono hb1.size)⟩

theorem refTrim_as (s t : ByteArray) (w : World) (hs : s.size ≤ maxLen) (ht : t = ⟨(Lk.trimL s.data.toList).toArray⟩) :
    Calls Tryz.prog 96 #[.string s] w fun e w' => e = .returned (.string t) ∧ w = w' := by
  rw [ht]; exact refTrim_any s w hs

theorem split_here {l : List UInt8} {f i : Nat} (hfi : f ≤ i) (hi : i < l.length) (hc : l[i] = 44) (hn : ∀ b ∈ (l.drop f).take (i - f), b ≠ 44) :
    Lk.splitL (l.drop f) = Lk.keep [(l.drop f).take (i - f)] ++ Lk.splitL (l.drop (i + 1)) := by
  have e : l.drop f = (l.drop f).take (i - f) ++ 44 :: l.drop (i + 1) := by
    have h1 : l.drop i = (l.drop f).drop (i - f) := by rw [List.drop_drop]; congr 1; omega
    have h2 : l.drop i = l[i] :: l.drop (i + 1) := List.drop_eq_getElem_cons hi
    rw [hc] at h2
    rw [← h2, h1, List.take_append_drop]
  exact (congrArg Lk.splitL e).trans (Lk.split_at hn)

set_option maxHeartbeats 2000000 in
theorem refSplit_any (s : ByteArray) (w : World) (hs : s.size ≤ 1099511627776) :
    Calls Tryz.prog 92 #[.string s] w (SplitPost s.data.toList w) := by
  obtain ⟨i0, hi, hz0, hz1, hz2⟩ := info_parts infoS
  go_enter Tryz.func92, Tryz.ntmps92
  go_wp2
  go_loopw [3, 4, 5, 6] (fun v f0 i _ wr => ∃ (f k : Nat) (dn : List (List UInt8)), f0 = .int .i64 f ∧ i = .int .i64 k ∧ k ≤ s.size + 1 ∧ ((f ≤ k ∧ k ≤ s.size ∧ (∀ b ∈ (s.data.toList.drop f).take (k - f), b ≠ 44) ∧ Lk.splitL s.data.toList = dn ++ Lk.splitL (s.data.toList.drop f)) ∨ (k = s.size + 1 ∧ Lk.splitL s.data.toList = dn)) ∧ wr.ownsRow w.heap.size 9 1 v dn.length (dn.map sv) ∧ Below w.heap.size w wr)
    (fun _ _ i _ _ => s.size + 1 - (intOf i).toNat)
  case atStart => exact ⟨0, 0, [], rfl, rfl, by omega, .inl ⟨Nat.le_refl _, Nat.zero_le _, by simp, by simp⟩, World.ownsRow_nil _ _ _ _, Below.refl _ _⟩
  case round =>
    obtain ⟨f, k, dn, rfl, rfl, hk, hor, hown, hb⟩ := hrel
    have hdn : dn.length ≤ s.size + 1 := by
      have h1 := Lk.split_len s.data.toList
      have h2 : s.data.toList.length = s.size := by simp
      rcases hor with ⟨_, _, _, h⟩ | ⟨_, h⟩
      · rw [h, List.length_append] at h1; omega
      · rw [h] at h1; omega
    rcases hor with ⟨hfk, hks, hno, hsp⟩ | ⟨hke, hsp⟩
    · have HNO := Lib.hid hno
      have HSP := Lib.hid hsp
      have hwr := hb.size
      clear hno hsp
      by_cases hcc : ∃ h : k < s.size, s[k] ≠ 44
      · obtain ⟨hlt, hc⟩ := hcc
        have hc2 : ((s[k].toNat : Int) != 44) = true := by
          rw [bne_iff_ne]; intro h; exact hc (Lk.u8_eq (b := 44) (by rw [h]; rfl))
        have HN2 : Hid (∀ b ∈ (s.data.toList.drop f).take (k + 1 - f), b ≠ 44) := by
          show ∀ b ∈ (s.data.toList.drop f).take (k + 1 - f), b ≠ 44
          have e : k + 1 - f = (k - f) + 1 := by omega
          rw [e, List.take_succ_eq_append_getElem (by simp; omega)]
          intro b hb'
          rcases List.mem_append.1 hb' with hb' | hb'
          · exact HNO.out b hb'
          · simp at hb'; subst hb'
            have e2 : f + (k - f) = k := by omega
            simp only [e2]; exact hc
        clear hc
        go_wp2
        go_roundw
        case rel => exact ⟨f, k + 1, dn, rfl, by go_num, by omega, .inl ⟨by omega, by omega, HN2.out, HSP.out⟩, hown, hb⟩
        case measure => simp [intOf]; omega
      · obtain ⟨t, ht⟩ : ∃ t : ByteArray, t = ⟨(Lk.trimL (s.extract f k).data.toList).toArray⟩ := ⟨_, rfl⟩
        have HE : Hid ((s.extract f k).data.toList = (s.data.toList.drop f).take (k - f)) := Lib.extract_data s f k
        have hxs : (s.extract f k).size ≤ maxLen := by simp [maxLen]; omega
        have HT := Lib.hid ht
        have HNEXT : Hid (∃ dn2 : List (List UInt8), dn2 = dn ++ Lk.keep [(s.extract f k).data.toList] ∧ ((k + 1 ≤ s.size ∧ Lk.splitL s.data.toList = dn2 ++ Lk.splitL (s.data.toList.drop (k + 1))) ∨ (k + 1 = s.size + 1 ∧ Lk.splitL s.data.toList = dn2))) := by
          refine ⟨_, rfl, ?_⟩
          by_cases hlt : k < s.size
          · left
            have hc44 : s[k] = 44 := by
              by_cases h : s[k] = 44
              · exact h
              · exact absurd ⟨hlt, h⟩ hcc
            refine ⟨by omega, ?_⟩
            rw [HSP.out, HE.out, split_here hfk (by simpa using hlt) hc44 HNO.out, List.append_assoc]
          · right
            refine ⟨by omega, ?_⟩
            have e : (s.data.toList.drop f).take (k - f) = s.data.toList.drop f := List.take_of_length_le (by simp; omega)
            rw [HSP.out, HE.out, e]
            have hn := HNO.out
            rw [e] at hn
            rw [Lk.split_none hn]
        clear ht
        by_cases hlt : k < s.size
        have hc2 : ((s[k].toNat : Int) != 44) = false := by
          have hc44 : s[k] = 44 := by
            by_cases h : s[k] = 44
            · exact h
            · exact absurd ⟨hlt, h⟩ hcc
          rw [hc44]; rfl
        all_goals
          clear hcc
          by_cases he : t.data.toList = []
          · have e1 := ba_isEmpty he
            have E := Lib.hid he
            clear he
            go_wp2_with fail
            refine (refTrim_as _ t _ hxs HT.out).mono ?_
            rintro e w' ⟨rfl, rfl⟩
            go_wp2_with fail
            go_roundw
            case rel =>
              obtain ⟨dn2, hd2, hor⟩ := HNEXT.out
              rw [Lk.keep_one_nil (by rw [← ba_eq HT.out]; exact E.out), List.append_nil] at hd2
              subst hd2
              refine ⟨k + 1, k + 1, dn2, by go_num, by go_num, by omega, ?_, hown, hb⟩
              rcases hor with ⟨h1, h2⟩ | ⟨h1, h2⟩
              · exact .inl ⟨Nat.le_refl _, h1, by simp, h2⟩
              · exact .inr ⟨h1, h2⟩
            case measure => simp [intOf]; omega
          · have e1 := ba_notEmpty he
            have E := Lib.hid he
            clear he
            go_wp2_with fail
            refine (refTrim_as _ t _ hxs HT.out).mono ?_
            rintro e w' ⟨rfl, rfl⟩
            go_wp2_with (at_builtin; refine wpList_append_own _ rfl (.tmp 30) (.tmp 32) 26 rfl w.heap.size 9 i0 (.string ⟨#[]⟩) 1 16 Tryz.underlying26 hi hz0 hz1 hz2 rfl (by decide) _ _ _ rfl (hown.alloc _) ⟨wr.heap.size, 0, none⟩ 1 1 [.string t] rfl rfl (cell_one_new _ _ _) (by intro u hu; simp at hu; subst hu; rfl) (by unfold maxLen; omega) (by omega) (by simp; omega) ?_)
            intro v' w1 hown' hgrow _
            have hb1 : Below w.heap.size w w1 := Below.grown (hb.alloc hwr _) hgrow (by simp; omega) (fun j hj => (hown.lt j hj).1)
            have ho2 : Hid (w1.ownsRow w.heap.size 9 1 v' (dn ++ [Lk.trimL (s.extract f k).data.toList]).length ((dn ++ [Lk.trimL (s.extract f k).data.toList]).map sv)) := by
              show World.ownsRow _ _ _ _ _ _ _
              rw [List.length_append, List.map_append]
              have e := sv_eq HT.out
              rw [← show [Value.string t] = List.map sv [Lk.trimL (s.extract f k).data.toList] by rw [e]; rfl]
              exact hown'
            clear hown' hgrow
            go_wp2_with fail
            go_roundw
            case rel =>
              obtain ⟨dn2, hd2, hor⟩ := HNEXT.out
              rw [Lk.keep_one (by rw [← ba_eq HT.out]; exact E.out)] at hd2
              subst hd2
              refine ⟨k + 1, k + 1, _, by go_num, by go_num, by omega, ?_, ho2.out, hb1⟩
              rcases hor with ⟨h1, h2⟩ | ⟨h1, h2⟩
              · exact .inl ⟨Nat.le_refl _, h1, by simp, h2⟩
              · exact .inr ⟨h1, h2⟩
            case measure => simp [intOf]; omega
    · have HSP := Lib.hid hsp
      have hgt : ¬ k ≤ s.size := by omega
      clear hsp hke
      go_wp2
      go_ret
      exact ⟨_, rfl, by rw [HSP.out]; exact hown, hb⟩
end Go.Proofs.YtlkneapidmdpbaaGreatDoor
