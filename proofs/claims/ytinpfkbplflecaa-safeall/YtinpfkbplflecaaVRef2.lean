/-
  Contracts of the document's own Essence and Range of layer 7, over this seat's program, by the same plain mathematics as safe's. Conditions: the texts' sizes are such as any text's.
-/
import Derived.Test.YtinpfkbplflecaaVRef
namespace Go.Proofs.Ytinpfkbplflecaa
open Go.RowKit

theorem ext_take (s : ByteArray) (k : Nat) : (s.extract 0 k).data.toList = s.data.toList.take k := by rw [Lib.extract_eq]; simp
theorem ext_drop (s : ByteArray) (k : Nat) : (s.extract k s.size).data.toList = s.data.toList.drop k := by
  rw [Lib.extract_eq]; simp; exact List.take_of_length_le (by simp)
theorem u8_ne {a : UInt8} {n : Nat} (hn : n < 256) (h : ¬ (a.toNat : Int) = (n : Int)) : a ≠ UInt8.ofNat n := by
  rintro rfl; apply h; rw [UInt8.toNat_ofNat']; omega
theorem u8_is {a : UInt8} {n : Nat} (hn : n < 256) (h : (a.toNat : Int) = (n : Int)) : a = UInt8.ofNat n := by
  apply Lk.u8_eq; rw [h, UInt8.toNat_ofNat']; omega

set_option maxHeartbeats 2000000 in
theorem refEssence_any (v : ByteArray) (w : World) (hs : v.size ≤ maxLen) :
    Calls Try.prog 29 #[.string v] w fun e w' => e = .returned (essV v.data.toList) ∧ Below w.heap.size w w' := by
  have hs0 := hs
  unfold maxLen at hs0
  go_enter Try.func29, Try.ntmps29
  go_wp2
  go_loop [4] (fun i => ∃ k : Nat, k ≤ v.size ∧ i = .int .i64 k ∧ ∀ b ∈ v.data.toList.take k, b ≠ 59) (fun i => v.size - (intOf i).toNat)
  case atStart => exact ⟨0, Nat.zero_le _, rfl, by simp⟩
  case round =>
    obtain ⟨k, hk, rfl, ha⟩ := hrel
    have HA := Lib.hid ha
    clear ha
    by_cases hlt : k < v.size
    · by_cases hc : (v[k].toNat : Int) = 59
      · have HSP : Hid ((split1 59 v.data.toList).1 = v.data.toList.take k) := by
          show _ = _
          rw [split1_stop (by simpa using hk) HA.out (fun _ => u8_is (n := 59) (by decide) hc)]
        obtain ⟨p, hp⟩ : ∃ p, p = v.extract 0 k := ⟨_, rfl⟩
        obtain ⟨t, ht⟩ : ∃ t : ByteArray, t = ⟨(Lk.trimL p.data.toList).toArray⟩ := ⟨_, rfl⟩
        have hpz : p.size ≤ maxLen := by rw [hp]; simp; omega
        have htz : t.size ≤ 9223372036854775807 := by
          have h1 := Lk.trim_len p.data.toList
          unfold maxLen at hpz
          rw [ht]; show (Lk.trimL p.data.toList).toArray.size ≤ _
          simp at h1 ⊢; omega
        have HP := Lib.hid hp
        have HT := Lib.hid ht
        have HE : Hid (essL v.data.toList = typeL t.data.toList) := by
          show _ = _
          unfold essL
          rw [HSP.out, ht, hp, ext_take]
        clear hp ht
        go_wp2_with fail
        rw [← HP.out]
        refine (refTrim_any p _ hpz).mono ?_
        rintro e w' ⟨rfl, rfl⟩
        rw [← HT.out]
        go_wp2
        go_loop [6] (fun i => ∃ j : Nat, j ≤ t.size ∧ i = .int .i64 j ∧ ∀ b ∈ t.data.toList.take j, b ≠ 47) (fun i => t.size - (intOf i).toNat)
        case atStart => exact ⟨0, Nat.zero_le _, rfl, by simp⟩
        case round =>
          obtain ⟨j, hj, rfl, ha⟩ := hrel
          have HAJ := Lib.hid ha
          clear ha
          by_cases hjt : j < t.size
          · by_cases hcj : (t[j].toNat : Int) = 47
            · have HQ : Hid (split1 47 t.data.toList = (t.data.toList.take j, some (t.data.toList.drop (j + 1)))) := by
                show _ = _
                rw [split1_stop (by simpa using hj) HAJ.out (fun _ => u8_is (n := 47) (by decide) hcj), if_pos (by simpa using hjt)]
              obtain ⟨a, ha⟩ : ∃ a, a = t.extract 0 j := ⟨_, rfl⟩
              obtain ⟨b, hb⟩ : ∃ b, b = t.extract (j + 1) t.size := ⟨_, rfl⟩
              have haz : a.size ≤ maxLen := by rw [ha]; unfold maxLen; simp; omega
              have hbz : b.size ≤ maxLen := by rw [hb]; unfold maxLen; simp; omega
              have HTY : Hid (essL v.data.toList = if Lk.tokL a.data.toList && Lk.tokL b.data.toList then some (Lk.lower t.data.toList) else none) := by
                show _ = _
                rw [HE.out, typeL, HQ.out, ha, hb, ext_take, ext_drop]
              have HAX := Lib.hid ha
              have HBX := Lib.hid hb
              clear ha hb
              go_wp2_with fail
              rw [← HAX.out]
              refine (refToken_any a _ haz).mono ?_
              rintro e w' ⟨rfl, rfl⟩
              cases hta : Lk.tokL a.data.toList
              · have HTA := Lib.hid hta
                have HR : Hid (essL v.data.toList = none) := by show _ = _; rw [HTY.out, HTA.out]; rfl
                go_wp2
                go_ret2
                exact ⟨ret_any (essV_no HR.out).symm, Below.refl _ _⟩
              have HTA := Lib.hid hta
              clear hta
              go_wp2_with fail
              rw [← HBX.out]
              refine (refToken_any b _ hbz).mono ?_
              rintro e w' ⟨rfl, rfl⟩
              cases htb : Lk.tokL b.data.toList
              · have HTB := Lib.hid htb
                have HR : Hid (essL v.data.toList = none) := by show _ = _; rw [HTY.out, HTB.out]; simp
                go_wp2
                go_ret2
                exact ⟨ret_any (essV_no HR.out).symm, Below.refl _ _⟩
              have HTB := Lib.hid htb
              clear htb
              have HR : Hid (essL v.data.toList = some (Lk.lower t.data.toList)) := by show _ = _; rw [HTY.out, HTA.out, HTB.out]; rfl
              go_wp2_with fail
              refine (refLower_any t _ (by unfold maxLen; omega)).mono ?_
              rintro e w3 ⟨rfl, hb3⟩
              go_wp2
              go_ret2
              exact ⟨ret_any (essV_yes HR.out).symm, hb3⟩
            · have HN : Hid (t[j] ≠ 47) := u8_ne (n := 47) (by decide) hcj
              go_wp2
              go_round
              case rel => exact ⟨j + 1, by omega, by go_num, stop_step hjt HAJ.out HN.out⟩
              case measure => simp [intOf]; omega
          · have HR : Hid (essL v.data.toList = none) := by
              show _ = _
              rw [HE.out, typeL, split1_stop (by simpa using hj) HAJ.out (fun h => absurd (by simpa using h) hjt), if_neg (by simpa using hjt)]
            obtain rfl : j = t.size := by omega
            go_wp2
            go_ret2
            exact ⟨ret_any (essV_no HR.out).symm, Below.refl _ _⟩
      · have HN : Hid (v[k] ≠ 59) := u8_ne (n := 59) (by decide) hc
        go_wp2
        go_round
        case rel => exact ⟨k + 1, by omega, by go_num, stop_step hlt HA.out HN.out⟩
        case measure => simp [intOf]; omega
    · have HSP : Hid ((split1 59 v.data.toList).1 = v.data.toList.take k) := by
        show _ = _
        rw [split1_stop (by simpa using hk) HA.out (fun h => absurd (by simpa using h) hlt)]
      obtain ⟨p, hp⟩ : ∃ p, p = v.extract 0 k := ⟨_, rfl⟩
      obtain ⟨t, ht⟩ : ∃ t : ByteArray, t = ⟨(Lk.trimL p.data.toList).toArray⟩ := ⟨_, rfl⟩
      have hpz : p.size ≤ maxLen := by rw [hp]; simp; omega
      have htz : t.size ≤ 9223372036854775807 := by
        have h1 := Lk.trim_len p.data.toList
        unfold maxLen at hpz
        rw [ht]; show (Lk.trimL p.data.toList).toArray.size ≤ _
        simp at h1 ⊢; omega
      have HP := Lib.hid hp
      have HT := Lib.hid ht
      have HE : Hid (essL v.data.toList = typeL t.data.toList) := by
        show _ = _
        unfold essL
        rw [HSP.out, ht, hp, ext_take]
      clear hp ht
      go_wp2_with fail
      rw [← HP.out]
      refine (refTrim_any p _ hpz).mono ?_
      rintro e w' ⟨rfl, rfl⟩
      rw [← HT.out]
      go_wp2
      go_loop [6] (fun i => ∃ j : Nat, j ≤ t.size ∧ i = .int .i64 j ∧ ∀ b ∈ t.data.toList.take j, b ≠ 47) (fun i => t.size - (intOf i).toNat)
      case atStart => exact ⟨0, Nat.zero_le _, rfl, by simp⟩
      case round =>
        obtain ⟨j, hj, rfl, ha⟩ := hrel
        have HAJ := Lib.hid ha
        clear ha
        by_cases hjt : j < t.size
        · by_cases hcj : (t[j].toNat : Int) = 47
          · have HQ : Hid (split1 47 t.data.toList = (t.data.toList.take j, some (t.data.toList.drop (j + 1)))) := by
              show _ = _
              rw [split1_stop (by simpa using hj) HAJ.out (fun _ => u8_is (n := 47) (by decide) hcj), if_pos (by simpa using hjt)]
            obtain ⟨a, ha⟩ : ∃ a, a = t.extract 0 j := ⟨_, rfl⟩
            obtain ⟨b, hb⟩ : ∃ b, b = t.extract (j + 1) t.size := ⟨_, rfl⟩
            have haz : a.size ≤ maxLen := by rw [ha]; unfold maxLen; simp; omega
            have hbz : b.size ≤ maxLen := by rw [hb]; unfold maxLen; simp; omega
            have HTY : Hid (essL v.data.toList = if Lk.tokL a.data.toList && Lk.tokL b.data.toList then some (Lk.lower t.data.toList) else none) := by
              show _ = _
              rw [HE.out, typeL, HQ.out, ha, hb, ext_take, ext_drop]
            have HAX := Lib.hid ha
            have HBX := Lib.hid hb
            clear ha hb
            go_wp2_with fail
            rw [← HAX.out]
            refine (refToken_any a _ haz).mono ?_
            rintro e w' ⟨rfl, rfl⟩
            cases hta : Lk.tokL a.data.toList
            · have HTA := Lib.hid hta
              have HR : Hid (essL v.data.toList = none) := by show _ = _; rw [HTY.out, HTA.out]; rfl
              go_wp2
              go_ret2
              exact ⟨ret_any (essV_no HR.out).symm, Below.refl _ _⟩
            have HTA := Lib.hid hta
            clear hta
            go_wp2_with fail
            rw [← HBX.out]
            refine (refToken_any b _ hbz).mono ?_
            rintro e w' ⟨rfl, rfl⟩
            cases htb : Lk.tokL b.data.toList
            · have HTB := Lib.hid htb
              have HR : Hid (essL v.data.toList = none) := by show _ = _; rw [HTY.out, HTB.out]; simp
              go_wp2
              go_ret2
              exact ⟨ret_any (essV_no HR.out).symm, Below.refl _ _⟩
            have HTB := Lib.hid htb
            clear htb
            have HR : Hid (essL v.data.toList = some (Lk.lower t.data.toList)) := by show _ = _; rw [HTY.out, HTA.out, HTB.out]; rfl
            go_wp2_with fail
            refine (refLower_any t _ (by unfold maxLen; omega)).mono ?_
            rintro e w3 ⟨rfl, hb3⟩
            go_wp2
            go_ret2
            exact ⟨ret_any (essV_yes HR.out).symm, hb3⟩
          · have HN : Hid (t[j] ≠ 47) := u8_ne (n := 47) (by decide) hcj
            go_wp2
            go_round
            case rel => exact ⟨j + 1, by omega, by go_num, stop_step hjt HAJ.out HN.out⟩
            case measure => simp [intOf]; omega
        · have HR : Hid (essL v.data.toList = none) := by
            show _ = _
            rw [HE.out, typeL, split1_stop (by simpa using hj) HAJ.out (fun h => absurd (by simpa using h) hjt), if_neg (by simpa using hjt)]
          obtain rfl : j = t.size := by omega
          go_wp2
          go_ret2
          exact ⟨ret_any (essV_no HR.out).symm, Below.refl _ _⟩

set_option maxHeartbeats 2000000 in
theorem refRange_any (v : ByteArray) (w : World) (hs : v.size ≤ maxLen) :
    Calls Try.prog 33 #[.string v] w fun e w' => e = .returned (.bool (rangeL v.data.toList)) ∧ w = w' := by
  have hs0 := hs
  unfold maxLen at hs0
  by_cases h6 : v.size < 6
  · have HR : Hid (rangeL v.data.toList = false) := by
      show _ = _
      unfold rangeL
      have : (v.data.toList.take 6 == bytesT) = false := by
        rw [beq_eq_false_iff_ne]
        intro e
        have := congrArg List.length e
        simp [bytesT] at this
        omega
      rw [this]; rfl
    go_enter Try.func33, Try.ntmps33
    go_wp2
    go_ret
    exact ⟨ret_bool HR.out.symm, rfl⟩
  obtain ⟨u, hu⟩ : ∃ u, u = v.extract 0 6 := ⟨_, rfl⟩
  obtain ⟨t, ht⟩ : ∃ t, t = v.extract 6 v.size := ⟨_, rfl⟩
  have htz : t.size ≤ 9223372036854775807 := by rw [ht]; simp; omega
  have HU := Lib.hid hu
  have HT := Lib.hid ht
  have HUD : Hid (u.toList = v.data.toList.take 6) := by show _ = _; rw [ByteArray.toList_eq, hu, ext_take]
  have HTD : Hid (t.data.toList = v.data.toList.drop 6) := by show _ = _; rw [ht, ext_drop]
  clear hu ht
  cases hq : u.toList == [98, 121, 116, 101, 115, 61]
  · have HR : Hid (rangeL v.data.toList = false) := by
      show _ = _
      unfold rangeL bytesT
      rw [← HUD.out, hq]; rfl
    have hq2 : (u.toList != [98, 121, 116, 101, 115, 61]) = true := by simp only [bne, hq]; rfl
    have HQ2 := Lib.hid hq2
    go_enter Try.func33, Try.ntmps33
    rw [HU.out] at hq hq2
    go_wp2
    go_ret
    exact ⟨ret_bool HR.out.symm, rfl⟩
  have HR : Hid (rangeL v.data.toList = spanL t.data.toList) := by
    show _ = _
    unfold rangeL bytesT
    rw [← HUD.out, hq, HTD.out]; rfl
  have hq2 : (u.toList != [98, 121, 116, 101, 115, 61]) = false := by simp only [bne, hq]; rfl
  go_enter Try.func33, Try.ntmps33
  rw [HU.out] at hq hq2
  go_wp2
  rw [← HT.out]
  go_loop [4] (fun i => ∃ j : Nat, j ≤ t.size ∧ i = .int .i64 j ∧ ∀ b ∈ t.data.toList.take j, b ≠ 45) (fun i => t.size - (intOf i).toNat)
  case atStart => exact ⟨0, Nat.zero_le _, rfl, by simp⟩
  case round =>
    obtain ⟨j, hj, rfl, ha⟩ := hrel
    have HAJ := Lib.hid ha
    clear ha
    by_cases hjt : j < t.size
    · by_cases hcj : (t[j].toNat : Int) = 45
      · have HQ : Hid (split1 45 t.data.toList = (t.data.toList.take j, some (t.data.toList.drop (j + 1)))) := by
          show _ = _
          rw [split1_stop (by simpa using hj) HAJ.out (fun _ => u8_is (n := 45) (by decide) hcj), if_pos (by simpa using hjt)]
        obtain ⟨p, hp⟩ : ∃ p, p = t.extract 0 j := ⟨_, rfl⟩
        obtain ⟨q, hqx⟩ : ∃ q, q = t.extract (j + 1) t.size := ⟨_, rfl⟩
        have hpz : p.size ≤ maxLen := by rw [hp]; unfold maxLen; simp; omega
        have hqz : q.size ≤ maxLen := by rw [hqx]; unfold maxLen; simp; omega
        have HE : Hid (rangeL v.data.toList = (Lk.digL p.data.toList && (q.data.toList.isEmpty || (Lk.digL q.data.toList && decide (Lk.sat (Lk.valL p.data.toList) ≤ Lk.sat (Lk.valL q.data.toList)))))) := by
          show _ = _
          rw [HR.out, spanL, HQ.out, hp, hqx, ext_take, ext_drop]
        have HQL : Hid (q.data.toList.length = t.size - (j + 1)) := by show _ = _; rw [hqx, ext_drop]; simp
        have HPX := Lib.hid hp
        have HQX := Lib.hid hqx
        clear hp hqx
        cases hdp : Lk.digL p.data.toList
        · have HDP := Lib.hid (digRes_f hdp)
          have HX : Hid (rangeL v.data.toList = false) := by show _ = _; rw [HE.out, hdp]; rfl
          clear hdp
          go_wp2_with fail
          rw [← HPX.out]
          refine (refDigits_any p _ hpz).mono ?_
          rintro e w' ⟨rfl, rfl⟩
          rw [HDP.out]
          go_wp2
          go_ret
          exact ⟨ret_bool HX.out.symm, rfl⟩
        have HDP := Lib.hid (digRes_t hdp)
        have HY : Hid (rangeL v.data.toList = (q.data.toList.isEmpty || (Lk.digL q.data.toList && decide (Lk.sat (Lk.valL p.data.toList) ≤ Lk.sat (Lk.valL q.data.toList))))) := by show _ = _; rw [HE.out, hdp]; rfl
        clear hdp
        have hpb := Lk.sat_le (Lk.valL p.data.toList)
        have hqb := Lk.sat_le (Lk.valL q.data.toList)
        generalize Lk.sat (Lk.valL p.data.toList) = P at *
        unfold Lk.M64 at hpb hqb
        go_wp2_with fail
        rw [← HPX.out]
        refine (refDigits_any p _ hpz).mono ?_
        rintro e w' ⟨rfl, rfl⟩
        rw [HDP.out]
        by_cases hend : j + 1 = t.size
        · have HX : Hid (rangeL v.data.toList = true) := by
            show _ = _
            have h0 : q.data.toList = [] := List.length_eq_zero_iff.1 (by rw [HQL.out]; omega)
            rw [HY.out, h0]; rfl
          have hend2 : (j : Int) + 1 = (t.size : Int) := by omega
          go_wp2
          go_ret
          exact ⟨ret_bool HX.out.symm, rfl⟩
        have hend2 : ¬ (j : Int) + 1 = (t.size : Int) := by omega
        have HNE : Hid (q.data.toList.isEmpty = false) := by
          show _ = _
          cases hh : q.data.toList with
          | nil => have := HQL.out; rw [hh] at this; simp at this; omega
          | cons x r => rfl
        cases hdq : Lk.digL q.data.toList
        · have HDQ := Lib.hid (digRes_f hdq)
          have HX : Hid (rangeL v.data.toList = false) := by show _ = _; rw [HY.out, HNE.out, hdq]; rfl
          clear hdq
          go_wp2_with fail
          rw [← HQX.out]
          refine (refDigits_any q _ hqz).mono ?_
          rintro e w' ⟨rfl, rfl⟩
          rw [HDQ.out]
          go_wp2
          go_ret
          exact ⟨ret_bool HX.out.symm, rfl⟩
        have HDQ := Lib.hid (digRes_t hdq)
        have HX : Hid (rangeL v.data.toList = decide (P ≤ Lk.sat (Lk.valL q.data.toList))) := by show _ = _; rw [HY.out, HNE.out, hdq]; rfl
        clear hdq
        generalize Lk.sat (Lk.valL q.data.toList) = Q at *
        go_wp2_with fail
        rw [← HQX.out]
        refine (refDigits_any q _ hqz).mono ?_
        rintro e w' ⟨rfl, rfl⟩
        rw [HDQ.out]
        by_cases hpq : P ≤ Q
        · have hpq' : (P : Int) ≤ (Q : Int) := by omega
          go_wp2
          go_ret
          exact ⟨ret_bool (by rw [HX.out, decide_eq_true hpq]), rfl⟩
        · have hpq' : ¬ (P : Int) ≤ (Q : Int) := by omega
          go_wp2
          go_ret
          exact ⟨ret_bool (by rw [HX.out, decide_eq_false hpq]), rfl⟩
      · have HN : Hid (t[j] ≠ 45) := u8_ne (n := 45) (by decide) hcj
        go_wp2
        go_round
        case rel => exact ⟨j + 1, by omega, by go_num, stop_step hjt HAJ.out HN.out⟩
        case measure => simp [intOf]; omega
    · have HX : Hid (rangeL v.data.toList = false) := by
        show _ = _
        rw [HR.out, spanL, split1_stop (by simpa using hj) HAJ.out (fun h => absurd (by simpa using h) hjt), if_neg (by simpa using hjt)]
      obtain rfl : j = t.size := by omega
      go_wp2
      go_ret
      exact ⟨ret_bool HX.out.symm, rfl⟩
end Go.Proofs.Ytinpfkbplflecaa
