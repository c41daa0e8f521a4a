/-
  Contracts of the document's own answer of layer 7 over this seat's program. Conditions: those of each statement.
-/
import Derived.Test.YtlkneapidmdpbaaGreatDoorLSafe
import Derived.Test.YtlkneapidmdpbaaGreatDoorLRef1
import Derived.Test.YtlkneapidmdpbaaGreatDoorLRef6
namespace Go.Proofs.YtlkneapidmdpbaaGreatDoor
open Go.RowKit

theorem inL_has (c : UInt8) : ∀ l : List UInt8, Lk.inL c.toNat l = l.contains c
  | [] => rfl
  | b :: l => by
    have ih := inL_has c l
    unfold Lk.inL at ih ⊢
    rw [List.any_cons, List.contains_cons, ih]
    congr 1
    rw [Bool.eq_iff_iff]
    simp only [beq_iff_eq]
    constructor
    · intro h; exact Lk.u8_eq h.symm
    · intro h; rw [h]
def bar13 : List UInt8 := [34, 40, 41, 58, 60, 62, 63, 64, 91, 92, 93, 123, 125]
theorem bar_127 : barL.contains 127 = true := by decide
theorem bar_not {c : UInt8} (h : ¬ (c.toNat : Int) = 127) : barL.contains c = Lk.inL c.toNat bar13 := by
  rw [inL_has]
  have e : barL = bar13 ++ [127] := rfl
  have h2 : (c == 127) = false := by
    rw [beq_eq_false_iff_ne]; intro e; subst e; exact h rfl
  rw [e]
  simp; intro e; subst e; exact absurd rfl h

set_option maxHeartbeats 1000000 in
theorem refByte_any (c : UInt8) (w : World) :
    Calls Tryz.prog 200 #[.int .u8 (c.toNat : Int)] w fun e w' => e = .returned (.bool (byteOk c)) ∧ w = w' := by
  by_cases h9 : (c.toNat : Int) = 9
  · have HE : Hid (byteOk c = true) := by
      show _ = _
      have : c = 9 := Lk.u8_eq (by rw [h9]; rfl)
      subst this; decide
    go_enter Tryz.func200, Tryz.ntmps200
    go_wp2
    go_ret
    exact ⟨ret_bool HE.out.symm, rfl⟩
  by_cases h32 : (c.toNat : Int) < 32
  · have HE := Lib.hid (byteOk_lo h9 h32)
    go_enter Tryz.func200, Tryz.ntmps200
    go_wp2
    go_ret
    exact ⟨ret_bool (by rw [HE.out]; simpa using h9), rfl⟩
  by_cases h127 : (c.toNat : Int) = 127
  · have HE : Hid (byteOk c = false) := by
      show _ = _
      have : c = 127 := Lk.u8_eq (by rw [h127]; rfl)
      subst this; decide
    go_enter Tryz.func200, Tryz.ntmps200
    go_wp2
    go_ret
    exact ⟨ret_bool HE.out.symm, rfl⟩
  have HE : Hid (byteOk c = !Lk.inL c.toNat bar13) := by show _ = _; rw [byteOk_hi h9 h32, bar_not h127]
  go_enter Tryz.func200, Tryz.ntmps200
  go_wp2_with fail
  refine (In_any _ _ _ (by decide)).mono ?_
  rintro e w' ⟨rfl, rfl⟩
  cases hi : Lk.inL c.toNat bar13
  · have HI := Lib.hid hi
    rw [show Lk.inL (c.toNat : Int) (⟨#[34, 40, 41, 58, 60, 62, 63, 64, 91, 92, 93, 123, 125]⟩ : ByteArray).data.toList = false from HI.out]
    clear hi
    go_wp2
    go_ret
    exact ⟨ret_bool (by rw [HE.out, HI.out] <;> simp_all), rfl⟩
  · have HI := Lib.hid hi
    rw [show Lk.inL (c.toNat : Int) (⟨#[34, 40, 41, 58, 60, 62, 63, 64, 91, 92, 93, 123, 125]⟩ : ByteArray).data.toList = true from HI.out]
    clear hi
    go_wp2
    go_ret
    exact ⟨ret_bool (by rw [HE.out, HI.out] <;> simp_all), rfl⟩

set_option maxHeartbeats 1000000 in
theorem eachB_any (s : ByteArray) (w : World) (hs : s.size ≤ maxLen) :
    Calls Tryz.prog 174 #[.string s, .bool false] w fun e w' => e = .returned (.bool (bytesOk s.data.toList)) ∧ w = w' := by
  unfold maxLen at hs
  go_enter Tryz.func174, Tryz.ntmps174
  go_wp2
  go_loop [5] (fun i => ∃ k : Nat, k ≤ s.size ∧ i = .int .i64 k ∧ (s.data.toList.take k).all byteOk = true) (fun i => s.size - (intOf i).toNat)
  case atStart => exact ⟨0, Nat.zero_le _, rfl, rfl⟩
  case round =>
    obtain ⟨k, hk, rfl, ha⟩ := hrel
    have HA := Lib.hid ha
    clear ha
    by_cases hlt : k < s.size
    · cases hc : byteOk s[k]
      · have HC := Lib.hid hc
        go_wp2_with fail
        refine (refByte_any _ _).mono ?_
        rintro e w' ⟨rfl, rfl⟩
        rw [HC.out]
        go_wp2
        go_ret
        exact ⟨ret_bool (by rw [bytesOk, Lk.all_no hlt HC.out]), rfl⟩
      · have HC := Lib.hid hc
        go_wp2_with fail
        refine (refByte_any _ _).mono ?_
        rintro e w' ⟨rfl, rfl⟩
        rw [HC.out]
        go_wp2
        go_round
        case rel => exact ⟨k + 1, by omega, by go_num, Lk.all_step hlt HA.out HC.out⟩
        case measure => simp [intOf]; omega
    · go_wp2
      go_ret
      exact ⟨ret_bool (by have := HA.out; rw [Lk.take_all s k (by omega)] at this; rw [bytesOk, this]), rfl⟩

set_option maxHeartbeats 1000000 in
theorem eachL_any (s : ByteArray) (w : World) (hs : s.size ≤ maxLen) :
    Calls Tryz.prog 174 #[.string s, .bool true] w fun e w' => e = .returned (.bool (langsOk s.data.toList)) ∧ w = w' := by
  unfold maxLen at hs
  go_enter Tryz.func174, Tryz.ntmps174
  go_wp2
  go_loop [5] (fun i => ∃ k : Nat, k ≤ s.size ∧ i = .int .i64 k ∧ (s.data.toList.take k).all langOk = true) (fun i => s.size - (intOf i).toNat)
  case atStart => exact ⟨0, Nat.zero_le _, rfl, rfl⟩
  case round =>
    obtain ⟨k, hk, rfl, ha⟩ := hrel
    have HA := Lib.hid ha
    clear ha
    by_cases hlt : k < s.size
    · cases hp : Lk.plB s[k].toNat
      case true =>
        have HC : Hid (langOk s[k] = true) := by show _ = _; rw [langOk, hp]; rfl
        have HP := Lib.hid hp
        clear hp
        go_wp2_with fail
        refine (Plain_any _ _).mono ?_
        rintro e w' ⟨rfl, rfl⟩
        rw [HP.out]
        go_wp2
        go_round
        case rel => exact ⟨k + 1, by omega, by go_num, Lk.all_step hlt HA.out HC.out⟩
        case measure => simp [intOf]; omega
      have HP := Lib.hid hp
      cases hi : Lk.inL s[k].toNat marksL
      · have HC : Hid (langOk s[k] = false) := by show _ = _; rw [langOk, hp, ← inL_has, hi]; rfl
        have HI := Lib.hid hi
        clear hp hi
        go_wp2_with fail
        refine (Plain_any _ _).mono ?_
        rintro e w' ⟨rfl, rfl⟩
        rw [HP.out]
        go_wp2_with fail
        refine (In_any _ _ _ (by decide)).mono ?_
        rintro e w' ⟨rfl, rfl⟩
        rw [show Lk.inL (s[k].toNat : Int) (⟨#[32, 42, 44, 45, 46, 59, 61]⟩ : ByteArray).data.toList = false from HI.out]
        go_wp2
        go_ret
        exact ⟨ret_bool (by rw [langsOk, Lk.all_no hlt HC.out]), rfl⟩
      · have HC : Hid (langOk s[k] = true) := by show _ = _; rw [langOk, hp, ← inL_has, hi]; rfl
        have HI := Lib.hid hi
        clear hp hi
        go_wp2_with fail
        refine (Plain_any _ _).mono ?_
        rintro e w' ⟨rfl, rfl⟩
        rw [HP.out]
        go_wp2_with fail
        refine (In_any _ _ _ (by decide)).mono ?_
        rintro e w' ⟨rfl, rfl⟩
        rw [show Lk.inL (s[k].toNat : Int) (⟨#[32, 42, 44, 45, 46, 59, 61]⟩ : ByteArray).data.toList = true from HI.out]
        go_wp2
        go_round
        case rel => exact ⟨k + 1, by omega, by go_num, Lk.all_step hlt HA.out HC.out⟩
        case measure => simp [intOf]; omega
    · go_wp2
      go_ret
      exact ⟨ret_bool (by have := HA.out; rw [Lk.take_all s k (by omega)] at this; rw [langsOk, this]), rfl⟩

/-- where a loop to the first c ends -/
theorem split1_stop {c : UInt8} {l : List UInt8} {k : Nat} (hk : k ≤ l.length) (h1 : ∀ b ∈ l.take k, b ≠ c) (h2 : ∀ h : k < l.length, l[k] = c) : split1 c l = (l.take k, if k < l.length then some (l.drop (k + 1)) else none) := by
  by_cases h : k < l.length
  · rw [if_pos h]
    have e : l = l.take k ++ c :: l.drop (k + 1) := by
      conv => lhs; rw [← List.take_append_drop k l, List.drop_eq_getElem_cons h, h2 h]
    conv => lhs; rw [e]
    exact split1_at c _ _ h1
  · rw [if_neg h]
    rw [List.take_of_length_le (by omega)] at h1 ⊢
    exact split1_none c l h1
theorem stop_step {c : UInt8} {s : ByteArray} {k : Nat} (h : k < s.size) (h1 : ∀ b ∈ s.data.toList.take k, b ≠ c) (h2 : s[k] ≠ c) : ∀ b ∈ s.data.toList.take (k + 1), b ≠ c := by
  rw [Lk.take_snoc s k h]
  intro b hb
  rcases List.mem_append.1 hb with hb | hb
  · exact h1 b hb
  · obtain rfl : b = s[k] := by simpa using hb
    exact h2
end Go.Proofs.YtlkneapidmdpbaaGreatDoor

namespace Go.Proofs.YtlkneapidmdpbaaGreatDoor
open Go.RowKit

theorem ext_take (s : ByteArray) (k : Nat) : (s.extract 0 k).data.toList = s.data.toList.take k := by rw [Lib.extract_eq]; simp
theorem ext_drop (s : ByteArray) (k : Nat) : (s.extract k s.size).data.toList = s.data.toList.drop k := by
  rw [Lib.extract_eq]; simp; exact List.take_of_length_le (by simp)
theorem u8_ne {a : UInt8} {n : Nat} (hn : n < 256) (h : ¬ (a.toNat : Int) = (n : Int)) : a ≠ UInt8.ofNat n := by
  rintro rfl; apply h; rw [UInt8.toNat_ofNat']; omega
theorem u8_is {a : UInt8} {n : Nat} (hn : n < 256) (h : (a.toNat : Int) = (n : Int)) : a = UInt8.ofNat n := by
  apply Lk.u8_eq; rw [h, UInt8.toNat_ofNat']; omega

set_option maxHeartbeats 2000000 in
theorem refEssence_any (v : ByteArray) (w : World) (hs : v.size ≤ maxLen) :
    Calls Tryz.prog 175 #[.string v] w fun e w' => e = .returned (essV v.data.toList) ∧ Below w.heap.size w w' := by
  have hs0 := hs
  unfold maxLen at hs0
  go_enter Tryz.func175, Tryz.ntmps175
  go_wp2
  go_loop [4] (fun i => ∃ k : Nat, k ≤ v.size ∧ i = .int .i64 k ∧ ∀ b ∈ v.data.toList.take k, b ≠ 59) (fun i => v.size - (intOf i).toNat)
  case atStart => exact ⟨0, Nat.zero_le _, rfl, by simp⟩
  case round =>
    obtain ⟨k, hk, rfl, ha⟩ := hrel
    have HA := Lib.hid ha
    clear ha
    by_cases hlt : k < v.size
    · by_cases hc : (v[k].toNat : Int) = 59
      · have HSP : Hid ((split1 59 v.data.toList).1 = v.data.toList.take k) := by
          show _ = _
          rw [split1_stop (by simpa using hk) HA.out (fun _ => u8_is (n := 59) (by decide) hc)]
        obtain ⟨p, hp⟩ : ∃ p, p = v.extract 0 k := ⟨_, rfl⟩
        obtain ⟨t, ht⟩ : ∃ t : ByteArray, t = ⟨(Lk.trimL p.data.toList).toArray⟩ := ⟨_, rfl⟩
        have hpz : p.size ≤ maxLen := by rw [hp]; simp; omega
        have htz : t.size ≤ 9223372036854775807 := by
          have h1 := Lk.trim_len p.data.toList
          unfold maxLen at hpz
          rw [ht]; show (Lk.trimL p.data.toList).toArray.size ≤ _
          simp at h1 ⊢; omega
        have HP := Lib.hid hp
        have HT := Lib.hid ht
        have HE : Hid (essL v.data.toList = typeL t.data.toList) := by
          show _ = _
          unfold essL
          rw [HSP.out, ht, hp, ext_take]
        clear hp ht
        go_wp2_with fail
        rw [← HP.out]
        refine (refTrim_any p _ hpz).mono ?_
        rintro e w' ⟨rfl, rfl⟩
        rw [← HT.out]
        go_wp2
        go_loop [6] (fun i => ∃ j : Nat, j ≤ t.size ∧ i = .int .i64 j ∧ ∀ b ∈ t.data.toList.take j, b ≠ 47) (fun i => t.size - (intOf i).toNat)
        case atStart => exact ⟨0, Nat.zero_le _, rfl, by simp⟩
        case round =>
          obtain ⟨j, hj, rfl, ha⟩ := hrel
          have HAJ := Lib.hid ha
          clear ha
          by_cases hjt : j < t.size
          · by_cases hcj : (t[j].toNat : Int) = 47
            · have HQ : Hid (split1 47 t.data.toList = (t.data.toList.take j, some (t.data.toList.drop (j + 1)))) := by
                show _ = _
                rw [split1_stop (by simpa using hj) HAJ.out (fun _ => u8_is (n := 47) (by decide) hcj), if_pos (by simpa using hjt)]
              obtain ⟨a, ha⟩ : ∃ a, a = t.extract 0 j := ⟨_, rfl⟩
              obtain ⟨b, hb⟩ : ∃ b, b = t.extract (j + 1) t.size := ⟨_, rfl⟩
              have haz : a.size ≤ maxLen := by rw [ha]; unfold maxLen; simp; omega
              have hbz : b.size ≤ maxLen := by rw [hb]; unfold maxLen; simp; omega
              have HTY : Hid (essL v.data.toList = if Lk.tokL a.data.toList && Lk.tokL b.data.toList then some (Lk.lower t.data.toList) else none) := by
                show _ = _
                rw [HE.out, typeL, HQ.out, ha, hb, ext_take, ext_drop]
              have HAX := Lib.hid ha
              have HBX := Lib.hid hb
              clear ha hb
              go_wp2_with fail
              rw [← HAX.out]
              refine (refToken_any a _ haz).mono ?_
              rintro e w' ⟨rfl, rfl⟩
              cases hta : Lk.tokL a.data.toList
              · have HTA := Lib.hid hta
                have HR : Hid (essL v.data.toList = none) := by show _ = _; rw [HTY.out, HTA.out]; rfl
                go_wp2
                go_ret2
                exact ⟨ret_any (essV_no HR.out).symm, Below.refl _ _⟩
              have HTA := Lib.hid hta
              clear hta
              go_wp2_with fail
              rw [← HBX.out]
              refine (refToken_any b _ hbz).mono ?_
              rintro e w' ⟨rfl, rfl⟩
              cases htb : Lk.tokL b.data.toList
              · have HTB := Lib.hid htb
                have HR : Hid (essL v.data.toList = none) := by show _ = _; rw [HTY.out, HTB.out]; simp
                go_wp2
                go_ret2
                exact ⟨ret_any (essV_no HR.out).symm, Below.refl _ _⟩
              have HTB := Lib.hid htb
              clear htb
              have HR : Hid (essL v.data.toList = some (Lk.lower t.data.toList)) := by show _ = _; rw [HTY.out, HTA.out, HTB.out]; rfl
              go_wp2_with fail
              refine (refLower_any t _ (by unfold maxLen; omega)).mono ?_
              rintro e w3 ⟨rfl, hb3⟩
              go_wp2
              go_ret2
              exact ⟨ret_any (essV_yes HR.out).symm, hb3⟩
            · have HN : Hid (t[j] ≠ 47) := u8_ne (n := 47) (by decide) hcj
              go_wp2
              go_round
              case rel => exact ⟨j + 1, by omega, by go_num, stop_step hjt HAJ.out HN.out⟩
              case measure => simp [intOf]; omega
          · have HR : Hid (essL v.data.toList = none) := by
              show _ = _
              rw [HE.out, typeL, split1_stop (by simpa using hj) HAJ.out (fun h => absurd (by simpa using h) hjt), if_neg (by simpa using hjt)]
            obtain rfl : j = t.size := by omega
            go_wp2
            go_ret2
            exact ⟨ret_any (essV_no HR.out).symm, Below.refl _ _⟩
      · have HN : Hid (v[k] ≠ 59) := u8_ne (n := 59) (by decide) hc
        go_wp2
        go_round
        case rel => exact ⟨k + 1, by omega, by go_num, stop_step hlt HA.out HN.out⟩
        case measure => simp [intOf]; omega
    · have HSP : Hid ((split1 59 v.data.toList).1 = v.data.toList.take k) := by
        show _ = _
        rw [split1_stop (by simpa using hk) HA.out (fun h => absurd (by simpa using h) hlt)]
      obtain ⟨p, hp⟩ : ∃ p, p = v.extract 0 k := ⟨_, rfl⟩
      obtain ⟨t, ht⟩ : ∃ t : ByteArray, t = ⟨(Lk.trimL p.data.toList).toArray⟩ := ⟨_, rfl⟩
      have hpz : p.size ≤ maxLen := by rw [hp]; simp; omega
      have htz : t.size ≤ 9223372036854775807 := by
        have h1 := Lk.trim_len p.data.toList
        unfold maxLen at hpz
        rw [ht]; show (Lk.trimL p.data.toList).toArray.size ≤ _
        simp at h1 ⊢; omega
      have HP := Lib.hid hp
      have HT := Lib.hid ht
      have HE : Hid (essL v.data.toList = typeL t.data.toList) := by
        show _ = _
        unfold essL
        rw [HSP.out, ht, hp, ext_take]
      clear hp ht
      go_wp2_with fail
      rw [← HP.out]
      refine (refTrim_any p _ hpz).mono ?_
      rintro e w' ⟨rfl, rfl⟩
      rw [← HT.out]
      go_wp2
      go_loop [6] (fun i => ∃ j : Nat, j ≤ t.size ∧ i = .int .i64 j ∧ ∀ b ∈ t.data.toList.take j, b ≠ 47) (fun i => t.size - (intOf i).toNat)
      case atStart => exact ⟨0, Nat.zero_le _, rfl, by simp⟩
      case round =>
        obtain ⟨j, hj, rfl, ha⟩ := hrel
        have HAJ := Lib.hid ha
        clear ha
        by_cases hjt : j < t.size
        · by_cases hcj : (t[j].toNat : Int) = 47
          · have HQ : Hid (split1 47 t.data.toList = (t.data.toList.take j, some (t.data.toList.drop (j + 1)))) := by
              show _ = _
              rw [split1_stop (by simpa using hj) HAJ.out (fun _ => u8_is (n := 47) (by decide) hcj), if_pos (by simpa using hjt)]
            obtain ⟨a, ha⟩ : ∃ a, a = t.extract 0 j := ⟨_, rfl⟩
            obtain ⟨b, hb⟩ : ∃ b, b = t.extract (j + 1) t.size := ⟨_, rfl⟩
            have haz : a.size ≤ maxLen := by rw [ha]; unfold maxLen; simp; omega
            have hbz : b.size ≤ maxLen := by rw [hb]; unfold maxLen; simp; omega
            have HTY : Hid (essL v.data.toList = if Lk.tokL a.data.toList && Lk.tokL b.data.toList then some (Lk.lower t.data.toList) else none) := by
              show _ = _
              rw [HE.out, typeL, HQ.out, ha, hb, ext_take, ext_drop]
            have HAX := Lib.hid ha
            have HBX := Lib.hid hb
            clear ha hb
            go_wp2_with fail
            rw [← HAX.out]
            refine (refToken_any a _ haz).mono ?_
            rintro e w' ⟨rfl, rfl⟩
            cases hta : Lk.tokL a.data.toList
            · have HTA := Lib.hid hta
              have HR : Hid (essL v.data.toList = none) := by show _ = _; rw [HTY.out, HTA.out]; rfl
              go_wp2
              go_ret2
              exact ⟨ret_any (essV_no HR.out).symm, Below.refl _ _⟩
            have HTA := Lib.hid hta
            clear hta
            go_wp2_with fail
            rw [← HBX.out]
            refine (refToken_any b _ hbz).mono ?_
            rintro e w' ⟨rfl, rfl⟩
            cases htb : Lk.tokL b.data.toList
            · have HTB := Lib.hid htb
              have HR : Hid (essL v.data.toList = none) := by show _ = _; rw [HTY.out, HTB.out]; simp
              go_wp2
              go_ret2
              exact ⟨ret_any (essV_no HR.out).symm, Below.refl _ _⟩
            have HTB := Lib.hid htb
            clear htb
            have HR : Hid (essL v.data.toList = some (Lk.lower t.data.toList)) := by show _ = _; rw [HTY.out, HTA.out, HTB.out]; rfl
            go_wp2_with fail
            refine (refLower_any t _ (by unfold maxLen; omega)).mono ?_
            rintro e w3 ⟨rfl, hb3⟩
            go_wp2
            go_ret2
            exact ⟨ret_any (essV_yes HR.out).symm, hb3⟩
          · have HN : Hid (t[j] ≠ 47) := u8_ne (n := 47) (by decide) hcj
            go_wp2
            go_round
            case rel => exact ⟨j + 1, by omega, by go_num, stop_step hjt HAJ.out HN.out⟩
            case measure => simp [intOf]; omega
        · have HR : Hid (essL v.data.toList = none) := by
            show _ = _
            rw [HE.out, typeL, split1_stop (by simpa using hj) HAJ.out (fun h => absurd (by simpa using h) hjt), if_neg (by simpa using hjt)]
          obtain rfl : j = t.size := by omega
          go_wp2
          go_ret2
          exact ⟨ret_any (essV_no HR.out).symm, Below.refl _ _⟩

set_option maxHeartbeats 2000000 in
theorem refRange_any (v : ByteArray) (w : World) (hs : v.size ≤ maxLen) :
    Calls Tryz.prog 176 #[.string v] w fun e w' => e = .returned (.bool (rangeL v.data.toList)) ∧ w = w' := by
  have hs0 := hs
  unfold maxLen at hs0
  by_cases h6 : v.size < 6
  · have HR : Hid (rangeL v.data.toList = false) := by
      show _ = _
      unfold rangeL
      have : (v.data.toList.take 6 == bytesT) = false := by
        rw [beq_eq_false_iff_ne]
        intro e
        have := congrArg List.length e
        simp [bytesT] at this
        omega
      rw [this]; rfl
    go_enter Tryz.func176, Tryz.ntmps176
    go_wp2
    go_ret
    exact ⟨ret_bool HR.out.symm, rfl⟩
  obtain ⟨u, hu⟩ : ∃ u, u = v.extract 0 6 := ⟨_, rfl⟩
  obtain ⟨t, ht⟩ : ∃ t, t = v.extract 6 v.size := ⟨_, rfl⟩
  have htz : t.size ≤ 9223372036854775807 := by rw [ht]; simp; omega
  have HU := Lib.hid hu
  have HT := Lib.hid ht
  have HUD : Hid (u.toList = v.data.toList.take 6) := by show _ = _; rw [ByteArray.toList_eq, hu, ext_take]
  have HTD : Hid (t.data.toList = v.data.toList.drop 6) := by show _ = _; rw [ht, ext_drop]
  clear hu ht
  cases hq : u.toList == [98, 121, 116, 101, 115, 61]
  · have HR : Hid (rangeL v.data.toList = false) := by
      show _ = _
      unfold rangeL bytesT
      rw [← HUD.out, hq]; rfl
    have hq2 : (u.toList != [98, 121, 116, 101, 115, 61]) = true := by simp only [bne, hq]; rfl
    have HQ2 := Lib.hid hq2
    go_enter Tryz.func176, Tryz.ntmps176
    rw [HU.out] at hq hq2
    go_wp2
    go_ret
    exact ⟨ret_bool HR.out.symm, rfl⟩
  have HR : Hid (rangeL v.data.toList = spanL t.data.toList) := by
    show _ = _
    unfold rangeL bytesT
    rw [← HUD.out, hq, HTD.out]; rfl
  have hq2 : (u.toList != [98, 121, 116, 101, 115, 61]) = false := by simp only [bne, hq]; rfl
  go_enter Tryz.func176, Tryz.ntmps176
  rw [HU.out] at hq hq2
  go_wp2
  rw [← HT.out]
  go_loop [4] (fun i => ∃ j : Nat, j ≤ t.size ∧ i = .int .i64 j ∧ ∀ b ∈ t.data.toList.take j, b ≠ 45) (fun i => t.size - (intOf i).toNat)
  case atStart => exact ⟨0, Nat.zero_le _, rfl, by simp⟩
  case round =>
    obtain ⟨j, hj, rfl, ha⟩ := hrel
    have HAJ := Lib.hid ha
    clear ha
    by_cases hjt : j < t.size
    · by_cases hcj : (t[j].toNat : Int) = 45
      · have HQ : Hid (split1 45 t.data.toList = (t.data.toList.take j, some (t.data.toList.drop (j + 1)))) := by
          show _ = _
          rw [split1_stop (by simpa using hj) HAJ.out (fun _ => u8_is (n := 45) (by decide) hcj), if_pos (by simpa using hjt)]
        obtain ⟨p, hp⟩ : ∃ p, p = t.extract 0 j := ⟨_, rfl⟩
        obtain ⟨q, hqx⟩ : ∃ q, q = t.extract (j + 1) t.size := ⟨_, rfl⟩
        have hpz : p.size ≤ maxLen := by rw [hp]; unfold maxLen; simp; omega
        have hqz : q.size ≤ maxLen := by rw [hqx]; unfold maxLen; simp; omega
        have HE : Hid (rangeL v.data.toList = (Lk.digL p.data.toList && (q.data.toList.isEmpty || (Lk.digL q.data.toList && decide (Lk.sat (Lk.valL p.data.toList) ≤ Lk.sat (Lk.valL q.data.toList)))))) := by
          show _ = _
          rw [HR.out, spanL, HQ.out, hp, hqx, ext_take, ext_drop]
        have HQL : Hid (q.data.toList.length = t.size - (j + 1)) := by show _ = _; rw [hqx, ext_drop]; simp
        have HPX := Lib.hid hp
        have HQX := Lib.hid hqx
        clear hp hqx
        cases hdp : Lk.digL p.data.toList
        · have HDP := Lib.hid (digRes_f hdp)
          have HX : Hid (rangeL v.data.toList = false) := by show _ = _; rw [HE.out, hdp]; rfl
          clear hdp
          go_wp2_with fail
          rw [← HPX.out]
          refine (refDigits_any p _ hpz).mono ?_
          rintro e w' ⟨rfl, rfl⟩
          rw [HDP.out]
          go_wp2
          go_ret
          exact ⟨ret_bool HX.out.symm, rfl⟩
        have HDP := Lib.hid (digRes_t hdp)
        have HY : Hid (rangeL v.data.toList = (q.data.toList.isEmpty || (Lk.digL q.data.toList && decide (Lk.sat (Lk.valL p.data.toList) ≤ Lk.sat (Lk.valL q.data.toList))))) := by show _ = _; rw [HE.out, hdp]; rfl
        clear hdp
        have hpb := Lk.sat_le (Lk.valL p.data.toList)
        have hqb := Lk.sat_le (Lk.valL q.data.toList)
        generalize Lk.sat (Lk.valL p.data.toList) = P at *
        unfold Lk.M64 at hpb hqb
        go_wp2_with fail
        rw [← HPX.out]
        refine (refDigits_any p _ hpz).mono ?_
        rintro e w' ⟨rfl, rfl⟩
        rw [HDP.out]
        by_cases hend : j + 1 = t.size
        · have HX : Hid (rangeL v.data.toList = true) := by
            show _ = _
            have h0 : q.data.toList = [] := List.length_eq_zero_iff.1 (by rw [HQL.out]; omega)
            rw [HY.out, h0]; rfl
          have hend2 : (j : Int) + 1 = (t.size : Int) := by omega
          go_wp2
          go_ret
          exact ⟨ret_bool HX.out.symm, rfl⟩
        have hend2 : ¬ (j : Int) + 1 = (t.size : Int) := by omega
        have HNE : Hid (q.data.toList.isEmpty = false) := by
          show _ = _
          cases hh : q.data.toList with
          | nil => have := HQL.out; rw [hh] at this; simp at this; omega
          | cons x r => rfl
        cases hdq : Lk.digL q.data.toList
        · have HDQ := Lib.hid (digRes_f hdq)
          have HX : Hid (rangeL v.data.toList = false) := by show _ = _; rw [HY.out, HNE.out, hdq]; rfl
          clear hdq
          go_wp2_with fail
          rw [← HQX.out]
          refine (refDigits_any q _ hqz).mono ?_
          rintro e w' ⟨rfl, rfl⟩
          rw [HDQ.out]
          go_wp2
          go_ret
          exact ⟨ret_bool HX.out.symm, rfl⟩
        have HDQ := Lib.hid (digRes_t hdq)
        have HX : Hid (rangeL v.data.toList = decide (P ≤ Lk.sat (Lk.valL q.data.toList))) := by show _ = _; rw [HY.out, HNE.out, hdq]; rfl
        clear hdq
        generalize Lk.sat (Lk.valL q.data.toList) = Q at *
        go_wp2_with fail
        rw [← HQX.out]
        refine (refDigits_any q _ hqz).mono ?_
        rintro e w' ⟨rfl, rfl⟩
        rw [HDQ.out]
        by_cases hpq : P ≤ Q
        · have hpq' : (P : Int) ≤ (Q : Int) := by omega
          go_wp2
          go_ret
          exact ⟨ret_bool (by rw [HX.out, decide_eq_true hpq]), rfl⟩
        · have hpq' : ¬ (P : Int) ≤ (Q : Int) := by omega
          go_wp2
          go_ret
          exact ⟨ret_bool (by rw [HX.out, decide_eq_false hpq]), rfl⟩
      · have HN : Hid (t[j] ≠ 45) := u8_ne (n := 45) (by decide) hcj
        go_wp2
        go_round
        case rel => exact ⟨j + 1, by omega, by go_num, stop_step hjt HAJ.out HN.out⟩
        case measure => simp [intOf]; omega
    · have HX : Hid (rangeL v.data.toList = false) := by
        show _ = _
        rw [HR.out, spanL, split1_stop (by simpa using hj) HAJ.out (fun h => absurd (by simpa using h) hjt), if_neg (by simpa using hjt)]
      obtain rfl : j = t.size := by omega
      go_wp2
      go_ret
      exact ⟨ret_bool HX.out.symm, rfl⟩
end Go.Proofs.YtlkneapidmdpbaaGreatDoor

namespace Go.Proofs.YtlkneapidmdpbaaGreatDoor
open Go.RowKit

/-- two cells side by side -/
def PairAt (W : World) (p q : Addr) (x1 x2 : ByteArray) : Prop := W.cell? p = some (.string x1) ∧ W.cell? q = some (.string x2)

set_option maxHeartbeats 2000000 in
theorem refHeader_any (x1 x2 : ByteArray) (w : World) (h1 : x1.size ≤ maxLen) (h2 : x2.size ≤ maxLen) :
    Calls Tryz.prog 142 #[.agg #[.string x1, .string x2]] w fun e w' => e = .returned (.bool (safeH (hd (x1, x2)))) ∧ Below w.heap.size w w' := by
  obtain ⟨t, ht⟩ : ∃ t : ByteArray, t = ⟨(Lk.trimL x2.data.toList).toArray⟩ := ⟨_, rfl⟩
  obtain ⟨a, ha⟩ : ∃ a : ByteArray, a = ⟨(Lk.lower x1.data.toList).toArray⟩ := ⟨_, rfl⟩
  have htz : t.size = (Lk.trimL x2.data.toList).length := by rw [ht]; show (Lk.trimL x2.data.toList).toArray.size = _; simp
  have htm : t.size ≤ maxLen := by have := Lk.trim_len x2.data.toList; simp at this; omega
  have HTD : Hid (Lk.trimL x2.data.toList = t.data.toList) := by show _ = _; rw [ht]
  have HAD : Hid (Lk.lower x1.data.toList = a.data.toList) := by show _ = _; rw [ha]
  have HT := Lib.hid ht
  have HA := Lib.hid ha
  clear ha
  by_cases h128 : 128 < t.size
  · have HE : Hid (safeH (hd (x1, x2)) = false) := safe_long (h := hd (x1, x2)) (by show 128 < (Lk.trimL x2.data.toList).length; omega)
    clear htz ht
    go_enter Tryz.func142, Tryz.ntmps142
    go_wp2_with fail
    refine (refTrim_any x2 _ h2).mono ?_
    rintro e w1 ⟨rfl, hw⟩
    rw [← HT.out]
    have HB : Hid (Below w.heap.size w w1) := by rw [← hw]; exact (Below.refl _ _).alloc (Nat.le_refl _) _
    clear hw
    go_wp2
    go_ret
    exact ⟨ret_bool HE.out.symm, HB.out⟩
  have HE : Hid (safeH (hd (x1, x2)) = kindOk a.data.toList t.data.toList) := by
    show _ = _
    rw [safe_short (h := hd (x1, x2)) (by show ¬ 128 < (Lk.trimL x2.data.toList).length; omega), ← HTD.out, ← HAD.out]; rfl
  clear htz ht
  have HK := Lib.hid (kind_eq a t.data.toList)
  unfold acceptT alangT clangT ctypeT rangeT at HK
  go_enter Tryz.func142, Tryz.ntmps142
  go_wp2_with fail
  refine (refTrim_any x2 _ h2).mono ?_
  rintro e w1 ⟨rfl, hw⟩
  rw [← HT.out]
  have c1 : w1.cell? ⟨w.heap.size, 0, none⟩ = some (.string x1) := by rw [← hw]; simp
  have HB : Hid (Below w.heap.size w w1) := by rw [← hw]; exact (Below.refl _ _).alloc (Nat.le_refl _) _
  clear hw
  go_wp2_with fail
  refine (refLower_any x1 _ h1).mono ?_
  rintro e w2 ⟨rfl, hb2⟩
  rw [← HA.out]
  have HB2 : Hid (Below w.heap.size w w2) := HB.out.trans (hb2.mono HB.out.size)
  clear hb2 c1
  cases q1 : a.toList == [97, 99, 99, 101, 112, 116]
  case true =>
    have Q1 := Lib.hid q1
    go_wp2_with fail
    refine (eachB_any t _ htm).mono ?_
    rintro e w' ⟨rfl, rfl⟩
    go_wp2
    go_ret
    exact ⟨ret_bool (by rw [HE.out, HK.out, Q1.out]; rfl), HB2.out⟩
  have Q1 := Lib.hid q1
  cases q2 : a.toList == [97, 99, 99, 101, 112, 116, 45, 108, 97, 110, 103, 117, 97, 103, 101]
  case true =>
    have Q2 := Lib.hid q2
    go_wp2_with fail
    refine (eachL_any t _ htm).mono ?_
    rintro e w' ⟨rfl, rfl⟩
    go_wp2
    go_ret
    exact ⟨ret_bool (by rw [HE.out, HK.out, Q1.out, Q2.out]; rfl), HB2.out⟩
  have Q2 := Lib.hid q2
  cases q3 : a.toList == [99, 111, 110, 116, 101, 110, 116, 45, 108, 97, 110, 103, 117, 97, 103, 101]
  case true =>
    have Q3 := Lib.hid q3
    go_wp2_with fail
    refine (eachL_any t _ htm).mono ?_
    rintro e w' ⟨rfl, rfl⟩
    go_wp2
    go_ret
    exact ⟨ret_bool (by rw [HE.out, HK.out, Q1.out, Q2.out, Q3.out]; rfl), HB2.out⟩
  have Q3 := Lib.hid q3
  cases q4 : a.toList == [99, 111, 110, 116, 101, 110, 116, 45, 116, 121, 112, 101]
  case true =>
    have Q4 := Lib.hid q4
    have HF := Lib.hid (form_cases t.data.toList)
    obtain ⟨y, hy⟩ : ∃ y : ByteArray, y = mk (essT t.data.toList) := ⟨_, rfl⟩
    rw [← hy] at HF
    have HEV : Hid (essV t.data.toList = .tuple #[.string y, .bool (essL t.data.toList).isSome]) := by show _ = _; rw [hy]; rfl
    clear hy
    unfold formT1 formT2 formT3 at HF
    go_wp2_with fail
    refine (refEssence_any t _ htm).mono ?_
    rintro e w3 ⟨rfl, hb3⟩
    rw [HEV.out]
    have HB3 : Hid (Below w.heap.size w w3) := HB2.out.trans (hb3.mono HB2.out.size)
    clear hb3
    go_wp2_with fail
    refine (eachB_any t _ htm).mono ?_
    rintro e w' ⟨rfl, rfl⟩
    cases hall : bytesOk t.data.toList
    · have HALL := Lib.hid hall
      go_wp2
      go_ret
      exact ⟨ret_bool (by rw [HE.out, HK.out, Q1.out, Q2.out, Q3.out, Q4.out, HALL.out]; rfl), HB3.out⟩
    have HALL := Lib.hid hall
    have HX : Hid (safeH (hd (x1, x2)) = formL t.data.toList) := by show _ = _; rw [HE.out, HK.out, Q1.out, Q2.out, Q3.out, Q4.out, HALL.out]; rfl
    cases f1 : y.toList == [97, 112, 112, 108, 105, 99, 97, 116, 105, 111, 110, 47, 120, 45, 119, 119, 119, 45, 102, 111, 114, 109, 45, 117, 114, 108, 101, 110, 99, 111, 100, 101, 100]
    case true =>
      have F1 := Lib.hid f1
      go_wp2
      go_ret
      exact ⟨ret_bool (by rw [HX.out, HF.out, F1.out]; rfl), HB3.out⟩
    have F1 := Lib.hid f1
    cases f2 : y.toList == [109, 117, 108, 116, 105, 112, 97, 114, 116, 47, 102, 111, 114, 109, 45, 100, 97, 116, 97]
    case true =>
      have F2 := Lib.hid f2
      go_wp2
      go_ret
      exact ⟨ret_bool (by rw [HX.out, HF.out, F1.out, F2.out]; rfl), HB3.out⟩
    have F2 := Lib.hid f2
    cases f3 : y.toList == [116, 101, 120, 116, 47, 112, 108, 97, 105, 110]
    · have F3 := Lib.hid f3
      go_wp2
      go_ret
      exact ⟨ret_bool (by rw [HX.out, HF.out, F1.out, F2.out, F3.out]; rfl), HB3.out⟩
    · have F3 := Lib.hid f3
      go_wp2
      go_ret
      exact ⟨ret_bool (by rw [HX.out, HF.out, F1.out, F2.out, F3.out]; rfl), HB3.out⟩
  have Q4 := Lib.hid q4
  cases q5 : a.toList == [114, 97, 110, 103, 101]
  case true =>
    have Q5 := Lib.hid q5
    go_wp2_with fail
    refine (refRange_any t _ htm).mono ?_
    rintro e w' ⟨rfl, rfl⟩
    go_wp2
    go_ret
    exact ⟨ret_bool (by rw [HE.out, HK.out, Q1.out, Q2.out, Q3.out, Q4.out, Q5.out]; rfl), HB2.out⟩
  have Q5 := Lib.hid q5
  go_wp2
  go_ret
  exact ⟨ret_bool (by rw [HE.out, HK.out, Q1.out, Q2.out, Q3.out, Q4.out, Q5.out]; rfl), HB2.out⟩

set_option maxRecDepth 100000 in
set_option maxHeartbeats 4000000 in
theorem refNames7_any (A : Option Addr) (len c B : Nat) (xs : List (ByteArray × ByteArray)) (w : World) (hlen : len = xs.length) (hB : B ≤ w.heap.size) (hx : PRow w B A xs) (hsm : Sm (xs.map hd)) :
    Calls Tryz.prog 98 #[.slice A len c] w fun e w' => ∃ v, e = .returned v ∧ sown w' w.heap.size v (safeNames (xs.map hd)) ∧ Below w.heap.size w w' := by
  subst hlen
  obtain ⟨hl, hs⟩ := hsm.sizes
  have HX := Lib.hid hx
  have HS := Lib.hid hs
  clear hx hs hsm
  go_enter Tryz.func98, Tryz.ntmps98
  go_wp2_with fail
  go_loopw [3, 4, 5, 6] (fun u v n i wr => ∃ (k : Nat) (dl : List Hd), k ≤ xs.length ∧ i = .int .i64 k ∧ n = .int .i64 (safeSum dl : Int) ∧ dl = (xs.take k).map hd ∧ Two wr w.heap.size v u (lowsL dl) (askedL dl) ∧ Below w.heap.size w wr) (fun _ _ _ i _ => xs.length - (intOf i).toNat)
  case atStart => exact ⟨0, [], Nat.zero_le _, rfl, rfl, rfl, Two.none_ _ _, Below.refl _ _⟩
  case round =>
    obtain ⟨k, dl, hk, rfl, rfl, hdl, hr, hb⟩ := hrel
    have hdk : dl.length = k := by rw [hdl]; simp; omega
    have hsk : safeSum dl ≤ 128 * k := by have := sum_bd dl; rw [hdk] at this; exact this
    have HLL : Hid ((lowsL dl).length = k) := by show _ = _; rw [lows_len, hdk]
    have HAL : Hid ((askedL dl).length ≤ k) := by show _ ≤ _; have := asked_len dl; omega
    have HDL := Lib.hid hdl
    have HRR := Lib.hid hr
    have HBB := Lib.hid hb
    clear hr hb hdl hdk
    by_cases hlt : k < xs.length
    · obtain ⟨ad, hA, _, hc1, hc2⟩ := ((HX.out.mono hB).below HBB.out) k xs[k] (List.getElem?_eq_getElem hlt)
      have hz := HS.out xs[k] (List.getElem_mem hlt)
      have HD := Lib.hid (take_hd (List.take_succ_eq_append_getElem hlt))
      have HXC : Hid (∀ W, Below w.heap.size w W → PairAt W (ad.add (k * 2)) ⟨(ad.add (k * 2)).block, (ad.add (k * 2)).off + 1, none⟩ xs[k].1 xs[k].2) := by
        intro W hW
        obtain ⟨ad', hA', _, h1, h2⟩ := ((HX.out.mono hB).below hW) k xs[k] (List.getElem?_eq_getElem hlt)
        rw [hA] at hA'
        obtain rfl : ad = ad' := by simpa using hA'
        exact ⟨h1, h2⟩
      generalize xs[k] = x at *
      obtain ⟨x1, x2⟩ := x
      subst hA
      obtain ⟨a, ha⟩ : ∃ a : ByteArray, a = ⟨(Lk.lower x1.data.toList).toArray⟩ := ⟨_, rfl⟩
      have HLA := Lib.hid ha
      have HAD : Hid (a.data.toList = Lk.lower (hd (x1, x2)).1) := by show _ = _; rw [ha]; rfl
      obtain ⟨t, ht⟩ : ∃ t : ByteArray, t = ⟨(Lk.trimL x2.data.toList).toArray⟩ := ⟨_, rfl⟩
      have HTA := Lib.hid ht
      have HTZ : Hid (t.size = (Lk.trimL (hd (x1, x2)).2).length) := by show _ = _; rw [ht]; show (Lk.trimL x2.data.toList).toArray.size = _; simp [hd]
      have htz : t.size ≤ 100000 := by
        have h1 := HTZ.out
        have h2 := Lk.trim_len x2.data.toList
        have h3 := hz.2
        simp [hd] at h1 h2 h3; omega
      clear ha ht
      go_wp2_with fail
      refine (refLower_any x1 _ (by unfold maxLen; omega)).mono ?_
      rintro e w3 ⟨rfl, hb3⟩
      rw [← HLA.out]
      have HR3 : Hid (Two w3 w.heap.size u4 u3 (lowsL dl) (askedL dl)) := HRR.out.below hb3
      have HB3 : Hid (Below w.heap.size w w3) := HBB.out.trans (hb3.mono HBB.out.size)
      clear hb3 hc1 hc2
      go_wp2_with (at_builtin; refine wpList_append_beside rfl (.tmp 20) (.tmp 22) rfl w.heap.size u4 u3 (lowsL dl) (askedL dl) rfl (HR3.out.below ((Below.refl _ _).alloc (Nat.le_refl _) _)) ⟨w3.heap.size, 0, none⟩ a rfl ?c1 ?c2 w (HB3.out.alloc HB3.out.size _) ?c3 ?_)
      case c1 => simp
      case c2 => have := HLL.out; omega
      case c3 => have := HB3.out.size; simp; omega
      intro v3 w4 hr4 hb4 _
      have HR4 := Lib.hid hr4
      have HB4 := Lib.hid hb4
      obtain ⟨e1, e2⟩ := HXC.out w4 hb4
      clear hr4 hb4
      go_wp2_with fail
      refine (refHeader_any x1 x2 _ (by unfold maxLen; omega) (by unfold maxLen; omega)).mono ?_
      rintro e w5 ⟨rfl, hb5⟩
      have HR5 : Hid (Two w5 w.heap.size v3 u3 (lowsL dl ++ [a.data.toList]) (askedL dl)) := HR4.out.below hb5
      have HB5 : Hid (Below w.heap.size w w5) := HB4.out.trans (hb5.mono HB4.out.size)
      clear hb5 e1 e2
      have HL6 : Hid (lowsL (dl ++ [hd (x1, x2)]) = lowsL dl ++ [a.data.toList]) := by show _ = _; rw [lows_append, lows_one, HAD.out]
      cases hsf : safeH (hd (x1, x2))
      · have HA6 : Hid (askedL (dl ++ [hd (x1, x2)]) = askedL dl ++ [a.data.toList]) := by show _ = _; rw [asked_append, asked_no hsf, HAD.out]
        have HS6 : Hid (safeSum (dl ++ [hd (x1, x2)]) = safeSum dl) := by show _ = _; rw [sum_append, sum_no hsf, Nat.add_zero]
        clear hsf
        go_wp2_with (at_builtin; refine wpList_append_beside rfl (.tmp 30) (.tmp 32) rfl w.heap.size u3 v3 (askedL dl) (lowsL dl ++ [a.data.toList]) rfl (HR5.out.symm.below ((Below.refl _ _).alloc (Nat.le_refl _) _)) ⟨w5.heap.size, 0, none⟩ a rfl ?d1 ?d2 w (HB5.out.alloc HB5.out.size _) ?d3 ?_)
        case d1 => simp
        case d2 => have := HAL.out; omega
        case d3 => have := HB5.out.size; simp; omega
        intro v6 w6 hr6 hb6 _
        have HR6 := Lib.hid hr6.symm
        have HB6 := Lib.hid hb6
        clear hr6 hb6
        go_wp2
        go_roundw
        case rel => exact ⟨k + 1, dl ++ [hd (x1, x2)], by omega, by go_num, by rw [HS6.out], by rw [HD.out, HDL.out], by rw [HL6.out, HA6.out]; exact HR6.out, HB6.out⟩
        case measure => simp [intOf]; omega
      · have HA6 : Hid (askedL (dl ++ [hd (x1, x2)]) = askedL dl) := by show _ = _; rw [asked_append, asked_yes hsf, List.append_nil]
        have HS6 : Hid (safeSum (dl ++ [hd (x1, x2)]) = safeSum dl + t.size) := by show _ = _; rw [sum_append, sum_yes hsf, HTZ.out]
        clear hsf
        obtain ⟨e1, e2⟩ := HXC.out w5 HB5.out
        go_wp2_with fail
        refine (refTrim_any x2 _ (by unfold maxLen; omega)).mono ?_
        rintro e w' ⟨rfl, rfl⟩
        rw [← HTA.out]
        go_wp2
        go_roundw
        case rel => exact ⟨k + 1, dl ++ [hd (x1, x2)], by omega, by go_num, by rw [HS6.out]; go_num, by rw [HD.out, HDL.out], by rw [HL6.out, HA6.out]; exact HR5.out, HB5.out⟩
        case measure => simp [intOf]; omega
    · obtain rfl : k = xs.length := by omega
      have HE : Hid (dl = xs.map hd) := by show _ = _; rw [HDL.out, List.take_length]
      have hde := HE.out
      subst hde
      obtain ⟨sm, hsm⟩ : ∃ sm, sm = safeSum (xs.map hd) := ⟨_, rfl⟩
      rw [← hsm] at hsk ⊢
      have HSM := Lib.hid hsm
      clear hsm
      by_cases hsum : 1024 < sm
      · have hsum2 : (1024 : Int) < (sm : Int) := by omega
        have HNM : Hid (risL (lowsL (xs.map hd)) = safeNames (xs.map hd)) := by show _ = _; rw [safe_many (by rw [← HSM.out]; exact hsum)]; rfl
        have h4 := HRR.out.1
        obtain ⟨A2, c2, e2, hc2, hsr⟩ := trow_of h4
        have HSR := Lib.hid hsr
        clear hsr h4
        subst e2
        go_wp2_with fail
        refine (refRising_any A2 _ c2 wr.heap.size ((lowsL (xs.map hd)).map mk) _ (by simp) (Nat.le_refl _) HSR.out (by have h1 := HLL.out; have h2 := HAL.out; simp at h1 h2 ⊢; omega)).mono ?_
        rintro e w2 ⟨v, rfl, hr2, hb2⟩
        rw [dat_mk, HNM.out] at hr2
        have HR2 : Hid (sown w2 w.heap.size v (safeNames (xs.map hd))) := ownsRow_base hr2 HBB.out.size
        have HB2 : Hid (Below w.heap.size w w2) := HBB.out.trans (hb2.mono HBB.out.size)
        clear hr2 hb2
        go_wp2
        go_ret
        exact ⟨_, rfl, HR2.out, HB2.out⟩
      · have hsum2 : ¬ (1024 : Int) < (sm : Int) := by omega
        have HNM : Hid (risL (askedL (xs.map hd)) = safeNames (xs.map hd)) := by show _ = _; rw [safe_few (by rw [← HSM.out]; exact hsum)]
        have h4 := HRR.out.2.1
        obtain ⟨A2, c2, e2, hc2, hsr⟩ := trow_of h4
        have HSR := Lib.hid hsr
        clear hsr h4
        subst e2
        go_wp2_with fail
        refine (refRising_any A2 _ c2 wr.heap.size ((askedL (xs.map hd)).map mk) _ (by simp) (Nat.le_refl _) HSR.out (by have h1 := HLL.out; have h2 := HAL.out; simp at h1 h2 ⊢; omega)).mono ?_
        rintro e w2 ⟨v, rfl, hr2, hb2⟩
        rw [dat_mk, HNM.out] at hr2
        have HR2 : Hid (sown w2 w.heap.size v (safeNames (xs.map hd))) := ownsRow_base hr2 HBB.out.size
        have HB2 : Hid (Below w.heap.size w w2) := HBB.out.trans (hb2.mono HBB.out.size)
        clear hr2 hb2
        go_wp2
        go_ret
        exact ⟨_, rfl, HR2.out, HB2.out⟩
end Go.Proofs.YtlkneapidmdpbaaGreatDoor
