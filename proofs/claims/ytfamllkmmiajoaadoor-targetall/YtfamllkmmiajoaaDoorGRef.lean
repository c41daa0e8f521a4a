/-
  Contracts of the document's own answer of layer 3, the smaller ones: host, Check, Behind; and Count of layer 1. Conditions: the texts' sizes are such as any text's.
-/
import Derived.Test.YtfamllkmmiajoaaDoorGKey
import Derived.Test.YtfamllkmmiajoaaDoorORef2
import Derived.Test.YtfamllkmmiajoaaDoorONum
namespace Go.Proofs.YtfamllkmmiajoaaDoor
open Go.RowKit

theorem seg_snoc (l : List UInt8) (f k : Nat) (hf : f ≤ k) (hk : k < l.length) : (l.drop f).take (k + 1 - f) = (l.drop f).take (k - f) ++ [l[k]] := by
  have h : k - f < (l.drop f).length := by simp; omega
  rw [show k + 1 - f = (k - f) + 1 by omega, List.take_succ_eq_append_getElem h]
  congr 2
  simp only [List.getElem_drop]
  congr 1
  omega
theorem seg_all (l : List UInt8) (f : Nat) : (l.drop f).take (l.length - f) = l.drop f := List.take_of_length_le (by simp)
theorem seg_split (l : List UInt8) (f k : Nat) (hf : f ≤ k) (hk : k < l.length) : l.drop f = (l.drop f).take (k - f) ++ l[k] :: l.drop (k + 1) := by
  conv => lhs; rw [← List.take_append_drop (k - f) (l.drop f)]
  congr 1
  rw [List.drop_drop, show f + (k - f) = k by omega]
  exact List.drop_eq_getElem_cons hk
theorem labels_bad {l : List UInt8} {f k : Nat} (hf : f ≤ k) (hk : k < l.length) (h46 : l[k] ≠ 46) (hb : hostB l[k].toNat = false) : (parts 46 (l.drop f)).all labelL = false := by
  obtain ⟨q, hq, hm⟩ := parts_mem 46 (l.drop f) l[k] (by rw [seg_split l f k hf hk]; exact List.mem_append.2 (.inr (List.mem_cons_self ..))) h46
  cases h : (parts 46 (l.drop f)).all labelL
  · rfl
  · rw [List.all_eq_true] at h
    have := h q hq
    unfold labelL at this
    simp only [Bool.and_eq_true, List.all_eq_true] at this
    rw [this.1.1.2 _ hm] at hb
    cases hb
theorem some45 (c : UInt8) : ((some c : Option UInt8) != some 45) = ((c.toNat : Int) != 45) := by
  rw [Bool.eq_iff_iff, bne_iff_ne, bne_iff_ne]
  constructor
  · intro h e; exact h (congrArg some (UInt8.toNat_inj.1 (by simpa using (by omega : c.toNat = 45))))
  · intro h e; injection e with e; subst e; exact h rfl
theorem seg_label (s : ByteArray) (f k : Nat) (hf : f < k) (hk : k ≤ s.size) (h1 : f < s.size) (h2 : k - 1 < s.size)
    (hall : ∀ b ∈ (s.data.toList.drop f).take (k - f), b ≠ 46 ∧ hostB b.toNat = true) :
    labelL ((s.data.toList.drop f).take (k - f)) = (decide ((k : Int) - f ≤ 63) && ((s[f].toNat : Int) != 45) && ((s[k - 1].toNat : Int) != 45)) := by
  have hl : s.data.toList.length = s.size := by simp
  have hlen : ((s.data.toList.drop f).take (k - f)).length = k - f := by simp; omega
  have ha : ((s.data.toList.drop f).take (k - f)).all (fun b => hostB b.toNat) = true := by
    rw [List.all_eq_true]; exact fun b hb => (hall b hb).2
  have e0 : ((s.data.toList.drop f).take (k - f)).head? = some s[f] := by
    rw [List.head?_take, if_neg (by omega), List.head?_drop, List.getElem?_eq_getElem (by omega)]; rfl
  have e1 : ((s.data.toList.drop f).take (k - f)).getLast? = some s[k - 1] := by
    rw [List.getLast?_take, if_neg (by omega), List.getElem?_drop, show f + (k - f - 1) = k - 1 by omega, List.getElem?_eq_getElem (by omega)]; rfl
  have d1 : decide (1 ≤ k - f) = true := by simp; omega
  have d2 : decide (k - f ≤ 63) = decide ((k : Int) - f ≤ 63) := by rw [Bool.eq_iff_iff, decide_eq_true_eq, decide_eq_true_eq]; omega
  unfold labelL
  rw [hlen, ha, e0, e1, some45, some45, d1, d2, Bool.true_and, Bool.and_true]

theorem byte_cases (c : Int) : (c = 45 ∨ (97 ≤ c ∧ c ≤ 122) ∨ (48 ≤ c ∧ c ≤ 57)) ∨ ((c < 48 ∧ c ≠ 45) ∨ (57 < c ∧ c < 97) ∨ 122 < c) := by omega
theorem hostB_t {c : Int} (h : c = 45 ∨ (97 ≤ c ∧ c ≤ 122) ∨ (48 ≤ c ∧ c ≤ 57)) : hostB c = true := by
  unfold hostB Lk.smB Lk.digB
  simp; omega
theorem hostB_f {c : Int} (h : (c < 48 ∧ c ≠ 45) ∨ (57 < c ∧ c < 97) ∨ 122 < c) : hostB c = false := by
  cases e : hostB c
  · rfl
  · unfold hostB Lk.smB Lk.digB at e
    simp at e; omega

/-- where the reference's look at a host stands -/
def HostAt (l : List UInt8) (f k : Nat) : Prop :=
  (k ≤ l.length → f ≤ k ∧ (∀ b ∈ (l.drop f).take (k - f), b ≠ 46 ∧ hostB b.toNat = true) ∧ (parts 46 l).all labelL = (parts 46 (l.drop f)).all labelL) ∧ (l.length < k → (parts 46 l).all labelL = true)

set_option maxHeartbeats 4000000 in
theorem refHost_any (s : ByteArray) (w : World) (hs : s.size ≤ maxLen) :
    Calls Tryd.prog 61 #[.string s] w fun e w' => e = .returned (.bool (hostL s.data.toList)) ∧ w = w' := by
  unfold maxLen at hs
  have hl : s.data.toList.length = s.size := by simp
  by_cases h253 : 253 < s.size
  · have HF : Hid (hostL s.data.toList = false) := by
      show _ = _
      have : decide (s.data.toList.length ≤ 253) = false := by rw [hl]; simp; omega
      rw [hostL, this]; rfl
    go_enter Tryd.func61, Tryd.ntmps61
    go_wp2
    go_ret
    exact ⟨ret_bool HF.out.symm, rfl⟩
  have HT : Hid (hostL s.data.toList = (parts 46 s.data.toList).all labelL) := by
    show _ = _
    have : decide (s.data.toList.length ≤ 253) = true := by rw [hl]; simp; omega
    rw [hostL, this]; rfl
  have HL := Lib.hid hl
  clear hl
  go_enter Tryd.func61, Tryd.ntmps61
  go_wp2
  go_loop [3, 4, 5] (fun fr i _ => ∃ k f : Nat, k ≤ s.size + 1 ∧ f ≤ s.size + 1 ∧ i = .int .i64 k ∧ fr = .int .i64 f ∧ HostAt s.data.toList f k) (fun _ i _ => s.size + 1 - (intOf i).toNat)
  case atStart => exact ⟨0, 0, Nat.zero_le _, Nat.zero_le _, rfl, rfl, fun _ => ⟨Nat.le_refl _, by simp, rfl⟩, fun h => by omega⟩
  case round =>
    obtain ⟨k, f, hk, hf, rfl, rfl, ha⟩ := hrel
    have HA := Lib.hid ha
    clear ha
    by_cases hend : s.size < k
    · go_wp2
      go_ret
      exact ⟨ret_bool (by rw [HT.out]; exact (HA.out.2 (by rw [HL.out]; exact hend)).symm), rfl⟩
    obtain ⟨hfk, hall, heq⟩ := HA.out.1 (by rw [HL.out]; omega)
    have HALL := Lib.hid hall
    have HEQ := Lib.hid heq
    clear hall heq HA
    by_cases hin : ∃ h : k < s.size, ((s[k].toNat : Int) != 46) = true
    · obtain ⟨hlt, hne⟩ := hin
      have hk2 : k < s.data.toList.length := by rw [HL.out]; exact hlt
      have H46 : Hid (s.data.toList[k] ≠ 46) := by
        intro e
        have : s[k] = 46 := e
        rw [this] at hne
        exact absurd hne (by decide)
      rcases byte_cases ((s[k]'hlt).toNat : Int) with hb | hb
      · have HB : Hid (hostB s.data.toList[k].toNat = true) := hostB_t hb
        have HN : Hid (HostAt s.data.toList f (k + 1)) := by
          refine ⟨fun _ => ⟨by omega, ?_, HEQ.out⟩, fun h => by have := HL.out; omega⟩
          rw [seg_snoc _ _ _ hfk hk2]
          intro b hbm
          rcases List.mem_append.1 hbm with h | h
          · exact HALL.out b h
          · obtain rfl : b = s.data.toList[k] := by simpa using h
            exact ⟨H46.out, HB.out⟩
        clear H46 HB hk2
        rcases hb with hb | ⟨hb1, hb2⟩ | ⟨hb1, hb2⟩
        all_goals
          go_wp2
          go_round
          case rel => exact ⟨k + 1, f, by omega, by omega, by go_num, rfl, HN.out⟩
          case measure => simp [intOf]; omega
      · have HB : Hid ((parts 46 s.data.toList).all labelL = false) := by
          show _ = _
          rw [HEQ.out]
          exact labels_bad hfk hk2 H46.out (hostB_f hb)
        clear H46 hk2
        have hb2 : ((s[k].toNat : Int) != 45) = true := by rw [bne_iff_ne]; omega
        rcases hb with ⟨hb1, _⟩ | ⟨hb1, hb3⟩ | hb1
        all_goals
          go_wp2
          all_goals first
            | (go_ret; exact ⟨ret_bool (by rw [HT.out]; exact HB.out.symm), rfl⟩)
            | (exfalso; simp_all; omega)
    · have HG : Hid ((parts 46 s.data.toList).all labelL = (labelL ((s.data.toList.drop f).take (k - f)) && (if k < s.size then (parts 46 (s.data.toList.drop (k + 1))).all labelL else true))) := by
        show _ = _
        rw [HEQ.out]
        by_cases hlt : k < s.size
        · have hk2 : k < s.data.toList.length := by rw [HL.out]; exact hlt
          have h46 : s.data.toList[k] = 46 := by
            have : ¬ ((s[k].toNat : Int) != 46) = true := fun h => hin ⟨hlt, h⟩
            simp only [bne_iff_ne, ne_eq, Decidable.not_not] at this
            exact UInt8.toNat_inj.1 (show s[k].toNat = 46 by omega)
          rw [if_pos hlt]
          conv => lhs; rw [seg_split _ _ _ hfk hk2, h46, parts_at 46 _ _ (fun b hb => (HALL.out b hb).1)]
          rfl
        · have : k = s.data.toList.length := by rw [HL.out]; omega
          rw [if_neg hlt, this, seg_all]
          rw [this, seg_all] at HALL
          rw [parts_none 46 _ (fun b hb => (HALL.out b hb).1)]; simp
      have hdec : (k < s.size ∧ ∃ h : k < s.size, ((s[k].toNat : Int) != 46) = false) ∨ ¬ k < s.size := by
        by_cases hlt : k < s.size
        · exact .inl ⟨hlt, hlt, by cases e : ((s[k].toNat : Int) != 46); rfl; exact absurd ⟨hlt, e⟩ hin⟩
        · exact .inr hlt
      clear hin
      by_cases hempty : k = f
      · have HB : Hid (hostL s.data.toList = false) := by
          show _ = _
          rw [HT.out, HG.out, hempty, Nat.sub_self, List.take_zero]; rfl
        have hz : (k : Int) - (f : Int) < 1 := by omega
        clear hempty
        rcases hdec with ⟨hlt, _, hne⟩ | hlt
        all_goals
          go_wp2
          go_ret
          exact ⟨ret_bool HB.out.symm, rfl⟩
      · have h1 : f < s.size := by omega
        have h2 : k - 1 < s.size := by omega
        have eb : ((k : Int) - 1).toNat = k - 1 := by omega
        have hz : ¬ (k : Int) - (f : Int) < 1 := by omega
        have HS := Lib.hid (seg_label s f k (by omega) (by omega) h1 h2 HALL.out)
        by_cases h63 : 63 < (k : Int) - (f : Int)
        · have HB : Hid (hostL s.data.toList = false) := by
            show _ = _
            have : decide ((k : Int) - f ≤ 63) = false := by simp; omega
            rw [HT.out, HG.out, HS.out, this]; rfl
          rcases hdec with ⟨hlt, _, hne⟩ | hlt
          all_goals
            go_wp2
            go_ret
            exact ⟨ret_bool HB.out.symm, rfl⟩
        have h63t : decide ((k : Int) - f ≤ 63) = true := by simp; omega
        cases hc1 : ((s[f].toNat : Int) == 45)
        case true =>
          have HB : Hid (hostL s.data.toList = false) := by
            show _ = _
            have : ((s[f].toNat : Int) != 45) = false := by rw [bne, hc1]; rfl
            rw [HT.out, HG.out, HS.out, this]; simp
          rcases hdec with ⟨hlt, _, hne⟩ | hlt
          all_goals
            go_wp2
            go_ret
            exact ⟨ret_bool HB.out.symm, rfl⟩
        cases hc2 : ((s[k - 1].toNat : Int) == 45)
        case true =>
          have HB : Hid (hostL s.data.toList = false) := by
            show _ = _
            have : ((s[k - 1].toNat : Int) != 45) = false := by rw [bne, hc2]; rfl
            rw [HT.out, HG.out, HS.out, this]; simp
          rcases hdec with ⟨hlt, _, hne⟩ | hlt
          all_goals
            go_wp2
            go_ret
            exact ⟨ret_bool HB.out.symm, rfl⟩
        have HN : Hid (HostAt s.data.toList (k + 1) (k + 1)) := by
          have e1 : ((s[f].toNat : Int) != 45) = true := by rw [bne, hc1]; rfl
          have e2 : ((s[k - 1].toNat : Int) != 45) = true := by rw [bne, hc2]; rfl
          have hg := HG.out
          rw [HS.out, h63t, e1, e2, Bool.and_true, Bool.true_and, Bool.true_and] at hg
          refine ⟨fun h => ⟨Nat.le_refl _, by simp, ?_⟩, fun h => ?_⟩
          · rw [HL.out] at h
            rw [hg, if_pos (by omega)]
          · rw [HL.out] at h
            rw [hg, if_neg (by omega)]
        clear h63t HS
        rcases hdec with ⟨hlt, _, hne⟩ | hlt
        all_goals
          go_wp2
          go_round
          case rel => exact ⟨k + 1, k + 1, by omega, by omega, by go_num, by go_num, HN.out⟩
          case measure => simp [intOf]; omega

end Go.Proofs.YtfamllkmmiajoaaDoor
