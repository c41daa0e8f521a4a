/-
  Contracts of the document's own answer of layer 3 over this seat's program. Conditions: those of each statement.
-/
import Derived.Test.YtlkneapidmdpbaaGreatDoorLOrg
import Derived.Test.YtlkneapidmdpbaaGreatDoorLRef1
import Derived.Test.YtlkneapidmdpbaaGreatDoorLOct2
namespace Go.Proofs.YtlkneapidmdpbaaGreatDoor
open Go.RowKit

theorem seg_snoc (l : List UInt8) (f k : Nat) (hf : f ≤ k) (hk : k < l.length) : (l.drop f).take (k + 1 - f) = (l.drop f).take (k - f) ++ [l[k]] := by
  have h : k - f < (l.drop f).length := by simp; omega
  rw [show k + 1 - f = (k - f) + 1 by omega, List.take_succ_eq_append_getElem h]
  congr 2
  simp only [List.getElem_drop]
  congr 1
  omega
theorem seg_all (l : List UInt8) (f : Nat) : (l.drop f).take (l.length - f) = l.drop f := List.take_of_length_le (by simp)
theorem seg_split (l : List UInt8) (f k : Nat) (hf : f ≤ k) (hk : k < l.length) : l.drop f = (l.drop f).take (k - f) ++ l[k] :: l.drop (k + 1) := by
  conv => lhs; rw [← List.take_append_drop (k - f) (l.drop f)]
  congr 1
  rw [List.drop_drop, show f + (k - f) = k by omega]
  exact List.drop_eq_getElem_cons hk
theorem labels_bad {l : List UInt8} {f k : Nat} (hf : f ≤ k) (hk : k < l.length) (h46 : l[k] ≠ 46) (hb : hostB l[k].toNat = false) : (parts 46 (l.drop f)).all labelL = false := by
  obtain ⟨q, hq, hm⟩ := parts_mem 46 (l.drop f) l[k] (by rw [seg_split l f k hf hk]; exact List.mem_append.2 (.inr (List.mem_cons_self ..))) h46
  cases h : (parts 46 (l.drop f)).all labelL
  · rfl
  · rw [List.all_eq_true] at h
    have := h q hq
    unfold labelL at this
    simp only [Bool.and_eq_true, List.all_eq_true] at this
    rw [this.1.1.2 _ hm] at hb
    cases hb
theorem some45 (c : UInt8) : ((some c : Option UInt8) != some 45) = ((c.toNat : Int) != 45) := by
  rw [Bool.eq_iff_iff, bne_iff_ne, bne_iff_ne]
  constructor
  · intro h e; exact h (congrArg some (UInt8.toNat_inj.1 (by simpa using (by omega : c.toNat = 45))))
  · intro h e; injection e with e; subst e; exact h rfl
theorem seg_label (s : ByteArray) (f k : Nat) (hf : f < k) (hk : k ≤ s.size) (h1 : f < s.size) (h2 : k - 1 < s.size)
    (hall : ∀ b ∈ (s.data.toList.drop f).take (k - f), b ≠ 46 ∧ hostB b.toNat = true) :
    labelL ((s.data.toList.drop f).take (k - f)) = (decide ((k : Int) - f ≤ 63) && ((s[f].toNat : Int) != 45) && ((s[k - 1].toNat : Int) != 45)) := by
  have hl : s.data.toList.length = s.size := by simp
  have hlen : ((s.data.toList.drop f).take (k - f)).length = k - f := by simp; omega
  have ha : ((s.data.toList.drop f).take (k - f)).all (fun b => hostB b.toNat) = true := by
    rw [List.all_eq_true]; exact fun b hb => (hall b hb).2
  have e0 : ((s.data.toList.drop f).take (k - f)).head? = some s[f] := by
    rw [List.head?_take, if_neg (by omega), List.head?_drop, List.getElem?_eq_getElem (by omega)]; rfl
  have e1 : ((s.data.toList.drop f).take (k - f)).getLast? = some s[k - 1] := by
    rw [List.getLast?_take, if_neg (by omega), List.getElem?_drop, show f + (k - f - 1) = k - 1 by omega, List.getElem?_eq_getElem (by omega)]; rfl
  have d1 : decide (1 ≤ k - f) = true := by simp; omega
  have d2 : decide (k - f ≤ 63) = decide ((k : Int) - f ≤ 63) := by rw [Bool.eq_iff_iff, decide_eq_true_eq, decide_eq_true_eq]; omega
  unfold labelL
  rw [hlen, ha, e0, e1, some45, some45, d1, d2, Bool.true_and, Bool.and_true]

theorem byte_cases (c : Int) : (c = 45 ∨ (97 ≤ c ∧ c ≤ 122) ∨ (48 ≤ c ∧ c ≤ 57)) ∨ ((c < 48 ∧ c ≠ 45) ∨ (57 < c ∧ c < 97) ∨ 122 < c) := by omega
theorem hostB_t {c : Int} (h : c = 45 ∨ (97 ≤ c ∧ c ≤ 122) ∨ (48 ≤ c ∧ c ≤ 57)) : hostB c = true := by
  unfold hostB Lk.smB Lk.digB
  simp; omega
theorem hostB_f {c : Int} (h : (c < 48 ∧ c ≠ 45) ∨ (57 < c ∧ c < 97) ∨ 122 < c) : hostB c = false := by
  cases e : hostB c
  · rfl
  · unfold hostB Lk.smB Lk.digB at e
    simp at e; omega

/-- where the reference's look at a host stands -/
def HostAt (l : List UInt8) (f k : Nat) : Prop :=
  (k ≤ l.length → f ≤ k ∧ (∀ b ∈ (l.drop f).take (k - f), b ≠ 46 ∧ hostB b.toNat = true) ∧ (parts 46 l).all labelL = (parts 46 (l.drop f)).all labelL) ∧ (l.length < k → (parts 46 l).all labelL = true)

set_option maxHeartbeats 4000000 in
theorem refHost_any (s : ByteArray) (w : World) (hs : s.size ≤ maxLen) :
    Calls Tryz.prog 172 #[.string s] w fun e w' => e = .returned (.bool (hostL s.data.toList)) ∧ w = w' := by
  unfold maxLen at hs
  have hl : s.data.toList.length = s.size := by simp
  by_cases h253 : 253 < s.size
  · have HF : Hid (hostL s.data.toList = false) := by
      show _ = _
      have : decide (s.data.toList.length ≤ 253) = false := by rw [hl]; simp; omega
      rw [hostL, this]; rfl
    go_enter Tryz.func172, Tryz.ntmps172
    go_wp2
    go_ret
    exact ⟨ret_bool HF.out.symm, rfl⟩
  have HT : Hid (hostL s.data.toList = (parts 46 s.data.toList).all labelL) := by
    show _ = _
    have : decide (s.data.toList.length ≤ 253) = true := by rw [hl]; simp; omega
    rw [hostL, this]; rfl
  have HL := Lib.hid hl
  clear hl
  go_enter Tryz.func172, Tryz.ntmps172
  go_wp2
  go_loop [3, 4, 5] (fun fr i _ => ∃ k f : Nat, k ≤ s.size + 1 ∧ f ≤ s.size + 1 ∧ i = .int .i64 k ∧ fr = .int .i64 f ∧ HostAt s.data.toList f k) (fun _ i _ => s.size + 1 - (intOf i).toNat)
  case atStart => exact ⟨0, 0, Nat.zero_le _, Nat.zero_le _, rfl, rfl, fun _ => ⟨Nat.le_refl _, by simp, rfl⟩, fun h => by omega⟩
  case round =>
    obtain ⟨k, f, hk, hf, rfl, rfl, ha⟩ := hrel
    have HA := Lib.hid ha
    clear ha
    by_cases hend : s.size < k
    · go_wp2
      go_ret
      exact ⟨ret_bool (by rw [HT.out]; exact (HA.out.2 (by rw [HL.out]; exact hend)).symm), rfl⟩
    obtain ⟨hfk, hall, heq⟩ := HA.out.1 (by rw [HL.out]; omega)
    have HALL := Lib.hid hall
    have HEQ := Lib.hid heq
    clear hall heq HA
    by_cases hin : ∃ h : k < s.size, ((s[k].toNat : Int) != 46) = true
    · obtain ⟨hlt, hne⟩ := hin
      have hk2 : k < s.data.toList.length := by rw [HL.out]; exact hlt
      have H46 : Hid (s.data.toList[k] ≠ 46) := by
        intro e
        have : s[k] = 46 := e
        rw [this] at hne
        exact absurd hne (by decide)
      rcases byte_cases ((s[k]'hlt).toNat : Int) with hb | hb
      · have HB : Hid (hostB s.data.toList[k].toNat = true) := hostB_t hb
        have HN : Hid (HostAt s.data.toList f (k + 1)) := by
          refine ⟨fun _ => ⟨by omega, ?_, HEQ.out⟩, fun h => by have := HL.out; omega⟩
          rw [seg_snoc _ _ _ hfk hk2]
          intro b hbm
          rcases List.mem_append.1 hbm with h | h
          · exact HALL.out b h
          · obtain rfl : b = s.data.toList[k] := by simpa using h
            exact ⟨H46.out, HB.out⟩
        clear H46 HB hk2
        rcases hb with hb | ⟨hb1, hb2⟩ | ⟨hb1, hb2⟩
        all_goals
          go_wp2
          go_round
          case rel => exact ⟨k + 1, f, by omega, by omega, by go_num, rfl, HN.out⟩
          case measure => simp [intOf]; omega
      · have HB : Hid ((parts 46 s.data.toList).all labelL = false) := by
          show _ = _
          rw [HEQ.out]
          exact labels_bad hfk hk2 H46.out (hostB_f hb)
        clear H46 hk2
        have hb2 : ((s[k].toNat : Int) != 45) = true := by rw [bne_iff_ne]; omega
        rcases hb with ⟨hb1, _⟩ | ⟨hb1, hb3⟩ | hb1
        all_goals
          go_wp2
          all_goals first
            | (go_ret; exact ⟨ret_bool (by rw [HT.out]; exact HB.out.symm), rfl⟩)
            | (exfalso; simp_all; omega)
    · have HG : Hid ((parts 46 s.data.toList).all labelL = (labelL ((s.data.toList.drop f).take (k - f)) && (if k < s.size then (parts 46 (s.data.toList.drop (k + 1))).all labelL else true))) := by
        show _ = _
        rw [HEQ.out]
        by_cases hlt : k < s.size
        · have hk2 : k < s.data.toList.length := by rw [HL.out]; exact hlt
          have h46 : s.data.toList[k] = 46 := by
            have : ¬ ((s[k].toNat : Int) != 46) = true := fun h => hin ⟨hlt, h⟩
            simp only [bne_iff_ne, ne_eq, Decidable.not_not] at this
            exact UInt8.toNat_inj.1 (show s[k].toNat = 46 by omega)
          rw [if_pos hlt]
          conv => lhs; rw [seg_split _ _ _ hfk hk2, h46, parts_at 46 _ _ (fun b hb => (HALL.out b hb).1)]
          rfl
        · have : k = s.data.toList.length := by rw [HL.out]; omega
          rw [if_neg hlt, this, seg_all]
          rw [this, seg_all] at HALL
          rw [parts_none 46 _ (fun b hb => (HALL.out b hb).1)]; simp
      have hdec : (k < s.size ∧ ∃ h : k < s.size, ((s[k].toNat : Int) != 46) = false) ∨ ¬ k < s.size := by
        by_cases hlt : k < s.size
        · exact .inl ⟨hlt, hlt, by cases e : ((s[k].toNat : Int) != 46); rfl; exact absurd ⟨hlt, e⟩ hin⟩
        · exact .inr hlt
      clear hin
      by_cases hempty : k = f
      · have HB : Hid (hostL s.data.toList = false) := by
          show _ = _
          rw [HT.out, HG.out, hempty, Nat.sub_self, List.take_zero]; rfl
        have hz : (k : Int) - (f : Int) < 1 := by omega
        clear hempty
        rcases hdec with ⟨hlt, _, hne⟩ | hlt
        all_goals
          go_wp2
          go_ret
          exact ⟨ret_bool HB.out.symm, rfl⟩
      · have h1 : f < s.size := by omega
        have h2 : k - 1 < s.size := by omega
        have eb : ((k : Int) - 1).toNat = k - 1 := by omega
        have hz : ¬ (k : Int) - (f : Int) < 1 := by omega
        have HS := Lib.hid (seg_label s f k (by omega) (by omega) h1 h2 HALL.out)
        by_cases h63 : 63 < (k : Int) - (f : Int)
        · have HB : Hid (hostL s.data.toList = false) := by
            show _ = _
            have : decide ((k : Int) - f ≤ 63) = false := by simp; omega
            rw [HT.out, HG.out, HS.out, this]; rfl
          rcases hdec with ⟨hlt, _, hne⟩ | hlt
          all_goals
            go_wp2
            go_ret
            exact ⟨ret_bool HB.out.symm, rfl⟩
        have h63t : decide ((k : Int) - f ≤ 63) = true := by simp; omega
        cases hc1 : ((s[f].toNat : Int) == 45)
        case true =>
          have HB : Hid (hostL s.data.toList = false) := by
            show _ = _
            have : ((s[f].toNat : Int) != 45) = false := by rw [bne, hc1]; rfl
            rw [HT.out, HG.out, HS.out, this]; simp
          rcases hdec with ⟨hlt, _, hne⟩ | hlt
          all_goals
            go_wp2
            go_ret
            exact ⟨ret_bool HB.out.symm, rfl⟩
        cases hc2 : ((s[k - 1].toNat : Int) == 45)
        case true =>
          have HB : Hid (hostL s.data.toList = false) := by
            show _ = _
            have : ((s[k - 1].toNat : Int) != 45) = false := by rw [bne, hc2]; rfl
            rw [HT.out, HG.out, HS.out, this]; simp
          rcases hdec with ⟨hlt, _, hne⟩ | hlt
          all_goals
            go_wp2
            go_ret
            exact ⟨ret_bool HB.out.symm, rfl⟩
        have HN : Hid (HostAt s.data.toList (k + 1) (k + 1)) := by
          have e1 : ((s[f].toNat : Int) != 45) = true := by rw [bne, hc1]; rfl
          have e2 : ((s[k - 1].toNat : Int) != 45) = true := by rw [bne, hc2]; rfl
          have hg := HG.out
          rw [HS.out, h63t, e1, e2, Bool.and_true, Bool.true_and, Bool.true_and] at hg
          refine ⟨fun h => ⟨Nat.le_refl _, by simp, ?_⟩, fun h => ?_⟩
          · rw [HL.out] at h
            rw [hg, if_pos (by omega)]
          · rw [HL.out] at h
            rw [hg, if_neg (by omega)]
        clear h63t HS
        rcases hdec with ⟨hlt, _, hne⟩ | hlt
        all_goals
          go_wp2
          go_round
          case rel => exact ⟨k + 1, k + 1, by omega, by omega, by go_num, by go_num, HN.out⟩
          case measure => simp [intOf]; omega

end Go.Proofs.YtlkneapidmdpbaaGreatDoor

namespace Go.Proofs.YtlkneapidmdpbaaGreatDoor
open Go.RowKit

set_option maxHeartbeats 1000000 in
theorem refCheck_any (s h : ByteArray) (p : Int) (w : World) (hh : h.size ≤ maxLen) :
    Calls Tryz.prog 135 #[.agg #[.string s, .string h, .int .i64 p]] w fun e w' => e = .returned (.bool (checkL s.data.toList h.data.toList p)) ∧ Below w.heap.size w w' := by
  obtain ⟨d, hd⟩ : ∃ d, d = defL s.data.toList := ⟨_, rfl⟩
  have HE : Hid (checkL s.data.toList h.data.toList p = ((d != 0) && hostL h.data.toList && decide (1 ≤ p) && decide (p ≤ 65535))) := by show _ = _; rw [hd]; rfl
  have HD := Lib.hid hd
  clear hd
  have hb : Below w.heap.size w (w.alloc (.cells #[.string s, .string h, .int .i64 p] 82)) := (Below.refl _ _).alloc (Nat.le_refl _) _
  have HB := Lib.hid hb
  clear hb
  cases h0 : (d != 0)
  · have H0 := Lib.hid h0
    go_enter Tryz.func135, Tryz.ntmps135
    go_wp2_with fail
    refine (refDefault_any _ _).mono ?_
    rintro e w' ⟨rfl, rfl⟩
    rw [← HD.out]
    go_wp2
    go_ret
    exact ⟨ret_bool (by rw [HE.out, H0.out]; rfl), HB.out⟩
  have H0 := Lib.hid h0
  cases h1 : hostL h.data.toList
  · have H1 := Lib.hid h1
    clear h1
    go_enter Tryz.func135, Tryz.ntmps135
    go_wp2_with fail
    refine (refDefault_any _ _).mono ?_
    rintro e w' ⟨rfl, rfl⟩
    rw [← HD.out]
    go_wp2_with fail
    refine (refHost_any _ _ hh).mono ?_
    rintro e w' ⟨rfl, rfl⟩
    rw [H1.out]
    go_wp2
    go_ret
    exact ⟨ret_bool (by rw [HE.out, H0.out, H1.out]; rfl), HB.out⟩
  · have H1 := Lib.hid h1
    clear h1
    go_enter Tryz.func135, Tryz.ntmps135
    go_wp2_with fail
    refine (refDefault_any _ _).mono ?_
    rintro e w' ⟨rfl, rfl⟩
    rw [← HD.out]
    go_wp2_with fail
    refine (refHost_any _ _ hh).mono ?_
    rintro e w' ⟨rfl, rfl⟩
    rw [H1.out]
    go_wp2
    all_goals
      go_ret
      refine ⟨ret_bool ?_, HB.out⟩
      rw [HE.out, H0.out, H1.out]
      simp
      try omega

theorem key_num {s h : ByteArray} {n : Nat} (hc : checkL s.data.toList h.data.toList (n : Int) = true) :
    s ++ ByteArray.mk #[58, 47, 47] ++ h ++ ByteArray.mk #[58] ++ mk (numL n) = mk (keyL s.data.toList h.data.toList (n : Int)) := by
  rw [key_eq hc]
  show s ++ mk [58, 47, 47] ++ h ++ mk [58] ++ mk (numL n) = _
  conv => lhs; rw [← mk_eq s, ← mk_eq h]
  rw [mk_append, mk_append, mk_append, mk_append]; simp

set_option maxHeartbeats 2000000 in
theorem refShow_any (s h : ByteArray) (p : Int) (w : World) (hh : h.size ≤ maxLen) :
    Calls Tryz.prog 89 #[.agg #[.string s, .string h, .int .i64 p]] w fun e w' => e = .returned (.string (mk (showL s.data.toList h.data.toList p))) ∧ Below w.heap.size w w' := by
  have hb : Below w.heap.size w (w.alloc (.cells #[.string s, .string h, .int .i64 p] 82)) := (Below.refl _ _).alloc (Nat.le_refl _) _
  have HB := Lib.hid hb
  clear hb
  cases hc : checkL s.data.toList h.data.toList p
  · have HC := Lib.hid hc
    clear hc
    go_enter Tryz.func89, Tryz.ntmps89
    go_wp2_with fail
    refine (refCheck_any _ _ _ _ hh).mono ?_
    rintro e w' ⟨rfl, hb2⟩
    have HB2 := Lib.hid hb2
    clear hb2
    rw [HC.out]
    go_wp2
    go_ret
    exact ⟨ret_string (by rw [showL, HC.out]; rfl), HB.out.trans (HB2.out.mono HB.out.size)⟩
  · obtain ⟨hz1, hz2⟩ := check_sizes hc
    obtain ⟨_, _, hp1, hp2⟩ := check_parts hc
    obtain ⟨n, rfl⟩ := Int.eq_ofNat_of_zero_le (show (0 : Int) ≤ p by omega)
    have HC := Lib.hid hc
    have HK := Lib.hid (key_num hc)
    have hz3 : (mk (numL n)).size ≤ 5 := by rw [mk_size]; exact numL_len5 (by omega)
    clear hc
    obtain ⟨d, hd⟩ : ∃ d, d = defL s.data.toList := ⟨_, rfl⟩
    have HD := Lib.hid hd
    clear hd
    go_enter Tryz.func89, Tryz.ntmps89
    go_wp2_with fail
    refine (refCheck_any _ _ _ _ hh).mono ?_
    rintro e w1 ⟨rfl, hb2⟩
    have ho : OrgAt w1 w.heap.size s h n := (OrgAt.new w s h n 82).below hb2 (by simp)
    have HB2 : Hid (Below w.heap.size w w1) := HB.out.trans (hb2.mono HB.out.size)
    clear hb2
    rw [HC.out]
    obtain ⟨a0, a1, a2⟩ := id ho
    go_wp2_with fail
    refine mix_start (fun W => OrgAt W w.heap.size s h n) (by kernel_rfl) ?_
    have hne : Nonempty (Held (fun W => OrgAt W w.heap.size s h n)) := ⟨⟨w1, ho⟩⟩
    have hx0 : ∀ q : Held (fun W => OrgAt W w.heap.size s h n), q.w.cell? ⟨w.heap.size, 0, none⟩ = some (.string s) := fun q => q.h.c0
    have hx2 : ∀ q : Held (fun W => OrgAt W w.heap.size s h n), q.w.cell? ⟨w.heap.size, 2, none⟩ = some (.int .i64 n) := fun q => q.h.c2
    refine mix_seg [0, 1, 2, 3] (by kernel_rfl) ho.drew ?_
    simp only [segOf, pickOps, pickOp]
    repeat (go_big_quiet_step (fail))
    refine wpQuiet_nil ?_
    refine mix_run 4 (by kernel_rfl) ?_
    simp only [segOf, pickOps, pickOp]
    go_wp2_with fail
    refine (refDefault_any _ _).mono ?_
    rintro e w' ⟨rfl, rfl⟩
    rw [← HD.out]
    go_wp2_with fail
    refine MixPost.normal ho.drew ?_
    by_cases hpd : (n : Int) = d
    · have hq : ((n : Int) != d) = false := by rw [hpd]; simp
      have HS : Hid (s ++ ByteArray.mk #[58, 47, 47] ++ h = mk (showL s.data.toList h.data.toList n)) := by
        show _ = _; rw [bare_mk, show_bare HC.out (hpd.trans HD.out)]
      clear hpd
      refine mix_seg [5] (by kernel_rfl) ho.drew ?_
      simp only [segOf, pickOps, pickOp]
      repeat (go_big_quiet_step (fail))
      refine wpQuiet_nil ?_
      refine mix_done (by kernel_rfl) ?_
      go_wp2
      go_ret
      exact ⟨ret_string HS.out, HB2.out.drew⟩
    · have hq : ((n : Int) != d) = true := by rw [bne_iff_ne]; exact hpd
      have HS : Hid (s ++ ByteArray.mk #[58, 47, 47] ++ h ++ ByteArray.mk #[58] ++ mk (numL n) = mk (showL s.data.toList h.data.toList n)) := by
        show _ = _; rw [show_key (.inr (fun e => hpd (e.trans HD.out.symm))), HK.out]
      clear hpd
      refine mix_seg [5] (by kernel_rfl) ho.drew ?_
      simp only [segOf, pickOps, pickOp]
      repeat (go_big_quiet_step (fail))
      refine wpQuiet_nil ?_
      refine mix_done (by kernel_rfl) ?_
      go_wp2_with fail
      refine (Num_any n _ (by unfold Lk.M64; omega)).mono ?_
      rintro e w' ⟨rfl, rfl⟩
      go_wp2
      go_ret
      exact ⟨ret_string HS.out, HB2.out.drew⟩

/-- the first place of :// -/
def behindV (l : List UInt8) : Int := match seek l with | some p => (p.1.length : Int) | none => -1
theorem pre_ext (s : ByteArray) (k : Nat) (_hk : k + 3 ≤ s.size) : ((s.extract k (k + 3)).toList == [58, 47, 47]) = [58, 47, 47].isPrefixOf (s.data.toList.drop k) := by
  have hl : s.data.toList.length = s.size := by simp
  have e : (s.extract k (k + 3)).toList = (s.data.toList.drop k).take 3 := by
    rw [ByteArray.toList_eq, Lib.extract_eq]
    show (List.take (k + 3 - k) (List.drop k s.data.toList)) = _
    rw [show k + 3 - k = 3 by omega]
  rw [e]
  have : ∀ m : List UInt8, (m.take 3 == [58, 47, 47]) = [58, 47, 47].isPrefixOf m := by
    intro m
    match m with
    | [] => rfl
    | [a] => simp [List.isPrefixOf]
    | [a, b] => simp [List.isPrefixOf]
    | a :: b :: c :: r =>
      rw [Bool.eq_iff_iff]
      simp [List.isPrefixOf]
      constructor <;> (rintro ⟨h1, h2, h3⟩; exact ⟨h1.symm, h2.symm, h3.symm⟩)
  exact this _
theorem seek_step {l : List UInt8} {k : Nat} (hk : k < l.length) (h : [58, 47, 47].isPrefixOf (l.drop k) = false) : seek (l.drop k) = (seek (l.drop (k + 1))).map (fun p => (l[k] :: p.1, p.2)) := by
  have e : l.drop k = l[k] :: l.drop (k + 1) := List.drop_eq_getElem_cons hk
  rw [e] at h ⊢
  rw [seek, h]; rfl
theorem seek_short {l : List UInt8} (h : l.length < 3) : seek l = none := by
  cases hs : seek l with
  | none => rfl
  | some q =>
    have := congrArg List.length (seek_eq l q.1 q.2 hs)
    simp at this
    omega
theorem seek_here {l : List UInt8} (h : [58, 47, 47].isPrefixOf l = true) : seek l = some ([], l.drop 3) := by
  cases l with
  | nil => simp [List.isPrefixOf] at h
  | cons b r => rw [seek, if_pos h]

set_option maxHeartbeats 1000000 in
theorem refBehind_any (s : ByteArray) (w : World) (hs : s.size ≤ 140737488355328) :
    Calls Tryz.prog 129 #[.string s] w fun e w' => e = .returned (.int .i64 (behindV s.data.toList)) ∧ w = w' := by
  have HL : Hid (s.data.toList.length = s.size) := by show _ = _; simp
  go_enter Tryz.func129, Tryz.ntmps129
  go_wp2
  go_loop [3] (fun i => ∃ k : Nat, k ≤ s.size ∧ i = .int .i64 k ∧ seek s.data.toList = (seek (s.data.toList.drop k)).map (fun p => (s.data.toList.take k ++ p.1, p.2))) (fun i => s.size - (intOf i).toNat)
  case atStart =>
    refine ⟨0, Nat.zero_le _, rfl, ?_⟩
    simp
  case round =>
    obtain ⟨k, hk, rfl, hsk⟩ := hrel
    have HS := Lib.hid hsk
    clear hsk
    by_cases h3 : k + 3 ≤ s.size
    · have hp := pre_ext s k h3
      have hw : IntKind.i64.wrap ((k : Int) + 3) = (k : Int) + 3 := IntWalk.i64_in _ (by omega)
      have hlt : k < s.data.toList.length := by rw [HL.out]; omega
      cases hc : [58, 47, 47].isPrefixOf (s.data.toList.drop k)
      · have HN : Hid (seek s.data.toList = (seek (s.data.toList.drop (k + 1))).map (fun p => (s.data.toList.take (k + 1) ++ p.1, p.2))) := by
          show _ = _
          rw [HS.out, seek_step hlt hc, List.take_succ_eq_append_getElem hlt, Option.map_map]
          congr 1
          funext p
          simp
        rw [hc] at hp
        clear hc hlt
        go_wp2
        go_round
        case rel => exact ⟨k + 1, by omega, by go_num, HN.out⟩
        case measure => simp [intOf]; omega
      · have HN : Hid (behindV s.data.toList = (k : Int)) := by
          show _ = _
          rw [behindV, HS.out, seek_here hc]
          simp
          omega
        rw [hc] at hp
        clear hc hlt
        go_wp2
        go_ret
        exact ⟨ret_int HN.out.symm, rfl⟩
    · have HN : Hid (behindV s.data.toList = -1) := by
        show _ = _
        rw [behindV, HS.out, seek_short (by have := HL.out; simp; omega)]; rfl
      go_wp2
      go_ret
      exact ⟨ret_int HN.out.symm, rfl⟩
end Go.Proofs.YtlkneapidmdpbaaGreatDoor

namespace Go.Proofs.YtlkneapidmdpbaaGreatDoor
open Go.RowKit

def countV (d : List UInt8) (most : Nat) : Value := .tuple #[.int .u64 (if okC d most then (Lk.sat (Lk.valL d) : Int) else 0), .bool (okC d most)]
theorem countV_f {d : List UInt8} {most : Nat} (h : okC d most = false) : countV d most = .tuple #[.int .u64 0, .bool false] := by rw [countV, h]; rfl
theorem countV_t {d : List UInt8} {most : Nat} (h : okC d most = true) : countV d most = .tuple #[.int .u64 (Lk.sat (Lk.valL d) : Int), .bool true] := by rw [countV, h]; rfl

set_option maxHeartbeats 1000000 in
theorem refCount_any (s : ByteArray) (most : Nat) (w : World) (hs : s.size ≤ maxLen) (hm : most ≤ Lk.M64) :
    Calls Tryz.prog 134 #[.string s, .int .u64 (most : Int)] w fun e w' => e = .returned (countV s.data.toList most) ∧ w = w' := by
  have hs0 := hs
  unfold maxLen at hs
  have hl : s.data.toList.length = s.size := by simp
  cases hd : Lk.digL s.data.toList
  · have HD := Lib.hid (digRes_f hd)
    have HV : Hid (countV s.data.toList most = .tuple #[.int .u64 0, .bool false]) := countV_f (by rw [okC, hd]; rfl)
    clear hd hl
    go_enter Tryz.func134, Tryz.ntmps134
    go_wp2_with fail
    refine (refDigits_any _ _ hs0).mono ?_
    rintro e w' ⟨rfl, rfl⟩
    rw [HD.out]
    go_wp2
    go_ret2
    exact ⟨by rw [HV.out]; rfl, rfl⟩
  have HD := Lib.hid (digRes_t hd)
  by_cases h20 : 20 < s.size
  · have HV : Hid (countV s.data.toList most = .tuple #[.int .u64 0, .bool false]) := countV_f (by
      have : decide (s.data.toList.length ≤ 20) = false := by rw [hl]; simp; omega
      rw [okC, this]; simp)
    clear hd hl
    go_enter Tryz.func134, Tryz.ntmps134
    go_wp2_with fail
    refine (refDigits_any _ _ hs0).mono ?_
    rintro e w' ⟨rfl, rfl⟩
    rw [HD.out]
    go_wp2
    go_ret2
    exact ⟨by rw [HV.out]; rfl, rfl⟩
  have h20t : decide (s.data.toList.length ≤ 20) = true := by rw [hl]; simp; omega
  have hsat := Lk.sat_le (Lk.valL s.data.toList)
  have HO : Hid (okC s.data.toList most = ((numL (Lk.sat (Lk.valL s.data.toList)) == s.data.toList) && decide (Lk.sat (Lk.valL s.data.toList) ≤ most))) := by
    show _ = _; rw [okC, hd, h20t]; simp
  have HV : Hid (countV s.data.toList most = .tuple #[.int .u64 (if okC s.data.toList most then (Lk.sat (Lk.valL s.data.toList) : Int) else 0), .bool (okC s.data.toList most)]) := rfl
  clear hd h20t hl
  generalize Lk.sat (Lk.valL s.data.toList) = n at *
  have hM : most ≤ 18446744073709551615 := hm
  have hN : n ≤ 18446744073709551615 := hsat
  obtain ⟨u, hu⟩ : ∃ u : ByteArray, u = mk (numL n) := ⟨_, rfl⟩
  have HU := Lib.hid hu
  have hul : u.toList = numL n := by rw [hu, ByteArray.toList_eq, mk_data]
  cases hq : (u.toList == s.toList)
  case true =>
    have hq2 : (numL n == s.data.toList) = true := by
      have : u.toList = s.toList := by simpa using hq
      rw [hul, ByteArray.toList_eq] at this
      rw [this]; simp
    by_cases hmost : most < n
    · have HF : Hid (okC s.data.toList most = false) := by
        show _ = _; rw [HO.out]
        have : decide (n ≤ most) = false := by simp; omega
        rw [this]; simp
      clear hu hul hq2
      go_enter Tryz.func134, Tryz.ntmps134
      go_wp2_with fail
      refine (refDigits_any _ _ hs0).mono ?_
      rintro e w' ⟨rfl, rfl⟩
      rw [HD.out]
      go_wp2_with fail
      refine (Num_any n _ hsat).mono ?_
      rintro e w' ⟨rfl, rfl⟩
      rw [← HU.out]
      go_wp2
      go_ret2
      exact ⟨by rw [HV.out, HF.out]; rfl, rfl⟩
    · have HF : Hid (okC s.data.toList most = true) := by
        show _ = _; rw [HO.out, hq2]
        simp; omega
      clear hu hul hq2
      go_enter Tryz.func134, Tryz.ntmps134
      go_wp2_with fail
      refine (refDigits_any _ _ hs0).mono ?_
      rintro e w' ⟨rfl, rfl⟩
      rw [HD.out]
      go_wp2_with fail
      refine (Num_any n _ hsat).mono ?_
      rintro e w' ⟨rfl, rfl⟩
      rw [← HU.out]
      go_wp2
      go_ret2
      exact ⟨by rw [HV.out, HF.out]; rfl, rfl⟩
  case false =>
    have HF : Hid (okC s.data.toList most = false) := by
      show _ = _; rw [HO.out]
      have : (numL n == s.data.toList) = false := by
        rw [beq_eq_false_iff_ne]
        intro e
        rw [hul, e, ByteArray.toList_eq] at hq
        simp at hq
      rw [this]; simp
    clear hu hul
    go_enter Tryz.func134, Tryz.ntmps134
    go_wp2_with fail
    refine (refDigits_any _ _ hs0).mono ?_
    rintro e w' ⟨rfl, rfl⟩
    rw [HD.out]
    go_wp2_with fail
    refine (Num_any n _ hsat).mono ?_
    rintro e w' ⟨rfl, rfl⟩
    rw [← HU.out]
    go_wp2
    go_ret2
    exact ⟨by rw [HV.out, HF.out]; rfl, rfl⟩
end Go.Proofs.YtlkneapidmdpbaaGreatDoor

namespace Go.Proofs.YtlkneapidmdpbaaGreatDoor
open Go.RowKit

/-- the result's block lies empty, block g holds an origin -/
structure St (w W : World) (g : Nat) (A H : ByteArray) (p : Int) : Prop where
  z : OrgAt W w.heap.size ⟨#[]⟩ ⟨#[]⟩ 0
  zf : Own3 W w.heap.size
  o : OrgAt W g A H p
  of : Own3 W g
  b : Below w.heap.size w W
  lt : w.heap.size < g
theorem St.below {w W W' : World} {g : Nat} {A H : ByteArray} {p : Int} (h : St w W g A H p) (hb : Below W.heap.size W W') : St w W' g A H p :=
  ⟨h.z.below hb h.z.lt, h.zf.below hb h.z.lt, h.o.below hb h.o.lt, h.of.below hb h.o.lt, h.b.trans (hb.mono h.b.size), h.lt⟩
theorem Own3.set {W : World} {g : Nat} (h : Own3 W g) (a : Addr) (u : Value) : Own3 (W.setCell a u) g :=
  ⟨by rw [World.frozen?_setCell]; exact h.f0, by rw [World.frozen?_setCell]; exact h.f1, by rw [World.frozen?_setCell]; exact h.f2⟩
theorem OrgAt.set_other {W : World} {g g' i : Nat} {A H : ByteArray} {p : Int} (h : OrgAt W g A H p) (hg : g ≠ g') (u : Value) : OrgAt (W.setCell ⟨g', i, none⟩ u) g A H p :=
  ⟨by rw [World.cell?_setCell_other _ _ _ _ (by intro e; injection e with e _; exact hg e.symm)]; exact h.c0,
   by rw [World.cell?_setCell_other _ _ _ _ (by intro e; injection e with e _; exact hg e.symm)]; exact h.c1,
   by rw [World.cell?_setCell_other _ _ _ _ (by intro e; injection e with e _; exact hg e.symm)]; exact h.c2⟩
theorem OrgAt.putH {W : World} {g : Nat} {s h : ByteArray} {p : Int} (o : OrgAt W g s h p) (k : ByteArray) : OrgAt (W.setCell ⟨g, 1, none⟩ (.string k)) g s k p :=
  ⟨by rw [World.cell?_setCell_other _ _ _ _ (by simp)]; exact o.c0, by rw [World.cell?_setCell_same _ _ _ o.c1], by rw [World.cell?_setCell_other _ _ _ _ (by simp)]; exact o.c2⟩
theorem St.setP {w W : World} {g : Nat} {A H : ByteArray} {p : Int} (h : St w W g A H p) (k : Int) : St w (W.setCell ⟨g, 2, none⟩ (.int .i64 k)) g A H k :=
  ⟨h.z.set_other (Nat.ne_of_lt h.lt) _, h.zf.set _ _, h.o.put k, h.of.set _ _, h.b.setCell (Nat.le_of_lt h.lt) _, h.lt⟩
theorem St.setH {w W : World} {g : Nat} {A H : ByteArray} {p : Int} (h : St w W g A H p) (X : ByteArray) : St w (W.setCell ⟨g, 1, none⟩ (.string X)) g A X p :=
  ⟨h.z.set_other (Nat.ne_of_lt h.lt) _, h.zf.set _ _, h.o.putH X, h.of.set _ _, h.b.setCell (Nat.le_of_lt h.lt) _, h.lt⟩

theorem refLower_as (s t : ByteArray) (w : World) (hs : s.size ≤ maxLen) (ht : t = mk (Lk.lower s.data.toList)) :
    Calls Tryz.prog 94 #[.string s] w fun e w' => e = .returned (.string t) ∧ Below w.heap.size w w' := by rw [ht]; exact refLower_any s w hs
theorem low_at (l : List UInt8) (c : UInt8) (h : c = 58) (hn : ∀ b ∈ l, b ≠ c) : ∀ b ∈ Lk.lower l, b ≠ c := by
  intro b hb e
  obtain ⟨x, hx, rfl⟩ := List.mem_map.1 hb
  rw [h] at e hn
  exact hn x hx ((low_low58 x).1 e)

set_option maxHeartbeats 4000000 in
theorem refParse_any (s : ByteArray) (w : World) (hs : s.size ≤ maxLen) :
    Calls Tryz.prog 86 #[.string s] w fun e w' => e = .returned (parseV s.data.toList) ∧ Below w.heap.size w w' := by
  unfold maxLen at hs
  have hl : s.data.toList.length = s.size := by simp
  by_cases h512 : 512 < s.size
  · have HV : Hid (parseV s.data.toList = .tuple #[orgV [] [] 0, .int .i64 4]) := by show _ = _; rw [parseV, if_pos (by rw [hl]; exact h512)]
    clear hl
    go_enter Tryz.func86, Tryz.ntmps86
    go_wp2
    refine bodyPost_ret (v := .tuple #[.agg #[.string ⟨#[]⟩, .string ⟨#[]⟩, .int .i64 0], .int .i64 4]) (by simp [results, Tryz.results86, go_sem]) rfl ?_
    exact ⟨by rw [HV.out]; rfl, (Below.refl _ _).alloc (Nat.le_refl _) _⟩
  have HV : Hid (parseV s.data.toList = match parseL s.data.toList with
    | some (a, b, p) => .tuple #[orgV a b p, .int .i64 0]
    | none => .tuple #[orgV [] [] 0, .int .i64 3]) := by show _ = _; rw [parseV, if_neg (by rw [hl]; exact h512)]; rfl
  cases hsk : seek s.data.toList with
  | none =>
    have HN : Hid (parseL s.data.toList = none) := by show _ = _; unfold parseL; rw [seek_lower, hsk]; rfl
    have HK : Hid (behindV s.data.toList = -1) := by show _ = _; rw [behindV, hsk]
    clear hsk hl
    go_enter Tryz.func86, Tryz.ntmps86
    go_wp2_with fail
    refine (refBehind_any _ _ (by omega)).mono ?_
    rintro e w' ⟨rfl, rfl⟩
    rw [HK.out]
    go_wp2
    refine bodyPost_ret (v := .tuple #[.agg #[.string ⟨#[]⟩, .string ⟨#[]⟩, .int .i64 0], .int .i64 3]) (by simp [results, Tryz.results86, go_sem]) rfl ?_
    exact ⟨by rw [HV.out, HN.out]; rfl, (Below.refl _ _).alloc (Nat.le_refl _) _⟩
  | some q =>
    obtain ⟨la, lb⟩ := q
    have hse := seek_eq _ _ _ hsk
    have hlen := congrArg List.length hse
    simp only [List.length_append, List.length_cons, List.length_nil, hl] at hlen
    obtain ⟨a, ea⟩ : ∃ a : ByteArray, a = mk la := ⟨_, rfl⟩
    obtain ⟨b, eb⟩ : ∃ b : ByteArray, b = mk lb := ⟨_, rfl⟩
    have had : a.data.toList = la := by rw [ea, mk_data]
    have hbd : b.data.toList = lb := by rw [eb, mk_data]
    have haz : a.size = la.length := by rw [ea, mk_size]
    have hbz : b.size = lb.length := by rw [eb, mk_size]
    obtain ⟨k, hk⟩ : ∃ k : Nat, k = la.length := ⟨_, rfl⟩
    have X1 : Hid (s.extract 0 k = a) := by
      show _ = _; rw [Lib.extract_eq, hse, ea, hk]; simp [mk]
    have X2 : Hid (s.extract (k + 3) s.size = b) := by
      show _ = _
      have e : List.drop (k + 3) s.data.toList = lb := by rw [hse]; exact List.drop_left' (by simp [hk])
      rw [Lib.extract_eq, e, List.take_of_length_le (by omega), eb]; rfl
    have HK : Hid (behindV s.data.toList = (k : Int)) := by show _ = _; rw [behindV, hsk, hk]
    have hkz : k + 3 ≤ s.size := by omega
    have hw : IntKind.i64.wrap ((k : Int) + 3) = (k : Int) + 3 := IntWalk.i64_in _ (by omega)
    obtain ⟨A, eA⟩ : ∃ A : ByteArray, A = mk (Lk.lower a.data.toList) := ⟨_, rfl⟩
    have hAd : A.data.toList = Lk.lower la := by rw [eA, mk_data, had]
    have HA := Lib.hid eA
    obtain ⟨d, hd⟩ : ∃ d, d = defL A.data.toList := ⟨_, rfl⟩
    have HD := Lib.hid hd
    have HPL : Hid (parseL s.data.toList = if checkL A.data.toList (Lk.lower (split1 58 lb).1) (portAt A.data.toList ((split1 58 lb).2.map Lk.lower)) then some (A.data.toList, Lk.lower (split1 58 lb).1, portAt A.data.toList ((split1 58 lb).2.map Lk.lower)) else none) := by
      show _ = _
      unfold parseL
      rw [seek_lower, hsk, hAd]
      simp only [Option.map_some, split1_lower]
    have haz2 : a.size ≤ maxLen := by unfold maxLen; omega
    have hb512 : b.size ≤ 512 := by omega
    clear ea eb eA hd hk hse hlen hl hsk haz had hAd
    go_enter Tryz.func86, Tryz.ntmps86
    go_wp2_with fail
    refine (refBehind_any _ _ (by omega)).mono ?_
    rintro e w0 ⟨rfl, hw0⟩
    rw [HK.out]
    have hz0 : OrgAt w0 w.heap.size ⟨#[]⟩ ⟨#[]⟩ 0 := by rw [← hw0]; exact OrgAt.new w _ _ _ _
    have hf0 : Own3 w0 w.heap.size := by rw [← hw0]; exact Own3.new w _ _
    have HB0 : Hid (Below w.heap.size w w0) := by rw [← hw0]; exact (Below.refl _ _).alloc (Nat.le_refl _) _
    have HZ0 := Lib.hid hz0
    have HF0 := Lib.hid hf0
    clear hw0 hz0 hf0
    go_wp2_with fail
    rw [X1.out]
    refine (refLower_as a A _ haz2 HA.out).mono ?_
    rintro e w1 ⟨rfl, hb⟩
    have HZ1 := Lib.hid (HZ0.out.below hb HZ0.out.lt)
    have HF1 := Lib.hid (HF0.out.below hb HZ0.out.lt)
    have HB1 : Hid (Below w.heap.size w w1) := HB0.out.trans (hb.mono HB0.out.size)
    clear hb
    go_wp2_with fail
    refine (refDefault_any _ _).mono ?_
    rintro e w' ⟨rfl, rfl⟩
    rw [← HD.out]
    go_wp2_with fail
    rw [X2.out]
    have ST1 : Hid (St w (w1.alloc (.cells #[.string A, .string ⟨#[]⟩, .int .i64 d] 82)) w1.heap.size A ⟨#[]⟩ d) :=
      ⟨HZ1.out.below ((Below.refl _ _).alloc (Nat.le_refl _) _) HZ1.out.lt, HF1.out.below ((Below.refl _ _).alloc (Nat.le_refl _) _) HZ1.out.lt, OrgAt.new w1 _ _ _ _, Own3.new w1 _ _, HB1.out.alloc HB1.out.size _, HZ1.out.lt⟩
    clear HZ0 HF0 HB0 HZ1 HF1 HB1
    rcases at_cases 58 lb with hn | ⟨lx, ly, em, hn⟩
    · obtain ⟨X, hX⟩ : ∃ X : ByteArray, X = mk (Lk.lower b.data.toList) := ⟨_, rfl⟩
      have HX := Lib.hid hX
      have hXz : X.size = b.size := by rw [hX, mk_size, Lk.lower_len, hbd, hbz]
      have HP : Hid (parseL s.data.toList = if checkL A.data.toList X.data.toList d then some (A.data.toList, X.data.toList, d) else none) := by
        show _ = _; rw [HPL.out, split1_none 58 _ hn, HD.out, hX, mk_data, hbd]; rfl
      have HN : Hid (∀ j (h : j < b.size), ((b[j].toNat : Int) != 58) = true) := by
        intro j h
        rw [bne_iff_ne]
        intro e
        have hm : b[j] ∈ lb := by rw [← hbd]; exact List.getElem_mem (l := b.data.toList) (by simpa using h)
        exact hn _ hm (UInt8.toNat_inj.1 (show b[j].toNat = 58 by omega))
      clear hn hX hbd hbz
      go_loopw [6, 7, 8, 9] (fun r i _ _ wr => ∃ j : Nat, j ≤ b.size ∧ r = .string b ∧ i = .int .i64 j ∧ St w wr w1.heap.size A ⟨#[]⟩ d) (fun _ i _ _ _ => b.size - (intOf i).toNat)
      case atStart => exact ⟨0, Nat.zero_le _, rfl, rfl, ST1.out⟩
      case round =>
        obtain ⟨j, hj, rfl, rfl, hst⟩ := hrel
        have STr := Lib.hid hst
        clear hst
        by_cases hlt : j < b.size
        · have hne := HN.out j hlt
          go_wp2
          go_roundw
          case rel => exact ⟨j + 1, by omega, rfl, by go_num, STr.out⟩
          case measure => simp [intOf]; omega
        · go_wp2_with fail
          refine (refLower_as b X _ (by unfold maxLen; omega) HX.out).mono ?_
          rintro e w3 ⟨rfl, hb⟩
          have ST3 := Lib.hid (STr.out.below hb)
          clear hb
          obtain ⟨⟨z0, z1, z2⟩, ⟨y0, y1, y2⟩, ⟨o0, o1, o2⟩, ⟨v0, v1, v2⟩, _, ltg⟩ := ST3.out
          obtain ⟨⟨m0, m1, m2⟩, ⟨n0, n1, n2⟩, ⟨p0, p1, p2⟩, ⟨r0, r1, r2⟩, _, _⟩ := ST3.out.setH X
          have ST4 := Lib.hid (ST3.out.setH X)
          go_wp2_with fail
          refine (refCheck_any A X d _ (by unfold maxLen; omega)).mono ?_
          rintro e w5 ⟨rfl, hb⟩
          have ST5 := Lib.hid (ST4.out.below hb)
          clear hb z0 z1 z2 y0 y1 y2 o0 o1 o2 v0 v1 v2 m0 m1 m2 n0 n1 n2 p0 p1 p2 r0 r1 r2
          obtain ⟨⟨z0, z1, z2⟩, ⟨y0, y1, y2⟩, ⟨o0, o1, o2⟩, ⟨v0, v1, v2⟩, _, _⟩ := ST5.out
          cases hc : checkL A.data.toList X.data.toList d
          · have HC := Lib.hid hc
            clear hc
            go_wp2
            obtain ⟨q0, q1, q2⟩ := set3_org (W := w5) (g := w.heap.size) z0 z1 z2 ⟨#[]⟩ ⟨#[]⟩ 0
            refine bodyPost_ret (v := .tuple #[.agg #[.string ⟨#[]⟩, .string ⟨#[]⟩, .int .i64 0], .int .i64 3]) (by simp [results, Tryz.results86, go_sem, q0, q1, q2]) rfl ?_
            exact ⟨by rw [HV.out, HP.out, HC.out]; rfl, set3_below ST5.out.b (Nat.le_refl _) _ _ _⟩
          · have HC := Lib.hid hc
            clear hc
            go_wp2
            obtain ⟨q0, q1, q2⟩ := set3_org (W := w5) (g := w.heap.size) z0 z1 z2 A X d
            refine bodyPost_ret (v := .tuple #[.agg #[.string A, .string X, .int .i64 d], .int .i64 0]) (by simp [results, Tryz.results86, go_sem, q0, q1, q2]) rfl ?_
            exact ⟨by rw [HV.out, HP.out, HC.out]; simp only [if_true, orgV, mk_eq], set3_below ST5.out.b (Nat.le_refl _) _ _ _⟩
    · obtain ⟨x, ex⟩ : ∃ x : ByteArray, x = mk lx := ⟨_, rfl⟩
      obtain ⟨y, ey⟩ : ∃ y : ByteArray, y = mk ly := ⟨_, rfl⟩
      have hxd : x.data.toList = lx := by rw [ex, mk_data]
      have hyd : y.data.toList = ly := by rw [ey, mk_data]
      have hxz : x.size = lx.length := by rw [ex, mk_size]
      have hyz : y.size = ly.length := by rw [ey, mk_size]
      have hlen2 := congrArg List.length em
      simp only [List.length_append, List.length_cons] at hlen2
      obtain ⟨m, hm⟩ : ∃ m : Nat, m = lx.length := ⟨_, rfl⟩
      have X3 : Hid (b.extract 0 m = x) := by
        show _ = _; rw [Lib.extract_eq, hbd, em, ex, hm]; simp [mk]
      have X4 : Hid (b.extract (m + 1) b.size = y) := by
        show _ = _
        have e : List.drop (m + 1) b.data.toList = ly := by
          rw [hbd, em, show lx ++ 58 :: ly = (lx ++ [58]) ++ ly by simp]; exact List.drop_left' (by simp [hm])
        rw [Lib.extract_eq, e, List.take_of_length_le (by omega), ey]; rfl
      have hmz : m < b.size := by omega
      have h58 : ((b[m].toNat : Int) != 58) = false := by
        have e1 : b.data.toList[m]'(by simpa using hmz) = 58 := by
          simp only [hbd, em, hm, List.getElem_append_right (Nat.le_refl _), Nat.sub_self, List.getElem_cons_zero]
        have e2 : b[m] = 58 := e1
        rw [e2]; rfl
      have HN : Hid (∀ j (h : j < b.size), j < m → ((b[j].toNat : Int) != 58) = true) := by
        intro j h hjm
        rw [bne_iff_ne]
        intro e
        have h1 : j < lx.length := by omega
        have hmm : b[j] ∈ lx := by
          have e1 : b.data.toList[j]'(by simpa using h) = lx[j] := by
            simp only [hbd, em, List.getElem_append_left h1]
          have e2 : b[j] = lx[j] := e1
          rw [e2]; exact List.getElem_mem _
        exact hn _ hmm (UInt8.toNat_inj.1 (show b[j].toNat = 58 by omega))
      obtain ⟨X, hX⟩ : ∃ X : ByteArray, X = mk (Lk.lower x.data.toList) := ⟨_, rfl⟩
      have HX := Lib.hid hX
      have hXz : X.size = x.size := by rw [hX, mk_size, Lk.lower_len, hxd, hxz]
      have HPP : Hid (parseL s.data.toList = if checkL A.data.toList X.data.toList (portL (Lk.lower y.data.toList) : Int) then some (A.data.toList, X.data.toList, (portL (Lk.lower y.data.toList) : Int)) else none) := by
        show _ = _; rw [HPL.out, em, split1_at 58 _ _ hn, hX, mk_data, hxd, hyd]; rfl
      have hx512 : x.size ≤ 512 := by omega
      have hy512 : y.size ≤ maxLen := by unfold maxLen; omega
      have hw2 : IntKind.i64.wrap ((m : Int) + 1) = (m : Int) + 1 := IntWalk.i64_in _ (by omega)
      have hm1 : (m : Int) + 1 ≤ b.size := by omega
      clear hn hX em hbd hbz hxd hyd hlen2 hm ex ey hxz hyz
      go_loopw [6, 7, 8, 9] (fun r i _ _ wr => ∃ j : Nat, j ≤ m ∧ r = .string b ∧ i = .int .i64 j ∧ St w wr w1.heap.size A ⟨#[]⟩ d) (fun _ i _ _ _ => m - (intOf i).toNat)
      case atStart => exact ⟨0, Nat.zero_le _, rfl, rfl, ST1.out⟩
      case round =>
        obtain ⟨j, hj, rfl, rfl, hst⟩ := hrel
        have STr := Lib.hid hst
        clear hst
        by_cases hlt : j < m
        · have hlt2 : j < b.size := by omega
          have hne := HN.out j hlt2 hlt
          go_wp2
          go_roundw
          case rel => exact ⟨j + 1, by omega, rfl, by go_num, STr.out⟩
          case measure => simp [intOf]; omega
        · obtain rfl : j = m := by omega
          cases hok : okC y.data.toList 65535
          case false =>
            have HC := Lib.hid (countV_f hok)
            have HP : Hid (parseL s.data.toList = none) := by
              show _ = _; rw [HPP.out, check_port (okC_not (.inl hok))]; rfl
            clear hok
            obtain ⟨⟨z0, z1, z2⟩, ⟨y0, y1, y2⟩, ⟨o0, o1, o2⟩, ⟨v0, v1, v2⟩, _, ltg⟩ := STr.out
            go_wp2_with fail
            rw [X4.out]
            refine (refCount_any y 65535 _ hy512 (by decide)).mono ?_
            rintro e w' ⟨rfl, rfl⟩
            rw [HC.out]
            go_wp2
            obtain ⟨q0, q1, q2⟩ := set3_org (W := wr) (g := w.heap.size) z0 z1 z2 ⟨#[]⟩ ⟨#[]⟩ 0
            refine bodyPost_ret (v := .tuple #[.agg #[.string ⟨#[]⟩, .string ⟨#[]⟩, .int .i64 0], .int .i64 3]) (by simp [results, Tryz.results86, go_sem, q0, q1, q2]) rfl ?_
            exact ⟨by rw [HV.out, HP.out]; rfl, set3_below STr.out.b (Nat.le_refl _) _ _ _⟩
          have HC := Lib.hid (countV_t hok)
          by_cases h1 : Lk.sat (Lk.valL y.data.toList) < 1
          · have HP : Hid (parseL s.data.toList = none) := by
              show _ = _; rw [HPP.out, check_port (okC_not (.inr h1))]; rfl
            clear hok
            generalize Lk.sat (Lk.valL y.data.toList) = v at *
            obtain ⟨⟨z0, z1, z2⟩, ⟨y0, y1, y2⟩, ⟨o0, o1, o2⟩, ⟨v0, v1, v2⟩, _, ltg⟩ := STr.out
            go_wp2_with fail
            rw [X4.out]
            refine (refCount_any y 65535 _ hy512 (by decide)).mono ?_
            rintro e w' ⟨rfl, rfl⟩
            rw [HC.out]
            go_wp2
            obtain ⟨q0, q1, q2⟩ := set3_org (W := wr) (g := w.heap.size) z0 z1 z2 ⟨#[]⟩ ⟨#[]⟩ 0
            refine bodyPost_ret (v := .tuple #[.agg #[.string ⟨#[]⟩, .string ⟨#[]⟩, .int .i64 0], .int .i64 3]) (by simp [results, Tryz.results86, go_sem, q0, q1, q2]) rfl ?_
            exact ⟨by rw [HV.out, HP.out]; rfl, set3_below STr.out.b (Nat.le_refl _) _ _ _⟩
          have HP : Hid (parseL s.data.toList = if checkL A.data.toList X.data.toList (Lk.sat (Lk.valL y.data.toList) : Int) then some (A.data.toList, X.data.toList, (Lk.sat (Lk.valL y.data.toList) : Int)) else none) := by
            show _ = _; rw [HPP.out, okC_port hok (by omega)]
          have hv2 : Lk.sat (Lk.valL y.data.toList) ≤ 65535 := by
            unfold okC at hok
            simp only [Bool.and_eq_true, decide_eq_true_eq] at hok
            exact hok.2
          clear hok
          generalize Lk.sat (Lk.valL y.data.toList) = v at *
          obtain ⟨⟨z0, z1, z2⟩, ⟨y0, y1, y2⟩, ⟨o0, o1, o2⟩, ⟨v0, v1, v2⟩, _, ltg⟩ := STr.out
          have STp := Lib.hid (STr.out.setP (v : Int))
          go_wp2_with fail
          rw [X4.out]
          refine (refCount_any y 65535 _ hy512 (by decide)).mono ?_
          rintro e w' ⟨rfl, rfl⟩
          rw [HC.out]
          go_wp2_with fail
          rw [X3.out]
          clear z0 z1 z2 y0 y1 y2 o0 o1 o2 v0 v1 v2
          refine (refLower_as x X _ (by unfold maxLen; omega) HX.out).mono ?_
          rintro e w3 ⟨rfl, hb⟩
          have ST3 := Lib.hid (STp.out.below hb)
          clear hb
          obtain ⟨⟨z0, z1, z2⟩, ⟨y0, y1, y2⟩, ⟨o0, o1, o2⟩, ⟨v0, v1, v2⟩, _, ltg⟩ := ST3.out
          obtain ⟨⟨m0, m1, m2⟩, ⟨n0, n1, n2⟩, ⟨p0, p1, p2⟩, ⟨r0, r1, r2⟩, _, _⟩ := ST3.out.setH X
          have ST4 := Lib.hid (ST3.out.setH X)
          go_wp2_with fail
          refine (refCheck_any A X (v : Int) _ (by unfold maxLen; omega)).mono ?_
          rintro e w5 ⟨rfl, hb⟩
          have ST5 := Lib.hid (ST4.out.below hb)
          clear hb z0 z1 z2 y0 y1 y2 o0 o1 o2 v0 v1 v2 m0 m1 m2 n0 n1 n2 p0 p1 p2 r0 r1 r2
          obtain ⟨⟨z0, z1, z2⟩, ⟨y0, y1, y2⟩, ⟨o0, o1, o2⟩, ⟨v0, v1, v2⟩, _, _⟩ := ST5.out
          cases hc : checkL A.data.toList X.data.toList (v : Int)
          · have HC := Lib.hid hc
            clear hc
            go_wp2
            obtain ⟨q0, q1, q2⟩ := set3_org (W := w5) (g := w.heap.size) z0 z1 z2 ⟨#[]⟩ ⟨#[]⟩ 0
            refine bodyPost_ret (v := .tuple #[.agg #[.string ⟨#[]⟩, .string ⟨#[]⟩, .int .i64 0], .int .i64 3]) (by simp [results, Tryz.results86, go_sem, q0, q1, q2]) rfl ?_
            exact ⟨by rw [HV.out, HP.out, HC.out]; rfl, set3_below ST5.out.b (Nat.le_refl _) _ _ _⟩
          · have HC := Lib.hid hc
            clear hc
            go_wp2
            obtain ⟨q0, q1, q2⟩ := set3_org (W := w5) (g := w.heap.size) z0 z1 z2 A X (v : Int)
            refine bodyPost_ret (v := .tuple #[.agg #[.string A, .string X, .int .i64 (v : Int)], .int .i64 0]) (by simp [results, Tryz.results86, go_sem, q0, q1, q2]) rfl ?_
            exact ⟨by rw [HV.out, HP.out, HC.out]; simp only [if_true, orgV, mk_eq], set3_below ST5.out.b (Nat.le_refl _) _ _ _⟩
end Go.Proofs.YtlkneapidmdpbaaGreatDoor
