/-
  The walk of the law TimerSorts: whatever the times, it returns true, and nothing that was there has turned. Conditions: the numbers lie where the slice says.
-/
import Derived.Test.YtbpdemgbljbhcaaWLawWaits
namespace Go.Proofs.Ytbpdemgbljbhcaa
open Go.RowKit

/-- each of s is one of the times of x, by its number -/
def Named (x : List Int) (s : List Al) : Prop := ∀ a ∈ s, ∃ i : Nat, x[i]? = some a.1 ∧ a.2.1 = (i : Int) + 1 ∧ a.2.2 = 1000 + (i : Int)
theorem Named.push {x : List Int} {s : List Al} (h : Named x s) {i : Nat} (hi : i < x.length) : Named x (s ++ [(x[i], (i : Int) + 1, 1000 + (i : Int))]) := by
  intro a ha
  rcases List.mem_append.1 ha with ha | ha
  · exact h a ha
  · obtain rfl := List.mem_singleton.1 ha
    exact ⟨i, List.getElem?_eq_getElem hi, rfl, rfl⟩
theorem Named.without {x : List Int} {s : List Al} (h : Named x s) (i : Int) : Named x (without i s) := fun a ha => h a (List.mem_filter.1 ha).1
theorem without_mem {i : Int} {s : List Al} {a : Al} (h : a ∈ without i s) : a ∈ s ∧ a.2.1 ≠ i := by
  have := List.mem_filter.1 h
  exact ⟨this.1, by simpa using this.2⟩
theorem any_without (i : Int) (s : List Al) : (without i s).any (fun a => decide (a.2.1 = i)) = false := by
  rw [List.any_eq_false]
  intro a ha
  simpa using (without_mem ha).2
/-- all of s stands behind this time and number -/
def Behind (t n : Int) (s : List Al) : Prop := ∀ b ∈ s, t < b.1 ∨ (t = b.1 ∧ n < b.2.1)
theorem Behind.next {s : List Al} {m : Al} (hm : Fore s m) : Behind m.1 m.2.1 (Proofs.Ytbpdemgbljbhcaa.without m.2.1 s) := by
  intro b hb
  obtain ⟨h1, h2⟩ := without_mem hb
  have := hm.min b h1
  rw [aLe_iff] at this
  omega
/-- the numbers from 1 to k are among s -/
def Has (k : Nat) (s : List Al) : Prop := ∀ i : Nat, i < k → ∃ a ∈ s, a.2.1 = (i : Int) + 1
theorem Has.push {k : Nat} {s : List Al} (h : Has k s) (t g : Int) : Has (k + 1) (s ++ [(t, (k : Int) + 1, g)]) := by
  intro i hi
  by_cases e : i = k
  · subst e; exact ⟨_, List.mem_append_right _ (List.mem_singleton.2 rfl), rfl⟩
  · obtain ⟨a, ha, he⟩ := h i (by omega)
    exact ⟨a, List.mem_append_left _ ha, he⟩

set_option maxRecDepth 10000 in
set_option maxHeartbeats 2400000 in
/-- what follows behind the cancelling: all are due, in order -/
theorem walk_TimerSorts (a0 : Option Addr) (c0 : Nat) (x0 : List Int) (a1 : Int) (w : World) (h0 : IArg .u64 w a0 c0 x0) (_h1 : (Lit.int .i64 a1).wf = true) :
    Calls Try.prog 4 #[.slice a0 x0.length c0, .int .i64 a1] w fun e w' => e = .returned (.bool true) ∧ Below w.heap.size w w' := by
  clear _h1
  have H0 := Lib.hid h0
  have hl0 := h0.2.2.1
  have hm0 := h0.2.2.2
  unfold maxLen at hm0
  clear h0
  by_cases hb1 : 200 < x0.length
  · go_enter Try.func4, Try.ntmps4
    go_wp2_with fail
    refine (awake9_any _).mono ?_
    rintro e w' ⟨rfl, hb⟩
    go_wp2
    go_ret
    exact ⟨rfl, hb⟩
  go_enter Try.func4, Try.ntmps4
  go_wp2_with fail
  refine (wheelNew_wh 256 w).mono ?_
  rintro e w1 ⟨rfl, hw1, ho1, _⟩
  have HW1 : Hid (Wh w1 w.heap.size 256 1 (.slice none 0 0) []) := hw1
  have HB1 : Hid (Below w.heap.size w w1) := ho1.to_below (by simp)
  clear hw1 ho1
  go_wp2_with fail
  go_loopw [6] (fun i wr => ∃ (k : Nat) (v : Value) (s : List Al), k ≤ x0.length ∧ i = .int .i64 k ∧ s.length = k ∧ Named x0 s ∧ Has k s ∧ Wh wr w.heap.size 256 ((k : Int) + 1) v s ∧ Below w.heap.size w wr) (fun i _ => x0.length - (intOf i).toNat)
  case atStart => exact ⟨0, _, [], by omega, rfl, rfl, (fun a ha => by simp at ha), (fun i hi => by omega), HW1.out, HB1.out⟩
  case round =>
    obtain ⟨k, v, s, hk, rfl, hsl, hnm, hhs, hw, hb⟩ := hrel
    have HSL := Lib.hid hsl
    have HNM := Lib.hid hnm
    have HHS := Lib.hid hhs
    have HW := Lib.hid hw
    have HB := Lib.hid hb
    clear hsl hnm hhs hw hb
    by_cases hlt : k < x0.length
    · obtain ⟨ad, e1, hB, hcell, hwf⟩ := H0.out.at_ hlt
      have hcl : wr.cell? (ad.add k) = some (.int .u64 x0[k]) := (below_add HB.out hB).trans hcell
      have HN2 := Lib.hid (HNM.out.push hlt)
      obtain ⟨x, hx⟩ : ∃ x, x = x0[k] := ⟨_, rfl⟩
      rw [← hx] at hcl
      rw [← hx] at HN2
      clear hx hcell hwf hB
      subst e1
      go_wp2_with fail
      refine (wheelArm_room w.heap.size 256 ((k : Int) + 1) v s x (1000 + (k : Int)) wr HW.out (by rw [HSL.out]; omega) (by omega) (by omega) (by omega)).mono ?_
      rintro e w2 ⟨rfl, v2, hw2, ho2, _⟩
      have HW2 := Lib.hid hw2
      have HB2 : Hid (Below w.heap.size w w2) := Only.above HB.out ho2 (Nat.le_refl _) (HW.out.up (Nat.le_refl _)).foot
      clear hw2 ho2 hcl
      go_wp2_with fail
      go_roundw
      case rel =>
        exact ⟨k + 1, v2, _, by omega, by go_num, by rw [List.length_append, HSL.out]; rfl, HN2.out, HHS.out.push _ _, HW2.out, HB2.out⟩
      case measure => simp [intOf]; omega
    · obtain rfl : k = x0.length := by omega
      by_cases hz : x0.length = 0
      · obtain ⟨gone, hgone⟩ : ∃ gone : Int, gone = 0 := ⟨0, rfl⟩
        obtain ⟨M, hM⟩ : ∃ M, M = 1 := ⟨1, rfl⟩
        obtain ⟨v6, hv6⟩ : ∃ v6, v6 = v := ⟨_, rfl⟩
        obtain ⟨s6, hs6⟩ : ∃ s6, s6 = s := ⟨_, rfl⟩
        rw [← hv6, ← hs6] at HW
        rw [← hs6] at HSL HNM
        obtain rfl : s6 = [] := List.eq_nil_of_length_eq_zero (by rw [HSL.out, hz])
        have HM : Hid (1 ≤ M ∧ M ≤ 200 ∧ ((x0.length = 0 ∧ M = 1) ∨ M = x0.length)) := ⟨by omega, by omega, by omega⟩
        have HSL6 : Hid (([] : List Al).length + 1 = M) := by show _ = _; rw [hM]; rfl
        have HNM6 := HNM
        have HGO6 : Hid (∀ a ∈ ([] : List Al), a.2.1 ≠ (0 : Int)) := by show ∀ a ∈ _, _; simp
        have HBH6 : Hid (Behind 0 0 []) := fun b hb => by simp at hb
        have HW6 := HW
        have HB6 := HB
        have hz2 : (x0.length : Int) = 0 := by omega
        clear hv6 hs6 hM
        go_wp2_with fail
        clear hz2
        go_wp2_with fail
        go_loopw [10, 11, 12] (fun la at_ i wr => ∃ (k : Nat) (l t : Int) (v : Value) (s : List Al), 1 ≤ k ∧ k ≤ M ∧ la = .int .i64 l ∧ at_ = .int .u64 t ∧ i = .int .i64 k ∧ s.length + k = M ∧ Named x0 s ∧ (∀ a ∈ s, a.2.1 ≠ (0 : Int)) ∧ Behind t l s ∧ Wh wr w.heap.size 256 ((x0.length : Int) + 1) v s ∧ Below w.heap.size w wr) (fun _ _ i _ => M - (intOf i).toNat)
        case atStart => exact ⟨1, 0, 0, v6, _, by omega, HM.out.1, rfl, rfl, rfl, HSL6.out, HNM6.out, HGO6.out, HBH6.out, HW6.out, HB6.out⟩
        case round =>
          obtain ⟨k, l, t, v, s, hk1, hkM, rfl, rfl, rfl, hsl, hnm, hgo, hbh, hw, hb⟩ := hrel
          have HSL := Lib.hid hsl
          have HNM := Lib.hid hnm
          have HGO := Lib.hid hgo
          have HBH := Lib.hid hbh
          have HW := Lib.hid hw
          have HB := Lib.hid hb
          clear hsl hnm hgo hbh hw hb
          by_cases hlt : k < x0.length
          · exact absurd hlt (by omega)
          · have hs0 : s = [] := List.eq_nil_of_length_eq_zero (by have := HSL.out; have := HM.out; omega)
            subst hs0
            go_wp2_with fail
            refine (wheelDue_none w.heap.size 256 _ v [] 18446744073709551615 wr HW.out (by simp) (by simp)).mono ?_
            rintro e w' ⟨rfl, rfl⟩
            go_wp2_with fail
            refine (wheelLen_any w.heap.size 256 _ v [] _ HW.out).mono ?_
            rintro e w' ⟨rfl, rfl⟩
            go_wp2_with fail
            refine (awake9_any _).mono ?_
            rintro e w5 ⟨rfl, hb5⟩
            go_wp2
            go_ret
            exact ⟨rfl, HB.out.trans (hb5.mono HB.out.size)⟩
      · obtain ⟨q, hq⟩ : ∃ q : Nat, lowV a1 (x0.length : Int) = (q : Int) := ⟨(lowV a1 (x0.length : Int)).toNat, by have := lowV_bd a1 (n := (x0.length : Int)) (by omega); omega⟩
        have hq2 : q < x0.length := by have := lowV_bd a1 (n := (x0.length : Int)) (by omega); omega
        have HQ := Lib.hid hq
        have HQ2 := Lib.hid hq2
        obtain ⟨a, ha, he⟩ := HHS.out q hq2
        obtain ⟨gone, hgone⟩ : ∃ gone : Int, gone = 1 + (q : Int) := ⟨_, rfl⟩
        have heg : a.2.1 = gone := by omega
        have HG := Lib.hid hgone
        have HA : Hid (s.any (fun a => decide (a.2.1 = gone)) = true) := any_yes ha heg
        have HL1 : Hid ((without gone s).length + 1 = x0.length) := by
          show _ = _
          have := without_len HW.out.ids ha heg
          have := HSL.out
          omega
        have hz2 : (0 : Int) < (x0.length : Int) := by omega
        clear hq ha he heg hq2 hgone
        go_wp2_with fail
        refine (Low_any a1 (x0.length : Int) wr (by omega) (by omega)).mono ?_
        rintro e w' ⟨rfl, rfl⟩
        rw [HQ.out]
        have hq3 := HQ2.out
        go_wp2_with fail
        rw [← HG.out]
        clear hq3
        refine (wheelCancel_any w.heap.size 256 _ v s gone _ HW.out (by have := HSL.out; omega)).mono ?_
        rintro e w5 ⟨rfl, v5, hw5, ho5, _⟩
        rw [HA.out]
        have HW5 := Lib.hid hw5
        have HB5 : Hid (Below w.heap.size w w5) := Only.above HB.out ho5 (Nat.le_refl _) (HW.out.up (Nat.le_refl _)).foot
        obtain ⟨s6, hs6⟩ : ∃ s6, s6 = without gone s := ⟨_, rfl⟩
        have HNM6 : Hid (Named x0 s6) := by show Named _ _; rw [hs6]; exact HNM.out.without _
        have HGO6 : Hid (∀ a ∈ s6, a.2.1 ≠ gone) := by show ∀ a ∈ _, _; rw [hs6]; exact fun a ha => (without_mem ha).2
        have HNO : Hid (s6.any (fun a => decide (a.2.1 = gone)) = false) := by show _ = _; rw [hs6]; exact any_without _ _
        have HWS : Hid (without gone s6 = s6) := without_none HGO6.out
        rw [← hs6] at HW5 HL1
        obtain ⟨M, hM⟩ : ∃ M, M = x0.length := ⟨_, rfl⟩
        have HM : Hid (1 ≤ M ∧ M ≤ 200 ∧ ((x0.length = 0 ∧ M = 1) ∨ M = x0.length)) := ⟨by omega, by omega, by omega⟩
        have HSL6 : Hid (s6.length + 1 = M) := by show _ = _; rw [hM]; exact HL1.out
        have HBH6 : Hid (Behind 0 0 s6) := by
          intro b hb
          obtain ⟨i, hi, h2, _⟩ := HNM6.out b hb
          obtain ⟨hil, hie⟩ := List.getElem?_eq_some_iff.1 hi
          obtain ⟨_, _, _, _, hwf⟩ := H0.out.at_ hil
          rw [hie] at hwf
          have := wfU hwf
          omega
        clear hw5 ho5 hs6 hM
        go_wp2_with fail
        refine (wheelCancel_any w.heap.size 256 _ v5 s6 gone _ HW5.out (by have := HL1.out; omega)).mono ?_
        rintro e w6 ⟨rfl, v6, hw6, ho6, _⟩
        rw [HNO.out]
        rw [HWS.out] at hw6
        have HW6 := Lib.hid hw6
        have HB6 : Hid (Below w.heap.size w w6) := Only.above HB5.out ho6 (Nat.le_refl _) (HW5.out.up (Nat.le_refl _)).foot
        clear hw6 ho6 hz2
        go_wp2_with fail
        go_loopw [10, 11, 12] (fun la at_ i wr => ∃ (k : Nat) (l t : Int) (v : Value) (s : List Al), 1 ≤ k ∧ k ≤ M ∧ la = .int .i64 l ∧ at_ = .int .u64 t ∧ i = .int .i64 k ∧ s.length + k = M ∧ Named x0 s ∧ (∀ a ∈ s, a.2.1 ≠ gone) ∧ Behind t l s ∧ Wh wr w.heap.size 256 ((x0.length : Int) + 1) v s ∧ Below w.heap.size w wr) (fun _ _ i _ => M - (intOf i).toNat)
        case atStart => exact ⟨1, 0, 0, v6, _, by omega, HM.out.1, rfl, rfl, rfl, HSL6.out, HNM6.out, HGO6.out, HBH6.out, HW6.out, HB6.out⟩
        case round =>
          obtain ⟨k, l, t, v, s, hk1, hkM, rfl, rfl, rfl, hsl, hnm, hgo, hbh, hw, hb⟩ := hrel
          have HSL := Lib.hid hsl
          have HNM := Lib.hid hnm
          have HGO := Lib.hid hgo
          have HBH := Lib.hid hbh
          have HW := Lib.hid hw
          have HB := Lib.hid hb
          clear hsl hnm hgo hbh hw hb
          by_cases hlt : k < x0.length
          · have hpos : 0 < s.length := by have := HSL.out; have := HM.out; omega
            obtain ⟨m, hm⟩ := Fore.ex (s := s) (List.ne_nil_of_length_pos hpos)
            obtain ⟨j, hj, hm2, hm3⟩ := HNM.out m hm.mem
            have hg := HGO.out m hm.mem
            have hbf := HBH.out m hm.mem
            obtain ⟨hjl, hje⟩ := List.getElem?_eq_some_iff.1 hj
            obtain ⟨ad, e1, hB, hcell, hwf⟩ := H0.out.at_ hjl
            rw [hje] at hcell hwf
            obtain ⟨m1, m2, m3⟩ := m
            simp only at hm2 hm3 hg hbf hcell hwf
            obtain ⟨px, qx⟩ := wfU hwf
            have HM1 := Lib.hid hm
            subst hm2
            have h999 : 999 + ((j : Int) + 1) = m3 := by omega
            have H999 := Lib.hid h999
            clear hm3
            have HC := Lib.hid hcell
            have HBk := Lib.hid hB
            subst e1
            clear hpos hm hj hje hcell hwf hB h999
            go_wp2_with fail
            refine (wheelDue_some w.heap.size 256 _ v s _ 18446744073709551615 wr HW.out HM1.out qx (by have := HSL.out; have := HM.out; omega)).mono ?_
            rintro e w4 ⟨rfl, v4, hw4, ho4, _⟩
            have HW4 := Lib.hid hw4
            have HB4 : Hid (Below w.heap.size w w4) := Only.above HB.out ho4 (Nat.le_refl _) (HW.out.up (Nat.le_refl _)).foot
            have hcl : w4.cell? (ad.add j) = some (.int .u64 m1) := (below_add HB4.out HBk.out).trans HC.out
            clear hw4 ho4
            have HREL : Hid ((without ((j : Int) + 1) s).length + (k + 1) = M ∧ Behind m1 ((j : Int) + 1) (without ((j : Int) + 1) s)) := by
              refine ⟨?_, Behind.next HM1.out⟩
              have h1 := without_len HW.out.ids HM1.out.mem rfl
              have := HSL.out
              simp only at h1
              omega
            have hkM2 : k + 1 ≤ M := by have := HM.out; omega
            have HK2 := Lib.hid hkM2
            have hnlt : ¬ m1 < t := by omega
            have h999 := H999.out
            have hg2 : ((j : Int) + 1 == gone) = false := by simpa using hg
            have hj1 : (1 : Int) ≤ (j : Int) + 1 := by omega
            have hj2 : (j : Int) + 1 ≤ (x0.length : Int) := by omega
            by_cases heq : m1 = t
            · have hnle : ¬ (j : Int) + 1 ≤ l := by omega
              go_wp2_with fail
              go_quiet (fail)
              go_wp2_with fail
              go_roundw
              case rel =>
                exact ⟨k + 1, _, _, v4, _, by omega, HK2.out, rfl, rfl, by go_num, HREL.out.1, HNM.out.without _, fun a ha => HGO.out a (without_mem ha).1, (by have := HREL.out.2; rw [heq] at this; exact this), HW4.out.old ((Only.refl _ _).drewN _), Only.above HB4.out ((Only.refl [] _).drewN _) (Nat.le_refl _) (by simp)⟩
              case measure => have := HK2.out; simp [intOf]; omega
            · go_wp2_with fail
              go_quiet (fail)
              go_wp2_with fail
              go_roundw
              case rel =>
                exact ⟨k + 1, _, _, v4, _, by omega, HK2.out, rfl, rfl, by go_num, HREL.out.1, HNM.out.without _, fun a ha => HGO.out a (without_mem ha).1, HREL.out.2, HW4.out.old ((Only.refl _ _).drewN _), Only.above HB4.out ((Only.refl [] _).drewN _) (Nat.le_refl _) (by simp)⟩
              case measure => have := HK2.out; simp [intOf]; omega
          · have hs0 : s = [] := List.eq_nil_of_length_eq_zero (by have := HSL.out; have := HM.out; omega)
            subst hs0
            go_wp2_with fail
            refine (wheelDue_none w.heap.size 256 _ v [] 18446744073709551615 wr HW.out (by simp) (by simp)).mono ?_
            rintro e w' ⟨rfl, rfl⟩
            go_wp2_with fail
            refine (wheelLen_any w.heap.size 256 _ v [] _ HW.out).mono ?_
            rintro e w' ⟨rfl, rfl⟩
            go_wp2_with fail
            refine (awake9_any _).mono ?_
            rintro e w5 ⟨rfl, hb5⟩
            go_wp2
            go_ret
            exact ⟨rfl, HB.out.trans (hb5.mono HB.out.size)⟩
end Go.Proofs.Ytbpdemgbljbhcaa
