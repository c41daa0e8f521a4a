/-
  The walk of the law RingRooms: it returns true, and nothing that was there has turned. Conditions: the bytes lie where the slice says.
-/
import Derived.Test.YtbafbcemffhjbaaRAwake
import Derived.Test.YtbafbcemffhjbaaKLow
namespace Go.Proofs.Ytbafbcemffhjbaa
open Go.RowKit

set_option maxRecDepth 20000 in
set_option maxHeartbeats 3200000 in
theorem walk_RingRooms (a0 : Int) (a1 : Option Addr) (c1 : Nat) (x1 : List Int) (a2 : Int) (w : World) (_h0 : (Lit.int .i64 a0).wf = true) (h1 : IArg .u8 w a1 c1 x1) (_h2 : (Lit.int .i64 a2).wf = true) :
    Calls Try.prog 5 #[.int .i64 a0, .slice a1 x1.length c1, .int .i64 a2] w fun e w' => e = .returned (.bool true) ∧ Below w.heap.size w w' := by
  clear _h0 _h2
  obtain ⟨b, hb1, hb2⟩ := h1.bytes
  have hl1 := h1.2.2.1
  have hm1 := h1.2.2.2
  clear h1
  rw [← hb1] at hl1 ⊢
  clear hb1
  obtain ⟨B, hB⟩ : ∃ B, B = b.length := ⟨_, rfl⟩
  have HB2 := Lib.hid hb2
  have HBE := Lib.hid hB
  have HM := Lib.hid hm1
  rw [← hB] at hl1 ⊢
  clear hB hb2
  by_cases hb1 : 300 < B
  · unfold maxLen at hm1
    go_enter Try.func5, Try.ntmps5
    go_wp2_with fail
    refine (awake10_any _).mono ?_
    rintro e w' ⟨rfl, hb⟩
    go_wp2
    go_ret
    exact ⟨rfl, hb⟩
  clear hm1
  obtain ⟨K0, hK0⟩ : ∃ K0 : Nat, lowV a0 400 = (K0 : Int) := ⟨(lowV a0 400).toNat, by have := lowV_bd a0 (n := 400) (by omega); omega⟩
  obtain ⟨K, hK⟩ : ∃ K : Nat, (1 + (K0 : Int)) = (K : Int) := ⟨K0 + 1, by omega⟩
  have hKb : 1 ≤ K ∧ K ≤ 400 := by have := lowV_bd a0 (n := 400) (by omega); omega
  have hK0b : K0 < 400 := by have := lowV_bd a0 (n := 400) (by omega); omega
  have HK0 := Lib.hid hK0
  obtain ⟨q, hq⟩ : ∃ q : Nat, lowV a2 100 = (q : Int) := ⟨(lowV a2 100).toNat, by have := lowV_bd a2 (n := 100) (by omega); omega⟩
  have hqb : q < 100 := by have := lowV_bd a2 (n := 100) (by omega); omega
  have HK := Lib.hid hK
  have HQ := Lib.hid hq
  have HCK : Hid (clampR (K : Int) = K) := by show _ = _; unfold clampR; rw [if_neg (by omega), if_neg (by omega)]; omega
  clear hK hq hK0
  go_enter Try.func5, Try.ntmps5
  go_wp2_with fail
  refine (Low_any a0 400 w (by omega) (by omega)).mono ?_
  rintro e w' ⟨rfl, rfl⟩
  rw [HK0.out]
  go_wp2_with fail
  rw [HK.out]
  clear hK0b
  refine (ringNew_any (K : Int) w).mono ?_
  rintro e w1 ⟨g, gd, rfl, hr1, ho1, hg, hgd⟩
  rw [HCK.out] at hr1
  have HR1 := Lib.hid hr1
  have HO1 := Lib.hid ho1
  have HG : Hid (w.heap.size ≤ g ∧ w.heap.size ≤ gd) := ⟨hg, hgd⟩
  have HBA : Hid (BArg w1 [gd] a1 b) := HB2.out w1 [gd] (ho1.mono (by simp)) (by simpa using hgd)
  clear hr1 ho1 hg hgd HB2
  obtain ⟨P, hP⟩ : ∃ P, P = roomed K [] b := ⟨_, rfl⟩
  have hPe : P = min B K := by rw [hP, HBE.out]; rfl
  obtain ⟨T, hT⟩ : ∃ T, T = min q P := ⟨_, rfl⟩
  obtain ⟨L, hL⟩ : ∃ L, L = P - T := ⟨_, rfl⟩
  have HPE := Lib.hid hP
  have HLB : Hid ((b.take P).length = P) := by show _ = _; rw [List.length_take, ← HBE.out]; omega
  have HT : Hid (upto (q : Int) (b.take P) = T) := by show _ = _; unfold upto; rw [HLB.out, hT]; omega
  have HLT : Hid (((b.take P).take T).length = T ∧ ((b.take P).drop T).length = L) := by show _ ∧ _; rw [List.length_take, List.length_drop, HLB.out]; omega
  have HPP : Hid (P ≤ B ∧ P ≤ K ∧ T ≤ P ∧ L ≤ K ∧ T ≤ q) := by show _ ∧ _; omega
  have hc1 : (B ≤ K ∧ P = B) ∨ (¬ B ≤ K ∧ P = K) := by omega
  have hc2 : (P ≤ q ∧ T = P) ∨ (¬ P ≤ q ∧ T = q) := by omega
  have HL : Hid (((P : Int) - (T : Int)) = (L : Int)) := by show _ = _; omega
  clear hP hPe hT hL
  go_wp2_with fail
  refine (ringPut_any g gd K [] a1 B c1 b w1 HR1.out HBE.out HBA.out (by rw [← HBE.out]; exact hl1) HM.out).mono ?_
  rintro e w2 ⟨rfl, hr2, ho2⟩
  rw [← HPE.out] at hr2 ⊢
  have HR2 : Hid (RgAt w2 g gd K (b.take P)) := hr2
  have HO2 : Hid (Only [g, gd] w w2) := (HO1.out.mono (by simp)).trans ho2
  clear hr2 ho2
  go_wp2_with fail
  refine (Low_any a2 100 w2 (by omega) (by omega)).mono ?_
  rintro e w' ⟨rfl, rfl⟩
  rw [HQ.out]
  go_wp2_with fail
  refine (ringTake_any g gd K (b.take P) (q : Int) w2 HR2.out).mono ?_
  rintro e w3 ⟨v3, rfl, hk3, hr3, ho3⟩
  rw [HT.out] at hk3 hr3
  obtain ⟨A3, cap3, hs3, _, _⟩ := hk3.slice
  rw [HLT.out.1] at hs3
  subst hs3
  have HR3 := Lib.hid hr3
  have HO3 : Hid (Only [g, gd] w w3) := HO2.out.trans (ho3.mono (by simp))
  clear hr3 ho3 hk3
  obtain ⟨l, hl⟩ : ∃ l, l = (b.take P).drop T := ⟨_, rfl⟩
  rw [← hl] at HR3 HLT
  clear hl
  go_wp2_with fail
  refine (ringPeek_any g gd K l w3 HR3.out).mono ?_
  rintro e w4 ⟨v4, rfl, hk4, ho4⟩
  have HR4 := Lib.hid (HR3.out.old ho4)
  have HK4 := Lib.hid hk4
  have HO4 : Hid (Only [g, gd] w w4) := HO3.out.trans (ho4.mono (by simp))
  clear hk4 ho4
  go_wp2_with fail
  refine (ringPeek_any g gd K l w4 HR4.out).mono ?_
  rintro e w5 ⟨v5, rfl, hk5, ho5⟩
  have HR5 := Lib.hid (HR4.out.old ho5)
  have HK5 := Lib.hid hk5
  have hcv5 := hk5.conv
  have hcv4 := (HK4.out.old ho5).conv
  have HO5 : Hid (Only [g, gd] w w5) := HO4.out.trans (ho5.mono (by simp))
  clear hk5 ho5
  rcases hc1 with ⟨h1, h2⟩ | ⟨h1, h2⟩
  all_goals
    subst h2
    go_wp2_with fail
    refine (Low_any a2 100 w5 (by omega) (by omega)).mono ?_
    rintro e w' ⟨rfl, rfl⟩
    rw [HQ.out]
  all_goals rcases hc2 with ⟨h3, h4⟩ | ⟨h3, h4⟩
  all_goals
    subst h4
    try (have hL0 : L = 0 := by have := HL.out; omega
         subst hL0)
    go_wp2_with fail
    refine (ringLen_any _ _ _ _ _ HR5.out).mono ?_
    rintro e w' ⟨rfl, rfl⟩
    rw [HLT.out.2]
    clear hcv4 hcv5
    go_wp2_with fail
    refine (ringRoom_any _ _ _ _ _ HR5.out).mono ?_
    rintro e w6 ⟨rfl, n6, hn6⟩
    rw [HLT.out.2]
    have HR6 := Lib.hid (HR5.out.old (w' := w6) (by rw [hn6]; exact (Only.refl [] _).drewN n6))
    have HO6 : Hid (Only [g, gd] w w6) := by show Only _ _ _; rw [hn6]; exact HO5.out.drewN n6
    clear hn6
    have hLK := HPP.out.2.2.2.1
    go_wp2_with fail
    refine (ringLen_any _ _ _ _ _ HR6.out).mono ?_
    rintro e w' ⟨rfl, rfl⟩
    rw [HLT.out.2]
    have hL := HL.out
    go_wp2_with fail
    refine (ringClear_any _ _ _ _ _ HR6.out).mono ?_
    rintro e w7 ⟨rfl, hr7, ho7⟩
    rw [HLT.out.2]
    have HR7 := Lib.hid hr7
    have HO7 : Hid (Only [g, gd] w w7) := HO6.out.trans (ho7.mono (by simp))
    clear hr7 ho7
    go_wp2_with fail
    refine (ringRoom_any _ _ _ _ _ HR7.out).mono ?_
    rintro e w8 ⟨rfl, n8, hn8⟩
    have HB8 : Hid (Below w.heap.size w w8) := by
      show Below _ _ _
      rw [hn8]
      exact (HO7.out.drewN n8).to_below (by have := HG.out; simp; omega)
    clear hn8
    go_wp2_with fail
    refine (awake10_any _).mono ?_
    rintro e w' ⟨rfl, hb⟩
    have HBE2 := Lib.hid (HB8.out.trans (hb.mono (by have := HB8.out.size; exact this)))
    clear hb
    go_wp2
    go_ret
    exact ⟨rfl, HBE2.out⟩
end Go.Proofs.Ytbafbcemffhjbaa
