/-
  The walk of the law StreamStopped: what has stopped has nothing and stops once, and nothing that was there has turned. Conditions: the bytes lie where the slice says.
-/
import Derived.Test.YtaadffheadimpaaSAwake
import Derived.Test.YtaadffheadimpaaSStop
namespace Go.Proofs.Ytaadffheadimpaa
open Go.RowKit

set_option maxRecDepth 20000 in
set_option maxHeartbeats 4000000 in
theorem walk_StreamStopped (a0 : Option Addr) (c0 : Nat) (x0 : List Int) (a1 : Bool) (w : World) (h0 : IArg .u8 w a0 c0 x0) :
    Calls Try.prog 6 #[.slice a0 x0.length c0, .bool a1] w fun e w' => e = .returned (.bool true) ∧ Below w.heap.size w w' := by
  obtain ⟨b, hb, hba⟩ := h0.bytes
  have hlc := h0.2.2.1
  have hcm := h0.2.2.2
  have HBA := Lib.hid hba
  obtain ⟨bl, hbl⟩ : ∃ bl, bl = x0.length := ⟨_, rfl⟩
  rw [← hbl] at hlc hb ⊢
  have HBL : Hid (bl = b.length) := hb.symm
  have HCM := Lib.hid hcm
  clear hba hb hbl h0
  by_cases h1 : bl < 1 ∨ 64 < bl
  · rcases h1 with h1 | h1
    · have h2 : (bl : Int) < 1 := by omega
      go_enter Try.func6, Try.ntmps6
      go_wp2_with fail
      refine (awake11_any _).mono ?_
      rintro e w' ⟨rfl, hb⟩
      go_wp2
      go_ret
      exact ⟨rfl, hb⟩
    · have h2 : ¬ (bl : Int) < 1 := by omega
      have h3 : (64 : Int) < (bl : Int) := by omega
      go_enter Try.func6, Try.ntmps6
      go_wp2_with fail
      refine (awake11_any _).mono ?_
      rintro e w' ⟨rfl, hb⟩
      go_wp2
      go_ret
      exact ⟨rfl, hb⟩
  have h2 : ¬ (bl : Int) < 1 := by omega
  have h3 : ¬ (64 : Int) < (bl : Int) := by omega
  have HLEN : Hid (1 ≤ b.length ∧ b.length ≤ 64 ∧ b.length ≤ c0) := by show _ ∧ _; have := HBL.out; omega
  clear h1
  go_enter Try.func6, Try.ntmps6
  go_wp2_with fail
  clear h2 h3
  refine (strNew_any 1000 5 w).mono ?_
  rintro e w1 ⟨g, gr, gd, rfl, hx1, ho1, hg1, hg2, hg3⟩
  rw [show clampH 1000 = 1000 from rfl, show clampW 1000 5 = 5 from rfl] at hx1
  have HX1 := Lib.hid hx1
  have HO1 : Hid (Only [g, gr, gd] w w1) := ho1.mono (by simp)
  have HG : Hid (w.heap.size ≤ g ∧ w.heap.size ≤ gr ∧ w.heap.size ≤ gd) := ⟨hg1, hg2, hg3⟩
  have HBX : Hid (∀ W, Only [g, gr, gd] w W → BArg W [g, gr, gd] a0 b) := by
    show ∀ W, _
    intro W ho
    exact HBA.out W _ ho (by have := HG.out; simp; omega)
  clear hx1 ho1 hg1 hg2 hg3
  have HC0 : Hid (chunkC ⟨1, false, []⟩ b = 0) := by
    show _ = _
    have := HLEN.out
    unfold chunkC
    rw [if_neg (by simp), if_neg (by omega), if_neg (by simp)]
  go_wp2_with fail
  refine (strChunk_any g gr gd 1000 5 _ a0 bl c0 b w1 HX1.out HBL.out (HBX.out _ HO1.out) HLEN.out.2.2 HCM.out).mono ?_
  rintro e w2 ⟨rfl, hx2, ho2⟩
  rw [HC0.out]
  have HS2 : Hid (∃ p l, chunkS 1000 ⟨1, false, []⟩ b = ⟨1, p, l⟩) := by show ∃ p l, _; unfold chunkS; rw [if_pos HC0.out]; exact ⟨_, _, rfl⟩
  obtain ⟨p2, l2, hs2⟩ := HS2.out
  rw [hs2] at hx2
  have HX2 := Lib.hid hx2
  have HO2 : Hid (Only [g, gr, gd] w w2) := HO1.out.trans ho2
  clear hx2 ho2 hs2 HS2
  have key : ∀ (st : Nat) (p : Bool) (l : List UInt8) (w3 : World), st ≠ 3 → StAt w3 g gr gd 1000 5 ⟨st, p, l⟩ → Only [g, gr, gd] w w3 → stopC ⟨st, p, l⟩ = true ∧ stopS ⟨st, p, l⟩ = ⟨3, false, []⟩ := by
    intro st p l w3 h _ _
    unfold stopC stopS
    simp [h]
  have HKEY := Lib.hid key
  clear key
  cases a1
  case' true =>
    go_wp2_with fail
    refine (strEnd_any g gr gd 1000 5 _ w2 HX2.out).mono ?_
    rintro e w3 ⟨rfl, hx3, ho3⟩
    rw [show endS ⟨1, p2, l2⟩ = ⟨2, false, l2⟩ from rfl] at hx3
    have HX3 := Lib.hid hx3
    have HO3 : Hid (Only [g, gr, gd] w w3) := HO2.out.trans (ho3.mono (by simp))
    have HK3 := Lib.hid (HKEY.out _ _ _ w3 (by decide) HX3.out HO3.out)
    clear hx3 ho3 HX2 HO2
  case' false =>
    have HX3 := HX2
    have HO3 := HO2
    have HK3 := Lib.hid (HKEY.out _ _ _ w2 (by decide) HX3.out HO3.out)
    clear HX2 HO2
  all_goals
    go_wp2_with fail
    refine (strStop_any g gr gd 1000 5 _ _ HX3.out).mono ?_
    rintro e w4 ⟨rfl, hx4, ho4⟩
    rw [HK3.out.1]
    rw [HK3.out.2] at hx4
    have HX4 := Lib.hid hx4
    have HO4 : Hid (Only [g, gr, gd] w w4) := HO3.out.trans (ho4.mono (by simp))
    clear hx4 ho4
    go_wp2_with fail
    refine (strStop_any g gr gd 1000 5 _ w4 HX4.out).mono ?_
    rintro e w5 ⟨rfl, hx5, ho5⟩
    rw [show stopC ⟨3, false, []⟩ = false from rfl]
    rw [show stopS ⟨3, false, []⟩ = ⟨3, false, []⟩ from rfl] at hx5
    have HX5 := Lib.hid hx5
    have HO5 : Hid (Only [g, gr, gd] w w5) := HO4.out.trans (ho5.mono (by simp))
    clear hx5 ho5
    go_wp2_with fail
    refine (strLen_any g gr gd 1000 5 _ w5 HX5.out).mono ?_
    rintro e w' ⟨rfl, rfl⟩
    go_wp2_with fail
    refine (strOver_any g gr gd 1000 5 _ w5 HX5.out).mono ?_
    rintro e w' ⟨rfl, rfl⟩
    rw [show overC ⟨3, false, []⟩ = true from rfl]
    go_wp2_with fail
    refine (strPaused_any g gr gd 1000 5 _ w5 HX5.out).mono ?_
    rintro e w' ⟨rfl, rfl⟩
    go_wp2_with fail
    refine (strChunk_any g gr gd 1000 5 _ a0 bl c0 b w5 HX5.out HBL.out (HBX.out _ HO5.out) HLEN.out.2.2 HCM.out).mono ?_
    rintro e w6 ⟨rfl, hx6, ho6⟩
    rw [show chunkC ⟨3, false, []⟩ b = 12 from rfl]
    rw [show chunkS 1000 ⟨3, false, []⟩ b = ⟨3, false, []⟩ from rfl] at hx6
    have HX6 := Lib.hid hx6
    have HO6 : Hid (Only [g, gr, gd] w w6) := HO5.out.trans (ho6.mono (by simp))
    clear hx6 ho6
    go_wp2_with fail
    refine (strEnd_any g gr gd 1000 5 _ w6 HX6.out).mono ?_
    rintro e w7 ⟨rfl, hx7, ho7⟩
    rw [show endC ⟨3, false, []⟩ = 12 from rfl]
    rw [show endS ⟨3, false, []⟩ = ⟨3, false, []⟩ from rfl] at hx7
    have HX7 := Lib.hid hx7
    have HO7 : Hid (Only [g, gr, gd] w w7) := HO6.out.trans (ho7.mono (by simp))
    clear hx7 ho7
    go_wp2_with fail
    refine (strRead_any g gr gd 1000 5 _ 9 w7 HX7.out).mono ?_
    rintro e w8 ⟨v, rfl, hk8, hx8, ho8⟩
    rw [show readS 5 ⟨3, false, []⟩ 9 = ⟨3, false, []⟩ from rfl] at hx8
    obtain ⟨A8, cap8, hv8, _, _⟩ := hk8.slice
    subst hv8
    rw [show (List.take (upto 9 []) ([] : List UInt8)).length = 0 from rfl]
    have HX8 := Lib.hid hx8
    have HO8 : Hid (Only [g, gr, gd] w w8) := HO7.out.trans (ho8.mono (by simp))
    clear hx8 ho8 hk8
    go_wp2_with fail
    refine (strState_any g gr gd 1000 5 _ w8 HX8.out).mono ?_
    rintro e w' ⟨rfl, rfl⟩
    go_wp2_with fail
    refine (awake11_any _).mono ?_
    rintro e w' ⟨rfl, hb⟩
    have HBE := Lib.hid ((HO8.out.to_below (by have := HG.out; simp; omega)).trans (hb.mono HO8.out.size))
    clear hb
    go_wp2
    go_ret
    exact ⟨rfl, HBE.out⟩
end Go.Proofs.Ytaadffheadimpaa
