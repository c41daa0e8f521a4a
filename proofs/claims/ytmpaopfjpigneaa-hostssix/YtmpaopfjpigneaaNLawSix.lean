/-
  The walk of the law HostsSix: it returns true, and nothing that was there has turned. No conditions.
-/
import Derived.Test.YtmpaopfjpigneaaNAwake
import Derived.Test.YtmpaopfjpigneaaKLow
namespace Go.Proofs.Ytmpaopfjpigneaa
open Go.RowKit

/-- so many uses of one host -/
def sixL (key : ByteArray) (n : Nat) : List Ho := if n = 0 then [] else [(key, n)]
theorem six_use {key : ByteArray} {n : Nat} (h : n < 6) : useG 3 (sixL key n) key = ⟨#[]⟩ ∧ useC 3 (sixL key n) key = 0 ∧ useS 3 (sixL key n) key = sixL key (n + 1) := by
  unfold sixL
  rw [if_neg (Nat.succ_ne_zero n)]
  by_cases h0 : n = 0
  · subst h0
    rw [if_pos rfl]
    exact use_miss (by simp) (by simp)
  · rw [if_neg h0]
    exact use_one h
theorem six_used {key : ByteArray} {n : Nat} : usedC (sixL key (n + 1)) key = n + 1 := by
  unfold sixL
  rw [if_neg (Nat.succ_ne_zero n)]
  exact used_one
theorem longer_ne (key : ByteArray) : ∀ n x, x ∈ [((key, n) : Ho)] → x.1 ≠ key ++ ⟨#[120]⟩ := by
  intro n x hx e
  simp at hx
  subst hx
  have h1 := congrArg ByteArray.size e
  rw [ByteArray.size_append] at h1
  have h2 : ∀ n : Nat, n = 1 → key.size = key.size + n → False := fun n h3 h4 => by omega
  exact h2 _ rfl h1

set_option maxRecDepth 20000 in
set_option maxHeartbeats 1600000 in
theorem walk_HostsSix (a0 : ByteArray) (a1 : Int) (w : World) (_h0 : a0.size ≤ maxLen) (_h1 : (Lit.int .i64 a1).wf = true) :
    Calls Try.prog 4 #[.string a0, .int .i64 a1] w fun e w' => e = .returned (.bool true) ∧ Below w.heap.size w w' := by
  clear _h0 _h1
  obtain ⟨W0, hW0⟩ : ∃ W0, W0 = w.alloc (.cells #[.string a0] 9) := ⟨_, rfl⟩
  have HB0 : Hid (Below w.heap.size w W0) := by show Below _ _ _; rw [hW0]; exact (Below.refl _ _).alloc (Nat.le_refl _) _
  have HC0 : Hid (W0.cell? ⟨w.heap.size, 0, none⟩ = some (.string a0)) := by show _ = _; rw [hW0]; simp
  have HW0 := Lib.hid hW0
  clear hW0
  by_cases hlong : 50 ≤ a0.size
  · go_enter Try.func4, Try.ntmps4
    go_wp2_with fail
    rw [← HW0.out]
    refine (Long1_any 50 w.heap.size a0 W0 HC0.out (by omega)).mono ?_
    rintro e w1 ⟨rfl, rfl⟩
    rw [decide_eq_true hlong]
    go_wp2_with fail
    refine (awake12_any _).mono ?_
    rintro e w' ⟨rfl, hb⟩
    have HE := Lib.hid (HB0.out.trans (hb.mono HB0.out.size))
    clear hb
    go_wp2
    go_ret
    exact ⟨rfl, HE.out⟩
  have hsz : a0.size + 1 ≤ 9223372036854775807 := by omega
  obtain ⟨q, hq⟩ : ∃ q : Nat, lowV a1 7 = (q : Int) := ⟨(lowV a1 7).toNat, by have := lowV_bd a1 (n := 7) (by omega); omega⟩
  have hq6 : q ≤ 6 := by have := lowV_bd a1 (n := 7) (by omega); omega
  have HQ := Lib.hid hq
  obtain ⟨Y, hY⟩ : ∃ Y : ByteArray, Y = a0 ++ ByteArray.mk #[120] := ⟨_, rfl⟩
  have HY := Lib.hid hY
  have HF : Hid (freeC [(a0, 6)] Y = 11 ∧ freeS [(a0, 6)] Y = [(a0, 6)]) := by show _ ∧ _; rw [hY]; exact free_miss (longer_ne a0 6)
  clear hY
  have HLF : Hid (decide (50 ≤ a0.size) = false) := decide_eq_false hlong
  clear hq hlong
  go_enter Try.func4, Try.ntmps4
  go_wp2_with fail
  rw [← HW0.out]
  refine (Long1_any 50 w.heap.size a0 W0 HC0.out (by omega)).mono ?_
  rintro e w1 ⟨rfl, rfl⟩
  rw [HLF.out]
  go_wp2_with fail
  refine (hNew_any 3 W0).mono ?_
  rintro e w1 ⟨rfl, ht1, ho1, _⟩
  obtain ⟨g, hg⟩ : ∃ g, g = W0.heap.size := ⟨_, rfl⟩
  have N1 := TbNew.new HB0.out ht1 ho1
  rw [show clampT 3 = 3 by rfl, ← hg] at N1
  rw [← hg]
  have N1 := Lib.hid N1
  clear ht1 ho1 hg
  go_wp2_with fail
  go_loopw [6] (fun i wr => ∃ (n : Nat) (v : Value), n ≤ 6 ∧ i = .int .i64 ((n : Int) + 1) ∧ TbNew w wr g 3 v (sixL a0 n)) (fun i _ => 8 - (intOf i).toNat)
  case atStart => exact ⟨0, _, by omega, rfl, N1.out⟩
  case round =>
    obtain ⟨n, v, hn, rfl, hx⟩ := hrel
    have HX := Lib.hid hx
    clear hx N1
    by_cases hlt : n < 6
    · have HU := Lib.hid (six_use (key := a0) hlt)
      have HS := Lib.hid (six_used (key := a0) (n := n))
      go_wp2_with fail
      refine (hUseN_any a0 HX.out).mono ?_
      rintro e w2 ⟨rfl, v2, n2, _⟩
      rw [HU.out.1, HU.out.2.1]
      rw [HU.out.2.2] at n2
      have N2 := Lib.hid n2
      clear n2
      go_wp2_with fail
      refine (hUsedN_any a0 N2.out).mono ?_
      rintro e w3 ⟨rfl, n3, _⟩
      rw [HS.out]
      have N3 := Lib.hid n3
      clear n3
      go_wp2
      go_roundw
      case rel => exact ⟨n + 1, v2, by omega, by go_num, N3.out⟩
      case measure => simp [intOf]; omega
    · obtain rfl : n = 6 := by omega
      have HX6 : Hid (TbNew w wr g 3 v [(a0, 6)]) := HX.out
      have U6 := Lib.hid (use_six (M := 3) (k := a0))
      have S6 : Hid (usedC [(a0, 6)] a0 = 6) := used_one
      clear HX
      go_wp2_with fail
      refine (hUseN_any a0 HX6.out).mono ?_
      rintro e w2 ⟨rfl, v2, n2, _⟩
      rw [U6.out.1, U6.out.2.1]
      rw [U6.out.2.2] at n2
      have N2 := Lib.hid n2
      clear n2
      go_wp2_with fail
      refine (hUsedN_any a0 N2.out).mono ?_
      rintro e w3 ⟨rfl, n3, _⟩
      rw [S6.out]
      have N3 := Lib.hid n3
      clear n3
      go_wp2_with fail
      refine (Low_any a1 7 w3 (by omega) (by omega)).mono ?_
      rintro e w4 ⟨rfl, rfl⟩
      rw [HQ.out]
      go_wp2_with fail
      go_loopw [12] (fun i wr => ∃ (j : Nat), j ≤ q ∧ i = .int .i64 (j : Int) ∧ TbNew w wr g 3 v2 [(a0, 6 - j)]) (fun i _ => q - (intOf i).toNat)
      case atStart => exact ⟨0, by omega, rfl, N3.out⟩
      case round =>
        obtain ⟨j, hj, rfl, hx⟩ := hrel
        have HX := Lib.hid hx
        clear hx
        by_cases hlt : j < q
        · obtain ⟨m, hm⟩ : ∃ m, 6 - j = m + 1 := ⟨5 - j, by omega⟩
          have hm2 : 6 - (j + 1) = m := by omega
          rw [hm] at HX
          have HU := Lib.hid (free_one (k := a0) (n := m))
          have HM2 := Lib.hid hm2
          clear hm hm2
          go_wp2_with fail
          refine (hFreeN_any a0 HX.out).mono ?_
          rintro e w5 ⟨rfl, n5, _⟩
          rw [HU.out.1]
          rw [HU.out.2] at n5
          have N5 := Lib.hid n5
          clear n5
          go_wp2
          go_roundw
          case rel => exact ⟨j + 1, by omega, by go_num, by rw [HM2.out]; exact N5.out⟩
          case measure => simp [intOf]; omega
        · obtain rfl : j = q := by omega
          go_wp2_with fail
          go_loopw [13] (fun i wr => ∃ (p : Nat) (v3 : Value), p ≤ j ∧ i = .int .i64 (p : Int) ∧ TbNew w wr g 3 v3 [(a0, 6 - j + p)]) (fun i _ => j - (intOf i).toNat)
          case atStart => exact ⟨0, v2, by omega, rfl, HX.out⟩
          case round =>
            obtain ⟨p, v3, hp, rfl, hx⟩ := hrel
            have HX3 := Lib.hid hx
            clear hx
            by_cases hlt : p < j
            · have HU := Lib.hid (use_one (M := 3) (k := a0) (n := 6 - j + p) (by omega))
              go_wp2_with fail
              refine (hUseN_any a0 HX3.out).mono ?_
              rintro e w5 ⟨rfl, v5, n5, _⟩
              rw [HU.out.1, HU.out.2.1]
              rw [HU.out.2.2] at n5
              have N5 := Lib.hid n5
              clear n5
              go_wp2
              go_roundw
              case rel => exact ⟨p + 1, v5, by omega, by go_num, N5.out⟩
              case measure => simp [intOf]; omega
            · obtain rfl : p = j := by omega
              have HX6 : Hid (TbNew w wr g 3 v3 [(a0, 6)]) := by
                have h1 := HX3.out
                rw [show 6 - p + p = 6 by omega] at h1
                exact h1
              clear HX3
              go_wp2_with fail
              refine (hUseN_any a0 HX6.out).mono ?_
              rintro e w5 ⟨rfl, v5, n5, _⟩
              rw [U6.out.1, U6.out.2.1]
              rw [U6.out.2.2] at n5
              have N5 := Lib.hid n5
              clear n5
              go_wp2_with fail
              rw [← HY.out]
              refine (hFreeN_any Y N5.out).mono ?_
              rintro e w6 ⟨rfl, n6, _⟩
              rw [HF.out.1]
              have N6 := Lib.hid n6
              clear n6
              go_wp2_with fail
              refine (awake12_any _).mono ?_
              rintro e w' ⟨rfl, hb⟩
              have HE := Lib.hid (N6.out.b.trans (hb.mono N6.out.b.size))
              clear hb
              go_wp2
              go_ret
              exact ⟨rfl, HE.out⟩
end Go.Proofs.Ytmpaopfjpigneaa
