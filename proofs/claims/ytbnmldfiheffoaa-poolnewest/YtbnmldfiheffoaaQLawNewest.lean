/-
  The walk of the law PoolNewest: it returns true, and nothing that was there has turned. No conditions.
-/
import Derived.Test.YtbnmldfiheffoaaQAwake
import Derived.Test.YtbnmldfiheffoaaKLow
namespace Go.Proofs.Ytbnmldfiheffoaa
open Go.RowKit

/-- connections 1 to j -/
def upL (A : ByteArray) (u j : Nat) : List Cn := (List.range j).map (fun i => ⟨i + 1, A, u⟩)
theorem upL_succ (A : ByteArray) (u j : Nat) : upL A u (j + 1) = upL A u j ++ [⟨j + 1, A, u⟩] := by simp [upL, List.range_succ]
theorem upL_len (A : ByteArray) (u j : Nat) : (upL A u j).length = j := by simp [upL]
theorem upL_nth {A : ByteArray} {u j i : Nat} (h : i < j) : nthC (upL A u j) i = ⟨i + 1, A, u⟩ := by
  rw [nthC_eq (by rw [upL_len]; exact h)]; simp [upL]
theorem upL_find {A : ByteArray} {u j : Nat} : (upL A u (j + 1)).findIdx (connB ((j + 1 : Nat) : Int)) = j := by
  refine first_first (by rw [upL_len]; omega) ?_ (fun i hi => ?_)
  · rw [upL_nth (by omega)]; exact connB_hit _
  · rw [upL_nth (by omega)]
    unfold connB
    refine decide_eq_false ?_
    show ¬ ((i + 1 : Nat) : Int) = ((j + 1 : Nat) : Int)
    omega
theorem upL_erase (A : ByteArray) (u j : Nat) : (upL A u (j + 1)).eraseIdx j = upL A u j := by
  rw [upL_succ, List.eraseIdx_append_of_length_le (by rw [upL_len]; exact Nat.le_refl _), upL_len]
  simp
/-- connections K down, so many of them -/
def dnL (A : ByteArray) (u K d : Nat) : List Cn := (List.range d).map (fun q => ⟨K - q, A, u⟩)
theorem dnL_succ (A : ByteArray) (u K d : Nat) : dnL A u K (d + 1) = dnL A u K d ++ [⟨K - d, A, u⟩] := by simp [dnL, List.range_succ]
theorem dnL_len (A : ByteArray) (u K d : Nat) : (dnL A u K d).length = d := by simp [dnL]
theorem dnL_nth {A : ByteArray} {u K d i : Nat} (h : i < d) : nthC (dnL A u K d) i = ⟨K - i, A, u⟩ := by
  rw [nthC_eq (by rw [dnL_len]; exact h)]; simp [dnL]
theorem dnL_mem {A : ByteArray} {u K d : Nat} {c : Cn} (h : c ∈ dnL A u K d) : ∃ q, q < d ∧ c = ⟨K - q, A, u⟩ := by
  unfold dnL at h
  obtain ⟨q, hq, e⟩ := List.mem_map.1 h
  exact ⟨q, List.mem_range.1 hq, e.symm⟩
theorem dnL_stay {A : ByteArray} {K d : Nat} : (dnL A 100 K d).filter (fun c => !dueB 1 c) = dnL A 100 K d := by
  refine List.filter_eq_self.2 (fun c hc => ?_)
  obtain ⟨q, _, rfl⟩ := dnL_mem hc
  simp [dueB]
theorem dnL_last {A : ByteArray} {u K d : Nat} : lastO (ckeyB A) (dnL A u K (d + 1)) = some d := by
  refine lastO_some (by rw [dnL_len]; omega) ?_ (fun j h1 h2 => by rw [dnL_len] at h2; omega)
  rw [dnL_nth (by omega)]
  exact ckeyB_iff.2 rfl
theorem dnL_erase (A : ByteArray) (u K d : Nat) : (dnL A u K (d + 1)).eraseIdx d = dnL A u K d := by
  rw [dnL_succ, List.eraseIdx_append_of_length_le (by rw [dnL_len]; exact Nat.le_refl _), dnL_len]
  simp
theorem new_take {A : ByteArray} {s : Pv} {t j : Nat} (h : Is s t 100 j (upL A 0 j) [] j) (hj : j < 6) (ht : j < t) :
    takeN A 0 s = j + 1 ∧ takeF A 0 s = true ∧ takeC A s = 0 ∧ Is (takeS A 0 s) t 100 (j + 1) (upL A 0 (j + 1)) [] (j + 1) := by
  obtain ⟨h1, h2, h3, h4⟩ := h.fresh (by omega) (k := A) (now := 0) (by rw [upL_len]; exact ht) (Nat.lt_of_le_of_lt (usedB_le _ _) (by rw [upL_len]; exact hj)) (by simp)
  rw [upL_succ]
  refine ⟨h1, h2, h3, ?_⟩
  simpa using h4
theorem new_give {A : ByteArray} {s : Pv} {t K i : Nat} (h : Is s t 100 K (upL A 0 (i + 1)) (dnL A 100 K (K - (i + 1))) K) (hi : i + 1 ≤ K) :
    giveC ((i + 1 : Nat) : Int) s = 0 ∧ Is (giveS ((i + 1 : Nat) : Int) 0 true s) t 100 K (upL A 0 i) (dnL A 100 K (K - i)) K := by
  obtain ⟨h1, h2⟩ := h.give (c := ((i + 1 : Nat) : Int)) (now := 0) (p := i) upL_find (by rw [upL_len]; omega) (by omega)
  refine ⟨h1, ?_⟩
  rw [upL_erase, upL_nth (by omega)] at h2
  have e : K - i = K - (i + 1) + 1 := by omega
  rw [e, dnL_succ]
  have e2 : K - (K - (i + 1)) = i + 1 := by omega
  rw [e2]
  have e3 : sumT 0 100 = 100 := rfl
  rw [e3] at h2
  exact h2
theorem new_again {A : ByteArray} {s : Pv} {t K j m : Nat} (h : Is s t 100 K (upL A 100 j) (dnL A 100 K (K - j)) m) (hj : j < K) (hK : K ≤ 6) (ht : K ≤ t) (hm : m < 32) :
    takeN A 1 s = j + 1 ∧ takeF A 1 s = false ∧ takeC A s = 0 ∧ Is (takeS A 1 s) t 100 K (upL A 100 (j + 1)) (dnL A 100 K (K - (j + 1))) (m + 1) := by
  obtain ⟨d, hd⟩ : ∃ d, K - j = d + 1 := ⟨K - j - 1, by omega⟩
  rw [hd] at h
  obtain ⟨h1, h2, h3, h4⟩ := h.again hm (k := A) (now := 1) (j := d) (by rw [upL_len]; omega) (Nat.lt_of_le_of_lt (usedB_le _ _) (by rw [upL_len]; omega)) (by rw [dnL_stay]; exact dnL_last)
  rw [dnL_stay, dnL_nth (by omega)] at h1
  rw [dnL_stay, dnL_nth (by omega), dnL_erase] at h4
  have e : K - d = j + 1 := by omega
  rw [e] at h1 h4
  rw [upL_succ, show K - (j + 1) = d by omega]
  exact ⟨h1, h2, h3, h4⟩
theorem new_other {A B : ByteArray} {s : Pv} {K m : Nat} (hAB : A ≠ B) (h : Is s K 100 K [] (dnL A 100 K K) m) (hK : 1 ≤ K) (hm : m < 32) :
    takeN B 1 s = K + 1 ∧ takeF B 1 s = true ∧ takeC B s = 0 ∧ Is (takeS B 1 s) K 100 (K + 1) [⟨K + 1, B, 0⟩] ((dnL A 100 K K).drop 1) (m + 1) := by
  obtain ⟨h1, h2, h3, h4⟩ := h.fresh hm (k := B) (now := 1) (by simp; omega) (by rw [usedB_nil]; omega) (by rw [dnL_stay]; intro c hc; obtain ⟨q, _, rfl⟩ := dnL_mem hc; exact hAB)
  rw [dnL_stay, if_pos (by rw [dnL_len]; simp)] at h4
  exact ⟨h1, h2, h3, h4⟩
theorem new_gone {A B : ByteArray} {s : Pv} {K m : Nat} (h : Is s K 100 (K + 1) [⟨K + 1, B, 0⟩] ((dnL A 100 K K).drop 1) m) (hK : 1 ≤ K) : hostB s (K : Int) = false ∧ hostS s (K : Int) = ⟨#[]⟩ ∧ (sortI (connsL s.i)).length = K - 1 := by
  have e1 : s.b.findIdx (connB (K : Int)) = s.b.length := first_none (fun x hx => by
    rw [h.b] at hx; simp at hx; subst hx
    unfold connB
    refine decide_eq_false ?_
    show ¬ ((K + 1 : Nat) : Int) = (K : Int)
    omega)
  have e2 : s.i.findIdx (connB (K : Int)) = s.i.length := first_none (fun x hx => by
    rw [h.i] at hx
    obtain ⟨i, hi, rfl⟩ := List.getElem_of_mem hx
    rw [List.length_drop, dnL_len] at hi
    rw [List.getElem_drop]
    have e3 := dnL_nth (A := A) (u := 100) (K := K) (d := K) (i := 1 + i) (by omega)
    rw [nthC_eq (by rw [dnL_len]; omega)] at e3
    rw [e3]
    unfold connB
    refine decide_eq_false ?_
    show ¬ ((K - (1 + i) : Nat) : Int) = (K : Int)
    omega)
  refine ⟨?_, ?_, ?_⟩
  · unfold hostB
    rw [e1, e2]
    simp
  · unfold hostS
    rw [e1, e2]
    simp
  · rw [sortI_len, connsL, List.length_map, h.i, List.length_drop, dnL_len]

set_option maxRecDepth 20000 in
set_option maxHeartbeats 4000000 in
theorem walk_PoolNewest (a0 a1 : Int) (w : World) (_h0 : (Lit.int .i64 a0).wf = true) (_h1 : (Lit.int .i64 a1).wf = true) :
    Calls Try.prog 6 #[.int .i64 a0, .int .i64 a1] w fun e w' => e = .returned (.bool true) ∧ Below w.heap.size w w' := by
  clear _h0 _h1
  obtain ⟨q, hq⟩ : ∃ q : Nat, lowV a0 6 = (q : Int) := ⟨(lowV a0 6).toNat, by have := lowV_bd a0 (n := 6) (by omega); omega⟩
  have hq6 : q < 6 := by have := lowV_bd a0 (n := 6) (by omega); omega
  obtain ⟨r, hr⟩ : ∃ r : Nat, lowV a1 20 = (r : Int) := ⟨(lowV a1 20).toNat, by have := lowV_bd a1 (n := 20) (by omega); omega⟩
  have hr20 : r < 20 := by have := lowV_bd a1 (n := 20) (by omega); omega
  have HQ := Lib.hid hq
  have HR := Lib.hid hr
  obtain ⟨K, hK⟩ : ∃ K : Nat, K = q + 1 := ⟨_, rfl⟩
  obtain ⟨T, hT⟩ : ∃ T : Nat, T = K + r := ⟨_, rfl⟩
  have HKE : Hid (1 + (q : Int) = (K : Int)) := by show _ = _; omega
  have HTE : Hid ((K : Int) + (r : Int) = (T : Int)) := by show _ = _; omega
  have hK1 : 1 ≤ K := by omega
  have hK6 : K ≤ 6 := by omega
  have hTK : K ≤ T := by omega
  have hT32 : T ≤ 32 := by omega
  obtain ⟨A, hA⟩ : ∃ A : ByteArray, A = ⟨#[97]⟩ := ⟨_, rfl⟩
  obtain ⟨B, hB⟩ : ∃ B : ByteArray, B = ⟨#[98]⟩ := ⟨_, rfl⟩
  have HAB : Hid (A ≠ B) := by show _ ≠ _; rw [hA, hB]; exact ne_ab
  have HA := Lib.hid hA
  have HB := Lib.hid hB
  clear hq hr hK hT hA hB
  go_enter Try.func6, Try.ntmps6
  go_wp2_with fail
  refine (Low_any a0 6 w (by omega) (by omega)).mono ?_
  rintro e w1 ⟨rfl, rfl⟩
  rw [HQ.out]
  go_wp2_with fail
  rw [HKE.out]
  refine (Low_any a1 20 w (by omega) (by omega)).mono ?_
  rintro e w1 ⟨rfl, rfl⟩
  rw [HR.out]
  go_wp2_with fail
  rw [HTE.out]
  refine (nNew_any (T : Int) 100 (Below.refl _ w) (by omega)).mono ?_
  rintro e w1 ⟨g, f0, rfl, n0, _⟩
  rw [clampT_id (by omega) hT32] at n0
  have N0 := Lib.hid n0
  clear n0
  go_wp2_with fail
  go_loopw [8] (fun i wr => ∃ (j : Nat) (f : List Nat) (s : Pv), j ≤ K ∧ i = .int .i64 ((j : Int) + 1) ∧ PoNew w wr g f s ∧ Is s T 100 j (upL A 0 j) [] j) (fun i _ => 8 - (intOf i).toNat)
  case atStart => exact ⟨0, _, _, by omega, rfl, N0.out, Is.start T 100⟩
  case round =>
    obtain ⟨j, f, s, hj, rfl, hn, hi⟩ := hrel
    have HN := Lib.hid hn
    have HI := Lib.hid hi
    clear hn hi N0
    by_cases hlt : j < K
    · have TK := Lib.hid (new_take HI.out (by omega) (by omega))
      have HL := Lib.hid HI.out.last
      go_wp2_with fail
      rw [← HA.out]
      refine (nTake_any A 0 HN.out (by rw [HL.out]; omega)).mono ?_
      rintro e w2 ⟨rfl, f2, n2, _⟩
      rw [TK.out.1, TK.out.2.1, TK.out.2.2.1]
      have N2 := Lib.hid n2
      clear n2
      have hcast : ((j + 1 : Nat) : Int) = (j : Int) + 1 := by omega
      rw [hcast]
      clear hcast
      go_wp2
      go_roundw
      case rel => exact ⟨j + 1, f2, _, by omega, by go_num, N2.out, TK.out.2.2.2⟩
      case measure => simp [intOf]; omega
    · obtain rfl : j = K := by omega
      go_wp2_with fail
      go_loopw [12] (fun i wr => ∃ (d : Nat) (f : List Nat) (s : Pv), d ≤ j ∧ i = .int .i64 (d : Int) ∧ PoNew w wr g f s ∧ Is s T 100 j (upL A 0 d) (dnL A 100 j (j - d)) j) (fun i _ => (intOf i).toNat)
      case atStart => exact ⟨j, f, s, by omega, rfl, HN.out, by rw [Nat.sub_self]; exact HI.out⟩
      case round =>
        obtain ⟨d, f, s, hd, rfl, hn, hi⟩ := hrel
        have HN := Lib.hid hn
        have HI := Lib.hid hi
        clear hn hi
        by_cases hlt : 1 ≤ d
        · obtain ⟨i, hi⟩ : ∃ i, d = i + 1 := ⟨d - 1, by omega⟩
          rw [hi] at HI
          have GV := Lib.hid (new_give HI.out (by omega))
          rw [← hi] at GV
          have HID := Lib.hid hi
          clear hi
          go_wp2_with fail
          refine (nGive_any (d : Int) 0 true HN.out (by omega)).mono ?_
          rintro e w2 ⟨rfl, f2, n2, _⟩
          rw [GV.out.1]
          have N2 := Lib.hid n2
          clear n2
          go_wp2
          go_roundw
          case rel => exact ⟨i, f2, _, by have := HID.out; omega, by have := HID.out; go_num, N2.out, GV.out.2⟩
          case measure => have := HID.out; simp [intOf]; omega
        · obtain rfl : d = 0 := by omega
          rw [Nat.sub_zero] at HI
          rw [show ((0 : Nat) : Int) = 0 from rfl]
          by_cases ht : T = j
          · subst ht
            have TK := Lib.hid (new_other HAB.out HI.out hK1 (by omega))
            have GN := Lib.hid (new_gone TK.out.2.2.2 hK1)
            have HL := Lib.hid HI.out.last
            obtain ⟨s3, hs3⟩ : ∃ s3, s3 = takeS B 1 s := ⟨_, rfl⟩
            rw [← hs3] at GN
            have HS3 := Lib.hid hs3
            clear hs3
            go_wp2_with fail
            rw [← HB.out]
            refine (nTake_any B 1 HN.out (by rw [HL.out]; omega)).mono ?_
            rintro e w2 ⟨rfl, f2, n2, _⟩
            rw [TK.out.1, TK.out.2.1, TK.out.2.2.1]
            rw [← HS3.out] at n2
            have N2 := Lib.hid n2
            clear n2
            have hcast : ((T + 1 : Nat) : Int) = (T : Int) + 1 := by omega
            rw [hcast]
            clear hcast
            go_wp2_with fail
            refine (nIdle_any N2.out).mono ?_
            rintro e w4 ⟨rr, rfl, hr, _, n4, _⟩
            obtain ⟨Ar, capr, er, _, _⟩ := hr.slice
            rw [GN.out.2.2] at er
            subst er
            have N4 := Lib.hid n4
            have hcast : ((T - 1 : Nat) : Int) = (T : Int) - 1 := by omega
            clear n4 hr
            go_wp2_with fail
            refine (nHost_any (T : Int) N4.out).mono ?_
            rintro e w5 ⟨rfl, n5, _⟩
            rw [GN.out.1, GN.out.2.1]
            have N5 := Lib.hid n5
            clear n5
            go_wp2_with fail
            refine (awake13_any _).mono ?_
            rintro e w' ⟨rfl, hb⟩
            have HE := Lib.hid (N5.out.b.trans (hb.mono N5.out.b.size))
            clear hb
            go_wp2
            go_ret
            exact ⟨rfl, HE.out⟩
          · have hti : ((T : Int) == (j : Int)) = false := by simp; omega
            go_wp2_with fail
            go_loopw [18] (fun i wr => ∃ (p m : Nat) (f : List Nat) (s : Pv), p ≤ j ∧ m ≤ 6 + p ∧ i = .int .i64 ((p : Int) + 1) ∧ PoNew w wr g f s ∧ Is s T 100 j (upL A 100 p) (dnL A 100 j (j - p)) m) (fun i _ => 8 - (intOf i).toNat)
            case atStart => exact ⟨0, j, f, s, by omega, by omega, rfl, HN.out, HI.out⟩
            case round =>
              obtain ⟨p, m, f, s, hp, hm, rfl, hn, hi⟩ := hrel
              have HN := Lib.hid hn
              have HI := Lib.hid hi
              clear hn hi
              by_cases hlt : p < j
              · have TK := Lib.hid (new_again HI.out hlt hK6 hTK (by omega))
                have HL := Lib.hid HI.out.last
                go_wp2_with fail
                rw [← HA.out]
                refine (nTake_any A 1 HN.out (by rw [HL.out]; omega)).mono ?_
                rintro e w2 ⟨rfl, f2, n2, _⟩
                rw [TK.out.1, TK.out.2.1, TK.out.2.2.1]
                have N2 := Lib.hid n2
                clear n2
                have hcast : ((p + 1 : Nat) : Int) = (p : Int) + 1 := by omega
                rw [hcast]
                clear hcast
                go_wp2
                go_roundw
                case rel => exact ⟨p + 1, m + 1, f2, _, by omega, by omega, by go_num, N2.out, TK.out.2.2.2⟩
                case measure => simp [intOf]; omega
              · obtain rfl : p = j := by omega
                rw [Nat.sub_self] at HI
                have HZ : Hid ((sortI (connsL s.i)).length = 0) := by show _ = _; rw [HI.out.i, sortI_len, connsL, List.length_map, dnL_len]
                go_wp2_with fail
                refine (nIdle_any HN.out).mono ?_
                rintro e w4 ⟨rr, rfl, hr, _, n4, _⟩
                obtain ⟨Ar, capr, er, _, _⟩ := hr.slice
                rw [HZ.out] at er
                subst er
                have N4 := Lib.hid n4
                clear n4 hr
                go_wp2_with fail
                refine (awake13_any _).mono ?_
                rintro e w' ⟨rfl, hb⟩
                have HE := Lib.hid (N4.out.b.trans (hb.mono N4.out.b.size))
                clear hb
                go_wp2
                go_ret
                exact ⟨rfl, HE.out⟩
end Go.Proofs.Ytbnmldfiheffoaa
