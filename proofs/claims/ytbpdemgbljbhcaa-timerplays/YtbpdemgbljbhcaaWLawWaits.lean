/-
  The walk of the law TimerWaits: whatever the times, it returns true, and nothing that was there has turned. Conditions: the numbers lie where the slice says.
-/
import Derived.Test.YtbpdemgbljbhcaaWLawRooms
namespace Go.Proofs.Ytbpdemgbljbhcaa
open Go.RowKit

theorem without_cons {next : Int} {s : List Al} (hi : Ids next s) {m : Al} (hm : m ∈ s) : (m :: without m.2.1 s).Perm s := by
  obtain ⟨l1, l2, rfl⟩ := List.append_of_mem hm
  have hp : (m :: (l1 ++ l2)).Perm (l1 ++ m :: l2) := List.perm_middle.symm
  exact ((without_perm hp rfl hi.nodup).symm.cons m).trans hp
/-- how many are late -/
def lateN (now : Int) (s : List Al) : Nat := s.countP (fun a => decide (now < a.1))
theorem lateN_push (now : Int) (s : List Al) (a : Al) : lateN now (s ++ [a]) = lateN now s + if now < a.1 then 1 else 0 := by
  unfold lateN
  rw [List.countP_append]
  by_cases h : now < a.1 <;> simp [h]
theorem lateN_without {next now : Int} {s : List Al} (hi : Ids next s) {m : Al} (hm : m ∈ s) (hn : ¬ now < m.1) : lateN now (without m.2.1 s) = lateN now s := by
  have h := (without_cons hi hm).countP_eq (fun a => decide (now < a.1))
  rw [List.countP_cons, if_neg (by simpa using hn)] at h
  exact h
theorem lateN_le (now : Int) (s : List Al) : lateN now s ≤ s.length := List.countP_le_length
theorem lateN_ex {now : Int} {s : List Al} (h : lateN now s < s.length) : ∃ b ∈ s, b.1 ≤ now := by
  by_cases hn : ∀ b ∈ s, now < b.1
  · have : lateN now s = s.length := by unfold lateN; rw [List.countP_eq_length]; intro b hb; simpa using hn b hb
    omega
  · simp only [Classical.not_forall] at hn
    obtain ⟨b, hb, hlt⟩ := hn
    exact ⟨b, hb, by omega⟩
theorem lateN_all {now : Int} {s : List Al} (h : lateN now s = s.length) : ∀ b ∈ s, now < b.1 := by
  unfold lateN at h
  rw [List.countP_eq_length] at h
  intro b hb
  simpa using h b hb
theorem Fore.early {now : Int} {s : List Al} {m b : Al} (hm : Fore s m) (hb : b ∈ s) (h : b.1 ≤ now) : m.1 ≤ now := by
  have := hm.min b hb
  rw [aLe_iff] at this
  omega
theorem IArg.at_ {k : IntKind} {w : World} {a : Option Addr} {c : Nat} {xs : List Int} (h : IArg k w a c xs) {j : Nat} (hj : j < xs.length) :
    ∃ ad, a = some ad ∧ ad.block < w.heap.size ∧ w.cell? (ad.add j) = some (.int k xs[j]) ∧ (Lit.int k xs[j]).wf = true := by
  obtain ⟨ad, e, hB, hc⟩ := h.1 j xs[j] (List.getElem?_eq_getElem hj)
  exact ⟨ad, e, hB, hc, h.2.1 _ (List.getElem_mem hj)⟩
theorem below_add {w w' : World} {B : Nat} (h : Below B w w') {ad : Addr} {j : Nat} (hB : ad.block < B) : w'.cell? (ad.add j) = w.cell? (ad.add j) := h.cell (p := ad.add j) (by rw [block_add]; exact hB)

set_option maxHeartbeats 1200000 in
theorem walk_TimerWaits (a0 : Option Addr) (c0 : Nat) (x0 : List Int) (a1 : Int) (w : World) (h0 : IArg .u64 w a0 c0 x0) (h1 : (Lit.int .u64 a1).wf = true) :
    Calls Try.prog 6 #[.slice a0 x0.length c0, .int .u64 a1] w fun e w' => e = .returned (.bool true) ∧ Below w.heap.size w w' := by
  obtain ⟨p1, q1⟩ := wfU h1
  clear h1
  have H0 := Lib.hid h0
  have hl0 := h0.2.2.1
  have hm0 := h0.2.2.2
  unfold maxLen at hm0
  clear h0
  by_cases hb1 : 100 < x0.length
  · go_enter Try.func6, Try.ntmps6
    go_wp2_with fail
    refine (awake9_any _).mono ?_
    rintro e w' ⟨rfl, hb⟩
    go_wp2
    go_ret
    exact ⟨rfl, hb⟩
  go_enter Try.func6, Try.ntmps6
  go_wp2_with fail
  refine (wheelNew_wh 100 w).mono ?_
  rintro e w1 ⟨rfl, hw1, ho1, _⟩
  have HW1 : Hid (Wh w1 w.heap.size 100 1 (.slice none 0 0) []) := hw1
  have HB1 : Hid (Below w.heap.size w w1) := ho1.to_below (by simp)
  clear hw1 ho1
  go_wp2_with fail
  go_loopw [6, 7] (fun lt i wr => ∃ (k : Nat) (v : Value) (s : List Al) (n : Nat), k ≤ x0.length ∧ lt = .int .i64 n ∧ i = .int .i64 k ∧ s.length = k ∧ lateN a1 s = n ∧ n ≤ k ∧ Wh wr w.heap.size 100 ((k : Int) + 1) v s ∧ Below w.heap.size w wr) (fun _ i _ => x0.length - (intOf i).toNat)
  case atStart => exact ⟨0, _, [], 0, by omega, rfl, rfl, rfl, rfl, by omega, HW1.out, HB1.out⟩
  case round =>
    obtain ⟨k, v, s, n, hk, rfl, rfl, hsl, hln, hnk, hw, hb⟩ := hrel
    have HSL := Lib.hid hsl
    have HLN := Lib.hid hln
    have HW := Lib.hid hw
    have HB := Lib.hid hb
    clear hsl hln hw hb
    by_cases hlt : k < x0.length
    · obtain ⟨ad, e1, hB, hcell, hwf⟩ := H0.out.at_ hlt
      have hcl : wr.cell? (ad.add k) = some (.int .u64 x0[k]) := (below_add HB.out hB).trans hcell
      have hwf := wfU hwf
      obtain ⟨x, hx⟩ : ∃ x, x = x0[k] := ⟨_, rfl⟩
      rw [← hx] at hcl hwf hcell
      obtain ⟨px, qx⟩ := hwf
      have HC := Lib.hid hcell
      have HBk := Lib.hid hB
      clear hcell hx hB
      subst e1
      go_wp2_with fail
      refine (wheelArm_room w.heap.size 100 ((k : Int) + 1) v s x k wr HW.out (by rw [HSL.out]; omega) (by omega) (by omega) (by omega)).mono ?_
      rintro e w2 ⟨rfl, v2, hw2, ho2, _⟩
      have HW2 := Lib.hid hw2
      have HB2 : Hid (Below w.heap.size w w2) := Only.above HB.out ho2 (Nat.le_refl _) (HW.out.up (Nat.le_refl _)).foot
      have hcl2 : w2.cell? (ad.add k) = some (.int .u64 x) := (below_add HB2.out HBk.out).trans HC.out
      clear hw2 ho2 hcl
      by_cases hlate : a1 < x
      · go_wp2_with fail
        go_roundw
        case rel =>
          refine ⟨k + 1, v2, _, n + 1, by omega, by go_num, by go_num, by rw [List.length_append, HSL.out]; rfl, ?_, by omega, HW2.out, HB2.out⟩
          rw [lateN_push, HLN.out, if_pos hlate]
        case measure => simp [intOf]; omega
      · go_wp2_with fail
        go_roundw
        case rel =>
          refine ⟨k + 1, v2, _, n, by omega, rfl, by go_num, by rw [List.length_append, HSL.out]; rfl, ?_, by omega, HW2.out, HB2.out⟩
          rw [lateN_push, HLN.out, if_neg (by omega), Nat.add_zero]
        case measure => simp [intOf]; omega
    · obtain rfl : k = x0.length := by omega
      go_wp2_with fail
      go_loopw [8] (fun i wr2 => ∃ (j : Nat) (v : Value) (s : List Al), j + n ≤ x0.length ∧ i = .int .i64 j ∧ s.length + j = x0.length ∧ lateN a1 s = n ∧ Wh wr2 w.heap.size 100 ((x0.length : Int) + 1) v s ∧ Below w.heap.size w wr2) (fun i _ => x0.length - (intOf i).toNat)
      case atStart => exact ⟨0, v, s, by omega, rfl, HSL.out, HLN.out, HW.out, HB.out⟩
      case round =>
        obtain ⟨j, v3, s3, hj, rfl, hsl3, hln3, hw3, hb3⟩ := hrel
        have HSL3 := Lib.hid hsl3
        have HLN3 := Lib.hid hln3
        have HW3 := Lib.hid hw3
        have HB3 := Lib.hid hb3
        clear hsl3 hln3 hw3 hb3
        by_cases hlt2 : j + n < x0.length
        · have hji : (j : Int) < (x0.length : Int) - (n : Int) := by omega
          obtain ⟨b, hbm, hbn⟩ := lateN_ex (now := a1) (s := s3) (by rw [HLN3.out]; have := HSL3.out; omega)
          obtain ⟨m, hm⟩ := Fore.ex (s := s3) (List.ne_nil_of_mem hbm)
          have hmn := hm.early hbm hbn
          have HM := Lib.hid hm
          have HMN := Lib.hid hmn
          clear hbm hbn hm hmn
          go_wp2_with fail
          refine (wheelDue_some w.heap.size 100 _ v3 s3 m a1 wr HW3.out HM.out HMN.out (by have := HSL3.out; omega)).mono ?_
          rintro e w4 ⟨rfl, v4, hw4, ho4, _⟩
          have HW4 := Lib.hid hw4
          have HB4 : Hid (Below w.heap.size w w4) := Only.above HB3.out ho4 (Nat.le_refl _) (HW3.out.up (Nat.le_refl _)).foot
          clear hw4 ho4
          go_wp2_with fail
          go_roundw
          case rel =>
            refine ⟨j + 1, v4, _, by omega, by go_num, ?_, ?_, HW4.out, HB4.out⟩
            · have h1 := without_len HW3.out.ids HM.out.mem rfl
              have := HSL3.out
              omega
            · rw [lateN_without HW3.out.ids HM.out.mem (by have := HMN.out; omega)]; exact HLN3.out
          case measure => simp [intOf]; omega
        · have hji : ¬ (j : Int) < (x0.length : Int) - (n : Int) := by omega
          have hs3 : s3.length = n := by have := HSL3.out; omega
          have HS3 := Lib.hid hs3
          have HA : Hid (∀ b ∈ s3, a1 < b.1) := lateN_all (by rw [HLN3.out, HS3.out])
          clear hs3
          go_wp2_with fail
          refine (wheelDue_none w.heap.size 100 _ v3 s3 a1 wr HW3.out HA.out (by rw [HS3.out]; omega)).mono ?_
          rintro e w' ⟨rfl, rfl⟩
          go_wp2_with fail
          by_cases hn0 : n = 0
          · subst hn0
            obtain rfl : s3 = [] := List.length_eq_zero_iff.1 HS3.out
            refine (wheelNext_none w.heap.size 100 _ v3 _ HW3.out).mono ?_
            rintro e w' ⟨rfl, rfl⟩
            go_wp2_with fail
            refine (wheelLen_any w.heap.size 100 _ v3 [] _ HW3.out).mono ?_
            rintro e w' ⟨rfl, rfl⟩
            go_wp2_with fail
            refine (awake9_any _).mono ?_
            rintro e w5 ⟨rfl, hb5⟩
            go_wp2
            go_ret
            exact ⟨rfl, HB3.out.trans (hb5.mono HB3.out.size)⟩
          · obtain ⟨m, hm⟩ := Fore.ex (s := s3) (by rintro rfl; have := HS3.out; simp at this; omega)
            have hmn := HA.out m hm.mem
            have HM := Lib.hid hm
            clear hm
            refine (wheelNext_some w.heap.size 100 _ v3 s3 m _ HW3.out HM.out (by rw [HS3.out]; omega)).mono ?_
            rintro e w' ⟨rfl, rfl⟩
            go_wp2_with fail
            refine (wheelLen_any w.heap.size 100 _ v3 s3 _ HW3.out).mono ?_
            rintro e w' ⟨rfl, rfl⟩
            rw [HS3.out]
            go_wp2_with fail
            refine (awake9_any _).mono ?_
            rintro e w5 ⟨rfl, hb5⟩
            go_wp2
            go_ret
            exact ⟨rfl, HB3.out.trans (hb5.mono HB3.out.size)⟩
end Go.Proofs.Ytbpdemgbljbhcaa
