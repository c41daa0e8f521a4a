/-
  The contracts of the document's own first, Next over this seat's program. Conditions: at most 500 timers are armed.
-/
import Derived.Test.YtbpdemgbljbhcaaWRef2
namespace Go.Proofs.Ytbpdemgbljbhcaa
open Go.RowKit

theorem Fore.at_ {s : List Al} {j : Nat} (hj : j < s.length) (h : ∀ i, i < s.length → aLe (nth s j) (nth s i)) : Fore s (nth s j) := by
  refine ⟨nth_mem hj, fun b hb => ?_⟩
  obtain ⟨i, hi, rfl⟩ := List.mem_iff_getElem.1 hb
  rw [← nth_eq hi]
  exact h i hi

set_option maxRecDepth 20000 in
set_option maxHeartbeats 3200000 in
theorem rFirst_any (gr : Nat) (most last : Int) (v : Value) (s : List Al) (w : World) (h : RAt w gr most last v s) (hs : s.length ≤ 500) :
    Calls Try.prog 27 #[.pointer (some ⟨gr, 0, none⟩)] w fun e w' => ∃ c : Int, e = .returned (.int .i64 c) ∧ Only [] w w' ∧ ((s = [] ∧ c = -1) ∨ ∃ j : Nat, c = (j : Int) ∧ j < s.length ∧ Fore s (nth s j)) := by
  obtain ⟨A, cap, hv, hlc, hcm⟩ := h.row.slice
  have HW := Lib.hid h
  have HV := Lib.hid hv
  unfold maxLen at hcm
  clear h hv
  go_enter Try.func27, Try.ntmps27
  go_wp2_with fail
  go_loopw [3, 4] (fun c_ i wr => ∃ (k : Nat) (c : Int), k ≤ s.length ∧ c_ = .int .i64 c ∧ i = .int .i64 k ∧ Only [] w wr ∧ ((k = 0 ∧ c = -1) ∨ ∃ j : Nat, c = (j : Int) ∧ j < k ∧ ∀ i, i < k → aLe (nth s j) (nth s i))) (fun _ i _ => s.length - (intOf i).toNat)
  case atStart => exact ⟨0, -1, Nat.zero_le _, rfl, rfl, Only.refl _ _, .inl ⟨rfl, rfl⟩⟩
  case round =>
    obtain ⟨k, c, hk, rfl, rfl, ho, hc⟩ := hrel
    have HO := Lib.hid ho
    have HWR := Lib.hid (HW.out.old ho)
    have hc2 := HWR.out.head.c2
    rw [HV.out] at hc2
    clear ho
    by_cases hlt : k < s.length
    · have hr := HWR.out.row
      rw [HV.out] at hr
      obtain ⟨g, cap2, hv2, _, _, _, _⟩ := hr.some_ (by omega)
      obtain ⟨rfl, rfl⟩ : A = some ⟨g, 0, none⟩ ∧ cap = cap2 := by
        injection hv2 with e1 e2 e3
        exact ⟨e1, e3⟩
      have e1 := hr.el rfl hlt
      obtain ⟨b, hb⟩ : ∃ b, b = nth s k := ⟨_, rfl⟩
      rw [← hb] at e1
      obtain ⟨b1, b2, b3⟩ := b
      have HB := Lib.hid hb
      obtain ⟨f1, _, f3⟩ := e1
      clear hb hv2
      rcases hc with ⟨hk0, rfl⟩ | ⟨j, rfl, hjk, hall⟩
      · have HK0 := Lib.hid hk0
        clear hr hk0
        go_wp2_with fail
        go_quiet (fail)
        go_wp2_with fail
        go_roundw
        case rel =>
          refine ⟨k + 1, _, by omega, rfl, by go_num, HO.out.drewN _, .inr ⟨k, rfl, by omega, ?_⟩⟩
          intro i hi
          have := HK0.out
          obtain rfl : i = k := by omega
          exact aLe.refl _
        case measure => simp [intOf]; omega
      · have hjl : j < s.length := by omega
        have e2 := hr.el rfl hjl
        obtain ⟨m, hm⟩ : ∃ m, m = nth s j := ⟨_, rfl⟩
        rw [← hm] at e2
        obtain ⟨m1, m2, m3⟩ := m
        have HM := Lib.hid hm
        obtain ⟨g1, _, g3⟩ := e2
        have HALL := Lib.hid hall
        clear hr hm hall
        have HNEW : Hid (aLe (b1, b2, b3) (m1, m2, m3) → ∀ i, i < k + 1 → aLe (nth s k) (nth s i)) := by
          show _ → _
          intro hle i hi
          by_cases e : i = k
          · subst e; exact aLe.refl _
          · rw [HB.out, HM.out] at hle
            exact hle.trans (HALL.out i (by omega))
        have HOLD : Hid (aLe (m1, m2, m3) (b1, b2, b3) → ∀ i, i < k + 1 → aLe (nth s j) (nth s i)) := by
          show _ → _
          intro hle i hi
          by_cases e : i = k
          · subst e; rw [HB.out, HM.out] at hle; exact hle
          · exact HALL.out i (by omega)
        by_cases h1 : b1 < m1
        · have HLE : Hid (aLe (b1, b2, b3) (m1, m2, m3)) := by show aLe _ _; rw [aLe_iff]; exact .inl h1
          go_wp2_with fail
          refine mix_start (fun W => W.cell? ⟨gr, 2, none⟩ = some (.slice (some ⟨g, 0, none⟩) s.length cap) ∧ (W.cell? ⟨g, k * 3, none⟩ = some (.int .i64 b2) ∧ W.cell? ⟨g, k * 3 + 2, none⟩ = some (.int .u64 b1)) ∧ (W.cell? ⟨g, j * 3, none⟩ = some (.int .i64 m2) ∧ W.cell? ⟨g, j * 3 + 2, none⟩ = some (.int .u64 m1))) (by kernel_rfl) ?_
          have hF : (fun W => W.cell? ⟨gr, 2, none⟩ = some (.slice (some ⟨g, 0, none⟩) s.length cap) ∧ (W.cell? ⟨g, k * 3, none⟩ = some (.int .i64 b2) ∧ W.cell? ⟨g, k * 3 + 2, none⟩ = some (.int .u64 b1)) ∧ (W.cell? ⟨g, j * 3, none⟩ = some (.int .i64 m2) ∧ W.cell? ⟨g, j * 3 + 2, none⟩ = some (.int .u64 m1))) wr.drew := ⟨hc2, ⟨f1, f3⟩, ⟨g1, g3⟩⟩
          have hne : Nonempty (Held (fun W => W.cell? ⟨gr, 2, none⟩ = some (.slice (some ⟨g, 0, none⟩) s.length cap) ∧ (W.cell? ⟨g, k * 3, none⟩ = some (.int .i64 b2) ∧ W.cell? ⟨g, k * 3 + 2, none⟩ = some (.int .u64 b1)) ∧ (W.cell? ⟨g, j * 3, none⟩ = some (.int .i64 m2) ∧ W.cell? ⟨g, j * 3 + 2, none⟩ = some (.int .u64 m1)))) := ⟨⟨_, hF⟩⟩
          have hx0 : ∀ p : Held (fun W => W.cell? ⟨gr, 2, none⟩ = some (.slice (some ⟨g, 0, none⟩) s.length cap) ∧ (W.cell? ⟨g, k * 3, none⟩ = some (.int .i64 b2) ∧ W.cell? ⟨g, k * 3 + 2, none⟩ = some (.int .u64 b1)) ∧ (W.cell? ⟨g, j * 3, none⟩ = some (.int .i64 m2) ∧ W.cell? ⟨g, j * 3 + 2, none⟩ = some (.int .u64 m1))), p.w.cell? ⟨gr, 2, none⟩ = some (.slice (some ⟨g, 0, none⟩) s.length cap) := fun p => p.h.1
          have hx1 : ∀ p : Held (fun W => W.cell? ⟨gr, 2, none⟩ = some (.slice (some ⟨g, 0, none⟩) s.length cap) ∧ (W.cell? ⟨g, k * 3, none⟩ = some (.int .i64 b2) ∧ W.cell? ⟨g, k * 3 + 2, none⟩ = some (.int .u64 b1)) ∧ (W.cell? ⟨g, j * 3, none⟩ = some (.int .i64 m2) ∧ W.cell? ⟨g, j * 3 + 2, none⟩ = some (.int .u64 m1))), p.w.cell? ⟨g, k * 3, none⟩ = some (.int .i64 b2) := fun p => p.h.2.1.1
          have hx2 : ∀ p : Held (fun W => W.cell? ⟨gr, 2, none⟩ = some (.slice (some ⟨g, 0, none⟩) s.length cap) ∧ (W.cell? ⟨g, k * 3, none⟩ = some (.int .i64 b2) ∧ W.cell? ⟨g, k * 3 + 2, none⟩ = some (.int .u64 b1)) ∧ (W.cell? ⟨g, j * 3, none⟩ = some (.int .i64 m2) ∧ W.cell? ⟨g, j * 3 + 2, none⟩ = some (.int .u64 m1))), p.w.cell? ⟨g, k * 3 + 2, none⟩ = some (.int .u64 b1) := fun p => p.h.2.1.2
          have hx3 : ∀ p : Held (fun W => W.cell? ⟨gr, 2, none⟩ = some (.slice (some ⟨g, 0, none⟩) s.length cap) ∧ (W.cell? ⟨g, k * 3, none⟩ = some (.int .i64 b2) ∧ W.cell? ⟨g, k * 3 + 2, none⟩ = some (.int .u64 b1)) ∧ (W.cell? ⟨g, j * 3, none⟩ = some (.int .i64 m2) ∧ W.cell? ⟨g, j * 3 + 2, none⟩ = some (.int .u64 m1))), p.w.cell? ⟨g, j * 3, none⟩ = some (.int .i64 m2) := fun p => p.h.2.2.1
          have hx4 : ∀ p : Held (fun W => W.cell? ⟨gr, 2, none⟩ = some (.slice (some ⟨g, 0, none⟩) s.length cap) ∧ (W.cell? ⟨g, k * 3, none⟩ = some (.int .i64 b2) ∧ W.cell? ⟨g, k * 3 + 2, none⟩ = some (.int .u64 b1)) ∧ (W.cell? ⟨g, j * 3, none⟩ = some (.int .i64 m2) ∧ W.cell? ⟨g, j * 3 + 2, none⟩ = some (.int .u64 m1))), p.w.cell? ⟨g, j * 3 + 2, none⟩ = some (.int .u64 m1) := fun p => p.h.2.2.2
          have HF := Lib.hid hF
          clear hF hc2 f1 f3 g1 g3
          have hj0 : decide ((j : Int) < 0) = false := decide_eq_false (by omega)
          refine mix_seg [0, 1, 2, 3, 4, 5, 6, 7, 8, 9, 10, 11, 12, 13, 14, 15, 16, 17, 18, 19, 20, 21, 22, 23, 24, 25, 26, 27, 28, 29, 30, 31, 32, 33, 34, 35, 36, 37, 38, 39, 40, 41, 42, 43, 44, 45, 46, 47, 48, 49, 50, 51, 52, 53, 54, 55, 56, 57, 58] (by kernel_rfl) HF.out ?_
          simp only [segOf, pickOps, pickOp]
          repeat (go_big_quiet_step (fail))
          refine wpQuiet_nil ?_
          refine mix_done (by kernel_rfl) ?_
          clear hj0
          go_wp2_with fail
          go_roundw
          case rel => exact ⟨k + 1, _, by omega, rfl, by go_num, HO.out.drew, .inr ⟨k, rfl, by omega, HNEW.out HLE.out⟩⟩
          case measure => simp [intOf]; omega
        by_cases h2 : b1 = m1
        · subst h2
          by_cases h3 : b2 < m2
          · have HLE : Hid (aLe (b1, b2, b3) (b1, m2, m3)) := by show aLe _ _; rw [aLe_iff]; exact .inr ⟨rfl, by show b2 ≤ m2; omega⟩
            clear h1
            go_wp2_with fail
            refine mix_start (fun W => W.cell? ⟨gr, 2, none⟩ = some (.slice (some ⟨g, 0, none⟩) s.length cap) ∧ (W.cell? ⟨g, k * 3, none⟩ = some (.int .i64 b2) ∧ W.cell? ⟨g, k * 3 + 2, none⟩ = some (.int .u64 b1)) ∧ (W.cell? ⟨g, j * 3, none⟩ = some (.int .i64 m2) ∧ W.cell? ⟨g, j * 3 + 2, none⟩ = some (.int .u64 b1))) (by kernel_rfl) ?_
            have hF : (fun W => W.cell? ⟨gr, 2, none⟩ = some (.slice (some ⟨g, 0, none⟩) s.length cap) ∧ (W.cell? ⟨g, k * 3, none⟩ = some (.int .i64 b2) ∧ W.cell? ⟨g, k * 3 + 2, none⟩ = some (.int .u64 b1)) ∧ (W.cell? ⟨g, j * 3, none⟩ = some (.int .i64 m2) ∧ W.cell? ⟨g, j * 3 + 2, none⟩ = some (.int .u64 b1))) wr.drew := ⟨hc2, ⟨f1, f3⟩, ⟨g1, g3⟩⟩
            have hne : Nonempty (Held (fun W => W.cell? ⟨gr, 2, none⟩ = some (.slice (some ⟨g, 0, none⟩) s.length cap) ∧ (W.cell? ⟨g, k * 3, none⟩ = some (.int .i64 b2) ∧ W.cell? ⟨g, k * 3 + 2, none⟩ = some (.int .u64 b1)) ∧ (W.cell? ⟨g, j * 3, none⟩ = some (.int .i64 m2) ∧ W.cell? ⟨g, j * 3 + 2, none⟩ = some (.int .u64 b1)))) := ⟨⟨_, hF⟩⟩
            have hx0 : ∀ p : Held (fun W => W.cell? ⟨gr, 2, none⟩ = some (.slice (some ⟨g, 0, none⟩) s.length cap) ∧ (W.cell? ⟨g, k * 3, none⟩ = some (.int .i64 b2) ∧ W.cell? ⟨g, k * 3 + 2, none⟩ = some (.int .u64 b1)) ∧ (W.cell? ⟨g, j * 3, none⟩ = some (.int .i64 m2) ∧ W.cell? ⟨g, j * 3 + 2, none⟩ = some (.int .u64 b1))), p.w.cell? ⟨gr, 2, none⟩ = some (.slice (some ⟨g, 0, none⟩) s.length cap) := fun p => p.h.1
            have hx1 : ∀ p : Held (fun W => W.cell? ⟨gr, 2, none⟩ = some (.slice (some ⟨g, 0, none⟩) s.length cap) ∧ (W.cell? ⟨g, k * 3, none⟩ = some (.int .i64 b2) ∧ W.cell? ⟨g, k * 3 + 2, none⟩ = some (.int .u64 b1)) ∧ (W.cell? ⟨g, j * 3, none⟩ = some (.int .i64 m2) ∧ W.cell? ⟨g, j * 3 + 2, none⟩ = some (.int .u64 b1))), p.w.cell? ⟨g, k * 3, none⟩ = some (.int .i64 b2) := fun p => p.h.2.1.1
            have hx2 : ∀ p : Held (fun W => W.cell? ⟨gr, 2, none⟩ = some (.slice (some ⟨g, 0, none⟩) s.length cap) ∧ (W.cell? ⟨g, k * 3, none⟩ = some (.int .i64 b2) ∧ W.cell? ⟨g, k * 3 + 2, none⟩ = some (.int .u64 b1)) ∧ (W.cell? ⟨g, j * 3, none⟩ = some (.int .i64 m2) ∧ W.cell? ⟨g, j * 3 + 2, none⟩ = some (.int .u64 b1))), p.w.cell? ⟨g, k * 3 + 2, none⟩ = some (.int .u64 b1) := fun p => p.h.2.1.2
            have hx3 : ∀ p : Held (fun W => W.cell? ⟨gr, 2, none⟩ = some (.slice (some ⟨g, 0, none⟩) s.length cap) ∧ (W.cell? ⟨g, k * 3, none⟩ = some (.int .i64 b2) ∧ W.cell? ⟨g, k * 3 + 2, none⟩ = some (.int .u64 b1)) ∧ (W.cell? ⟨g, j * 3, none⟩ = some (.int .i64 m2) ∧ W.cell? ⟨g, j * 3 + 2, none⟩ = some (.int .u64 b1))), p.w.cell? ⟨g, j * 3, none⟩ = some (.int .i64 m2) := fun p => p.h.2.2.1
            have hx4 : ∀ p : Held (fun W => W.cell? ⟨gr, 2, none⟩ = some (.slice (some ⟨g, 0, none⟩) s.length cap) ∧ (W.cell? ⟨g, k * 3, none⟩ = some (.int .i64 b2) ∧ W.cell? ⟨g, k * 3 + 2, none⟩ = some (.int .u64 b1)) ∧ (W.cell? ⟨g, j * 3, none⟩ = some (.int .i64 m2) ∧ W.cell? ⟨g, j * 3 + 2, none⟩ = some (.int .u64 b1))), p.w.cell? ⟨g, j * 3 + 2, none⟩ = some (.int .u64 b1) := fun p => p.h.2.2.2
            have HF := Lib.hid hF
            clear hF hc2 f1 f3 g1 g3
            have hj0 : decide ((j : Int) < 0) = false := decide_eq_false (by omega)
            have h1 : decide (b1 < b1) = false := by simp
            refine mix_seg [0, 1, 2, 3, 4, 5, 6, 7, 8, 9, 10, 11, 12, 13, 14, 15, 16, 17, 18, 19, 20, 21, 22, 23, 24, 25, 26, 27, 28, 29, 30, 31, 32, 33, 34, 35, 36, 37, 38, 39, 40, 41, 42, 43, 44, 45, 46, 47, 48, 49, 50, 51, 52, 53, 54, 55, 56, 57, 58] (by kernel_rfl) HF.out ?_
            simp only [segOf, pickOps, pickOp]
            repeat (go_big_quiet_step (fail))
            refine wpQuiet_nil ?_
            refine mix_done (by kernel_rfl) ?_
            clear hj0
            clear h1
            go_wp2_with fail
            go_roundw
            case rel => exact ⟨k + 1, _, by omega, rfl, by go_num, HO.out.drew, .inr ⟨k, rfl, by omega, HNEW.out HLE.out⟩⟩
            case measure => simp [intOf]; omega
          · have HLE : Hid (aLe (b1, m2, m3) (b1, b2, b3)) := by show aLe _ _; rw [aLe_iff]; exact .inr ⟨rfl, by show m2 ≤ b2; omega⟩
            have H3 := Lib.hid h3
            clear h1 h3
            go_wp2_with fail
            refine mix_start (fun W => W.cell? ⟨gr, 2, none⟩ = some (.slice (some ⟨g, 0, none⟩) s.length cap) ∧ (W.cell? ⟨g, k * 3, none⟩ = some (.int .i64 b2) ∧ W.cell? ⟨g, k * 3 + 2, none⟩ = some (.int .u64 b1)) ∧ (W.cell? ⟨g, j * 3, none⟩ = some (.int .i64 m2) ∧ W.cell? ⟨g, j * 3 + 2, none⟩ = some (.int .u64 b1))) (by kernel_rfl) ?_
            have hF : (fun W => W.cell? ⟨gr, 2, none⟩ = some (.slice (some ⟨g, 0, none⟩) s.length cap) ∧ (W.cell? ⟨g, k * 3, none⟩ = some (.int .i64 b2) ∧ W.cell? ⟨g, k * 3 + 2, none⟩ = some (.int .u64 b1)) ∧ (W.cell? ⟨g, j * 3, none⟩ = some (.int .i64 m2) ∧ W.cell? ⟨g, j * 3 + 2, none⟩ = some (.int .u64 b1))) wr.drew := ⟨hc2, ⟨f1, f3⟩, ⟨g1, g3⟩⟩
            have hne : Nonempty (Held (fun W => W.cell? ⟨gr, 2, none⟩ = some (.slice (some ⟨g, 0, none⟩) s.length cap) ∧ (W.cell? ⟨g, k * 3, none⟩ = some (.int .i64 b2) ∧ W.cell? ⟨g, k * 3 + 2, none⟩ = some (.int .u64 b1)) ∧ (W.cell? ⟨g, j * 3, none⟩ = some (.int .i64 m2) ∧ W.cell? ⟨g, j * 3 + 2, none⟩ = some (.int .u64 b1)))) := ⟨⟨_, hF⟩⟩
            have hx0 : ∀ p : Held (fun W => W.cell? ⟨gr, 2, none⟩ = some (.slice (some ⟨g, 0, none⟩) s.length cap) ∧ (W.cell? ⟨g, k * 3, none⟩ = some (.int .i64 b2) ∧ W.cell? ⟨g, k * 3 + 2, none⟩ = some (.int .u64 b1)) ∧ (W.cell? ⟨g, j * 3, none⟩ = some (.int .i64 m2) ∧ W.cell? ⟨g, j * 3 + 2, none⟩ = some (.int .u64 b1))), p.w.cell? ⟨gr, 2, none⟩ = some (.slice (some ⟨g, 0, none⟩) s.length cap) := fun p => p.h.1
            have hx1 : ∀ p : Held (fun W => W.cell? ⟨gr, 2, none⟩ = some (.slice (some ⟨g, 0, none⟩) s.length cap) ∧ (W.cell? ⟨g, k * 3, none⟩ = some (.int .i64 b2) ∧ W.cell? ⟨g, k * 3 + 2, none⟩ = some (.int .u64 b1)) ∧ (W.cell? ⟨g, j * 3, none⟩ = some (.int .i64 m2) ∧ W.cell? ⟨g, j * 3 + 2, none⟩ = some (.int .u64 b1))), p.w.cell? ⟨g, k * 3, none⟩ = some (.int .i64 b2) := fun p => p.h.2.1.1
            have hx2 : ∀ p : Held (fun W => W.cell? ⟨gr, 2, none⟩ = some (.slice (some ⟨g, 0, none⟩) s.length cap) ∧ (W.cell? ⟨g, k * 3, none⟩ = some (.int .i64 b2) ∧ W.cell? ⟨g, k * 3 + 2, none⟩ = some (.int .u64 b1)) ∧ (W.cell? ⟨g, j * 3, none⟩ = some (.int .i64 m2) ∧ W.cell? ⟨g, j * 3 + 2, none⟩ = some (.int .u64 b1))), p.w.cell? ⟨g, k * 3 + 2, none⟩ = some (.int .u64 b1) := fun p => p.h.2.1.2
            have hx3 : ∀ p : Held (fun W => W.cell? ⟨gr, 2, none⟩ = some (.slice (some ⟨g, 0, none⟩) s.length cap) ∧ (W.cell? ⟨g, k * 3, none⟩ = some (.int .i64 b2) ∧ W.cell? ⟨g, k * 3 + 2, none⟩ = some (.int .u64 b1)) ∧ (W.cell? ⟨g, j * 3, none⟩ = some (.int .i64 m2) ∧ W.cell? ⟨g, j * 3 + 2, none⟩ = some (.int .u64 b1))), p.w.cell? ⟨g, j * 3, none⟩ = some (.int .i64 m2) := fun p => p.h.2.2.1
            have hx4 : ∀ p : Held (fun W => W.cell? ⟨gr, 2, none⟩ = some (.slice (some ⟨g, 0, none⟩) s.length cap) ∧ (W.cell? ⟨g, k * 3, none⟩ = some (.int .i64 b2) ∧ W.cell? ⟨g, k * 3 + 2, none⟩ = some (.int .u64 b1)) ∧ (W.cell? ⟨g, j * 3, none⟩ = some (.int .i64 m2) ∧ W.cell? ⟨g, j * 3 + 2, none⟩ = some (.int .u64 b1))), p.w.cell? ⟨g, j * 3 + 2, none⟩ = some (.int .u64 b1) := fun p => p.h.2.2.2
            have HF := Lib.hid hF
            clear hF hc2 f1 f3 g1 g3
            have hj0 : decide ((j : Int) < 0) = false := decide_eq_false (by omega)
            have h3 : decide (b2 < m2) = false := decide_eq_false (by have := H3.out; omega)
            refine mix_seg [0, 1, 2, 3, 4, 5, 6, 7, 8, 9, 10, 11, 12, 13, 14, 15, 16, 17, 18, 19, 20, 21, 22, 23, 24, 25, 26, 27, 28, 29, 30, 31, 32, 33, 34, 35, 36, 37, 38, 39, 40, 41, 42, 43, 44, 45, 46, 47, 48, 49, 50, 51, 52, 53, 54, 55, 56, 57, 58] (by kernel_rfl) HF.out ?_
            simp only [segOf, pickOps, pickOp]
            repeat (go_big_quiet_step (fail))
            refine wpQuiet_nil ?_
            refine mix_done (by kernel_rfl) ?_
            clear hj0
            clear h3
            go_wp2_with fail
            go_roundw
            case rel => exact ⟨k + 1, _, by omega, rfl, by go_num, HO.out.drew, .inr ⟨j, rfl, by omega, HOLD.out HLE.out⟩⟩
            case measure => simp [intOf]; omega
        · have HLE : Hid (aLe (m1, m2, m3) (b1, b2, b3)) := by show aLe _ _; rw [aLe_iff]; left; show m1 < b1; omega
          have H1 := Lib.hid h1
          have H2 := Lib.hid h2
          clear h1 h2
          go_wp2_with fail
          refine mix_start (fun W => W.cell? ⟨gr, 2, none⟩ = some (.slice (some ⟨g, 0, none⟩) s.length cap) ∧ (W.cell? ⟨g, k * 3, none⟩ = some (.int .i64 b2) ∧ W.cell? ⟨g, k * 3 + 2, none⟩ = some (.int .u64 b1)) ∧ (W.cell? ⟨g, j * 3, none⟩ = some (.int .i64 m2) ∧ W.cell? ⟨g, j * 3 + 2, none⟩ = some (.int .u64 m1))) (by kernel_rfl) ?_
          have hF : (fun W => W.cell? ⟨gr, 2, none⟩ = some (.slice (some ⟨g, 0, none⟩) s.length cap) ∧ (W.cell? ⟨g, k * 3, none⟩ = some (.int .i64 b2) ∧ W.cell? ⟨g, k * 3 + 2, none⟩ = some (.int .u64 b1)) ∧ (W.cell? ⟨g, j * 3, none⟩ = some (.int .i64 m2) ∧ W.cell? ⟨g, j * 3 + 2, none⟩ = some (.int .u64 m1))) wr.drew := ⟨hc2, ⟨f1, f3⟩, ⟨g1, g3⟩⟩
          have hne : Nonempty (Held (fun W => W.cell? ⟨gr, 2, none⟩ = some (.slice (some ⟨g, 0, none⟩) s.length cap) ∧ (W.cell? ⟨g, k * 3, none⟩ = some (.int .i64 b2) ∧ W.cell? ⟨g, k * 3 + 2, none⟩ = some (.int .u64 b1)) ∧ (W.cell? ⟨g, j * 3, none⟩ = some (.int .i64 m2) ∧ W.cell? ⟨g, j * 3 + 2, none⟩ = some (.int .u64 m1)))) := ⟨⟨_, hF⟩⟩
          have hx0 : ∀ p : Held (fun W => W.cell? ⟨gr, 2, none⟩ = some (.slice (some ⟨g, 0, none⟩) s.length cap) ∧ (W.cell? ⟨g, k * 3, none⟩ = some (.int .i64 b2) ∧ W.cell? ⟨g, k * 3 + 2, none⟩ = some (.int .u64 b1)) ∧ (W.cell? ⟨g, j * 3, none⟩ = some (.int .i64 m2) ∧ W.cell? ⟨g, j * 3 + 2, none⟩ = some (.int .u64 m1))), p.w.cell? ⟨gr, 2, none⟩ = some (.slice (some ⟨g, 0, none⟩) s.length cap) := fun p => p.h.1
          have hx1 : ∀ p : Held (fun W => W.cell? ⟨gr, 2, none⟩ = some (.slice (some ⟨g, 0, none⟩) s.length cap) ∧ (W.cell? ⟨g, k * 3, none⟩ = some (.int .i64 b2) ∧ W.cell? ⟨g, k * 3 + 2, none⟩ = some (.int .u64 b1)) ∧ (W.cell? ⟨g, j * 3, none⟩ = some (.int .i64 m2) ∧ W.cell? ⟨g, j * 3 + 2, none⟩ = some (.int .u64 m1))), p.w.cell? ⟨g, k * 3, none⟩ = some (.int .i64 b2) := fun p => p.h.2.1.1
          have hx2 : ∀ p : Held (fun W => W.cell? ⟨gr, 2, none⟩ = some (.slice (some ⟨g, 0, none⟩) s.length cap) ∧ (W.cell? ⟨g, k * 3, none⟩ = some (.int .i64 b2) ∧ W.cell? ⟨g, k * 3 + 2, none⟩ = some (.int .u64 b1)) ∧ (W.cell? ⟨g, j * 3, none⟩ = some (.int .i64 m2) ∧ W.cell? ⟨g, j * 3 + 2, none⟩ = some (.int .u64 m1))), p.w.cell? ⟨g, k * 3 + 2, none⟩ = some (.int .u64 b1) := fun p => p.h.2.1.2
          have hx3 : ∀ p : Held (fun W => W.cell? ⟨gr, 2, none⟩ = some (.slice (some ⟨g, 0, none⟩) s.length cap) ∧ (W.cell? ⟨g, k * 3, none⟩ = some (.int .i64 b2) ∧ W.cell? ⟨g, k * 3 + 2, none⟩ = some (.int .u64 b1)) ∧ (W.cell? ⟨g, j * 3, none⟩ = some (.int .i64 m2) ∧ W.cell? ⟨g, j * 3 + 2, none⟩ = some (.int .u64 m1))), p.w.cell? ⟨g, j * 3, none⟩ = some (.int .i64 m2) := fun p => p.h.2.2.1
          have hx4 : ∀ p : Held (fun W => W.cell? ⟨gr, 2, none⟩ = some (.slice (some ⟨g, 0, none⟩) s.length cap) ∧ (W.cell? ⟨g, k * 3, none⟩ = some (.int .i64 b2) ∧ W.cell? ⟨g, k * 3 + 2, none⟩ = some (.int .u64 b1)) ∧ (W.cell? ⟨g, j * 3, none⟩ = some (.int .i64 m2) ∧ W.cell? ⟨g, j * 3 + 2, none⟩ = some (.int .u64 m1))), p.w.cell? ⟨g, j * 3 + 2, none⟩ = some (.int .u64 m1) := fun p => p.h.2.2.2
          have HF := Lib.hid hF
          clear hF hc2 f1 f3 g1 g3
          have hj0 : decide ((j : Int) < 0) = false := decide_eq_false (by omega)
          have h1 : decide (b1 < m1) = false := decide_eq_false (by have := H1.out; omega)
          have h2 : (b1 == m1) = false := by simpa using H2.out
          refine mix_seg [0, 1, 2, 3, 4, 5, 6, 7, 8, 9, 10, 11, 12, 13, 14, 15, 16, 17, 18, 19, 20, 21, 22, 23, 24, 25, 26, 27, 28, 29, 30, 31, 32, 33, 34, 35, 36, 37, 38, 39, 40, 41, 42, 43, 44, 45, 46, 47, 48, 49, 50, 51, 52, 53, 54, 55, 56, 57, 58] (by kernel_rfl) HF.out ?_
          simp only [segOf, pickOps, pickOp]
          repeat (go_big_quiet_step (fail))
          refine wpQuiet_nil ?_
          refine mix_done (by kernel_rfl) ?_
          clear hj0
          clear h1 h2
          go_wp2_with fail
          go_roundw
          case rel => exact ⟨k + 1, _, by omega, rfl, by go_num, HO.out.drew, .inr ⟨j, rfl, by omega, HOLD.out HLE.out⟩⟩
          case measure => simp [intOf]; omega
    · obtain rfl : k = s.length := by omega
      go_wp2
      go_ret
      refine ⟨c, rfl, HO.out, ?_⟩
      rcases hc with ⟨h1, h2⟩ | ⟨j, h1, h2, h3⟩
      · exact .inl ⟨List.eq_nil_of_length_eq_zero h1, h2⟩
      · exact .inr ⟨j, h1, h2, Fore.at_ h2 h3⟩
end Go.Proofs.Ytbpdemgbljbhcaa
