/-
  The contract of heap.rise over this seat's program: a heap but for what may have to rise at a place becomes a heap of the same alarms; nothing else that was there has turned. Conditions: at most a thousand alarms, in a row of one's own.
-/
import Derived.Test.YtbpdemgbljbhcaaWRow
namespace Go.Proofs.Ytbpdemgbljbhcaa
open Go.RowKit

theorem results_void {fn : Func} (h : fn.results = #[]) : fn.results = #[] := h
theorem rise_half (r : Nat) : (r + 1 - 1) / 2 = r / 2 := by omega

set_option maxHeartbeats 1200000 in
theorem rise_any (base g cap n : Nat) (l : List Al) (p : Nat) (w : World) (hn : n = l.length) (hr : ARow w base (.slice (some ⟨g, 0, none⟩) n cap) l) (hg : g < w.heap.size) (hp : p < n) (hl : n ≤ 1000) (hR : RiseAt l p) :
    Calls Try.prog 30 #[.slice (some ⟨g, 0, none⟩) n cap, .int .i64 p] w fun e w' => e = .returned (.tuple #[]) ∧ ∃ l', l'.Perm l ∧ HeapL l' ∧ ARow w' base (.slice (some ⟨g, 0, none⟩) n cap) l' ∧ Only [g] w w' := by
  have HN := Lib.hid hn
  have HR := Lib.hid hr
  have HI := Lib.hid hR
  have HG := Lib.hid hg
  clear hn hr hR hg
  go_enter Try.func30, Try.ntmps30
  go_wp2_with fail
  go_loopw [1] (fun i wr => ∃ (k : Nat) (dl : List Al), k < n ∧ i = .int .i64 k ∧ dl.Perm l ∧ RiseAt dl k ∧ ARow wr base (.slice (some ⟨g, 0, none⟩) n cap) dl ∧ Only [g] w wr) (fun i _ => (intOf i).toNat)
  case atStart => exact ⟨p, l, hp, rfl, List.Perm.refl _, HI.out, HR.out, Only.refl _ _⟩
  case round =>
    obtain ⟨k, dl, hk, rfl, hpm, hra, hrow, ho⟩ := hrel
    have HP := Lib.hid hpm
    have HA := Lib.hid hra
    have HW := Lib.hid hrow
    have HO := Lib.hid ho
    have HL : Hid (n = dl.length) := by show _ = _; rw [HP.out.length_eq]; exact HN.out
    clear hpm hra hrow ho
    by_cases hk0 : k = 0
    · subst hk0
      go_wp2
      go_end0
      exact ⟨rfl, dl, HP.out, HA.out.zero, HW.out, HO.out⟩
    · obtain ⟨q, hq⟩ : ∃ q, (k - 1) / 2 = q := ⟨_, rfl⟩
      have hqk : q < k := by omega
      have hkp : 0 < (k : Int) := by omega
      have hquo : Int.tdiv ((k : Int) - 1) 2 = (q : Int) := by
        rw [show (k : Int) - 1 = ((k - 1 : Nat) : Int) by omega, ← hq]; rfl
      have hqi : (q : Int) < (n : Int) := by omega
      have hki : (k : Int) < (n : Int) := by omega
      have HQ := Lib.hid hq
      have HK := Lib.hid hk0
      clear hq hk0
      have e1 := HW.out.el HL.out (k := q) (by have := HL.out; omega)
      have e2 := HW.out.el HL.out (k := k) (by have := HL.out; omega)
      obtain ⟨a, ha⟩ : ∃ a, a = nth dl q := ⟨_, rfl⟩
      obtain ⟨b, hb⟩ : ∃ b, b = nth dl k := ⟨_, rfl⟩
      rw [← ha] at e1
      rw [← hb] at e2
      have HAA := Lib.hid ha
      have HBB := Lib.hid hb
      clear ha hb
      obtain ⟨a1, a2, a3⟩ := a
      obtain ⟨b1, b2, b3⟩ := b
      have E1 := Lib.hid e1
      have E2 := Lib.hid e2
      clear e1 e2
      go_wp2_with fail
      refine mix_start (fun W => ElAt W g q (a1, a2, a3) ∧ ElAt W g k (b1, b2, b3)) (by kernel_rfl) ?_
      have hne : Nonempty (Held (fun W => ElAt W g q (a1, a2, a3) ∧ ElAt W g k (b1, b2, b3))) := ⟨⟨wr, E1.out, E2.out⟩⟩
      have hx0 : ∀ p : Held (fun W => ElAt W g q (a1, a2, a3) ∧ ElAt W g k (b1, b2, b3)), p.w.cell? ⟨g, q * 3, none⟩ = some (.int .u64 a1) := fun p => p.h.1.1
      have hx1 : ∀ p : Held (fun W => ElAt W g q (a1, a2, a3) ∧ ElAt W g k (b1, b2, b3)), p.w.cell? ⟨g, q * 3 + 1, none⟩ = some (.int .i64 a2) := fun p => p.h.1.2.1
      have hx2 : ∀ p : Held (fun W => ElAt W g q (a1, a2, a3) ∧ ElAt W g k (b1, b2, b3)), p.w.cell? ⟨g, q * 3 + 2, none⟩ = some (.int .i64 a3) := fun p => p.h.1.2.2
      have hy0 : ∀ p : Held (fun W => ElAt W g q (a1, a2, a3) ∧ ElAt W g k (b1, b2, b3)), p.w.cell? ⟨g, k * 3, none⟩ = some (.int .u64 b1) := fun p => p.h.2.1
      have hy1 : ∀ p : Held (fun W => ElAt W g q (a1, a2, a3) ∧ ElAt W g k (b1, b2, b3)), p.w.cell? ⟨g, k * 3 + 1, none⟩ = some (.int .i64 b2) := fun p => p.h.2.2.1
      have hy2 : ∀ p : Held (fun W => ElAt W g q (a1, a2, a3) ∧ ElAt W g k (b1, b2, b3)), p.w.cell? ⟨g, k * 3 + 2, none⟩ = some (.int .i64 b3) := fun p => p.h.2.2.2
      refine mix_seg [0, 1, 2, 3, 4, 5, 6, 7] (by kernel_rfl) ⟨E1.out, E2.out⟩ ?_
      simp only [segOf, pickOps, pickOp]
      repeat (go_big_quiet_step (fail))
      refine wpQuiet_nil ?_
      clear hx0 hx1 hx2 hy0 hy1 hy2
      refine mix_run 8 (by kernel_rfl) ?_
      simp only [segOf, pickOps, pickOp]
      go_wp2_with fail
      refine (before_any (a1, a2, a3) (b1, b2, b3) _).mono ?_
      rintro e w2 ⟨rfl, hb2⟩
      have HB2 : Hid (Only [] wr w2) := (Only.refl _ _).drew.trans (Only.of_below hb2 [])
      clear hb2
      have hg2 : g < wr.heap.size := Nat.lt_of_lt_of_le HG.out HO.out.size
      have HW2 := Lib.hid (HW.out.only HB2.out (by simp))
      have F1 := Lib.hid (E1.out.only HB2.out hg2 (by simp))
      have F2 := Lib.hid (E2.out.only HB2.out hg2 (by simp))
      have HO2 := Lib.hid (HO.out.next HB2.out (by simp))
      clear hg2 HB2 E1 E2 HW HO
      go_wp2_with fail
      refine MixPost.normal ⟨F1.out, F2.out⟩ ?_
      refine mix_done (by kernel_rfl) ?_
      clear hne
      cases hbf : bef (a1, a2, a3) (b1, b2, b3)
      · have HF := Lib.hid hbf
        clear hbf
        go_wp2_with fail
        obtain ⟨f1, f2, f3⟩ := F1.out
        obtain ⟨g1, g2, g3⟩ := F2.out
        have z0 := HW2.out.thaw HL.out
        have z1 := z0 (q * 3)
        have z2 := z0 (q * 3 + 1)
        have z3 := z0 (q * 3 + 2)
        have z4 := z0 (k * 3)
        have z5 := z0 (k * 3 + 1)
        have z6 := z0 (k * 3 + 2)
        clear z0
        refine mix_start (fun _ => True) (by kernel_rfl) ?_
        have hne : Nonempty (Held (fun _ => True)) := ⟨⟨w2, trivial⟩⟩
        refine mix_seg [0, 1, 2, 3, 4, 5, 6, 8, 9, 10] (by kernel_rfl) trivial ?_
        simp only [segOf, pickOps, pickOp]
        repeat (go_big_quiet_step (fail))
        refine wpQuiet_nil ?_
        refine mix_several [7, 11] (by kernel_rfl) ?_
        intro i hi
        simp only [List.mem_cons, List.not_mem_nil, or_false] at hi
        rcases hi with rfl | rfl
        · simp only [segOf, pickOps, pickOp]
          go_wp2_with fail
          refine MixPost.normal trivial ?_
          refine mix_run 11 (by kernel_rfl) ?_
          simp only [segOf, pickOps, pickOp]
          go_wp2_with fail
          refine MixPost.normal trivial ?_
          refine mix_seg [12] (by kernel_rfl) trivial ?_
          simp only [segOf, pickOps, pickOp]
          repeat (go_big_quiet_step (fail))
          refine wpQuiet_nil ?_
          refine mix_run 13 (by kernel_rfl) ?_
          simp only [segOf, pickOps, pickOp]
          go_wp2_with fail
          refine MixPost.normal trivial ?_
          refine mix_seg [14] (by kernel_rfl) trivial ?_
          simp only [segOf, pickOps, pickOp]
          repeat (go_big_quiet_step (fail))
          refine wpQuiet_nil ?_
          refine mix_run 15 (by kernel_rfl) ?_
          simp only [segOf, pickOps, pickOp]
          go_wp2_with fail
          refine MixPost.normal trivial ?_
          refine mix_done (by kernel_rfl) ?_
          go_wp2_with fail
          go_roundw
          case rel =>
            refine ⟨q, swp dl q k, by omega, rfl, (swp_perm (by have := HL.out; omega) (by have := HL.out; omega)).trans HP.out, HA.out.step (by omega) (by have := HL.out; omega) HQ.out (by rw [← HAA.out, ← HBB.out]; exact HF.out), ?_, ?_⟩
            · exact HW2.out.swap HL.out HAA.out HBB.out
            · exact HO2.out.swap (by simp) q k a1 a2 a3 b1 b2 b3
          case measure => simp [intOf]; omega
        · simp only [segOf, pickOps, pickOp]
          go_wp2_with fail
          refine MixPost.normal trivial ?_
          refine mix_run 7 (by kernel_rfl) ?_
          simp only [segOf, pickOps, pickOp]
          go_wp2_with fail
          refine MixPost.normal trivial ?_
          refine mix_seg [12] (by kernel_rfl) trivial ?_
          simp only [segOf, pickOps, pickOp]
          repeat (go_big_quiet_step (fail))
          refine wpQuiet_nil ?_
          refine mix_run 13 (by kernel_rfl) ?_
          simp only [segOf, pickOps, pickOp]
          go_wp2_with fail
          refine MixPost.normal trivial ?_
          refine mix_seg [14] (by kernel_rfl) trivial ?_
          simp only [segOf, pickOps, pickOp]
          repeat (go_big_quiet_step (fail))
          refine wpQuiet_nil ?_
          refine mix_run 15 (by kernel_rfl) ?_
          simp only [segOf, pickOps, pickOp]
          go_wp2_with fail
          refine MixPost.normal trivial ?_
          refine mix_done (by kernel_rfl) ?_
          go_wp2_with fail
          go_roundw
          case rel =>
            refine ⟨q, swp dl q k, by omega, rfl, (swp_perm (by have := HL.out; omega) (by have := HL.out; omega)).trans HP.out, HA.out.step (by omega) (by have := HL.out; omega) HQ.out (by rw [← HAA.out, ← HBB.out]; exact HF.out), ?_, ?_⟩
            · exact HW2.out.swap HL.out HAA.out HBB.out
            · exact HO2.out.swap (by simp) q k a1 a2 a3 b1 b2 b3
          case measure => simp [intOf]; omega
      · have HF := Lib.hid hbf
        clear hbf
        go_wp2
        refine bodyPost_ret (results_none rfl _ _ _) rfl ?_
        exact ⟨rfl, dl, HP.out, HA.out.stop (by rw [HQ.out, ← HAA.out, ← HBB.out]; exact HF.out), HW2.out, HO2.out⟩
end Go.Proofs.Ytbpdemgbljbhcaa
