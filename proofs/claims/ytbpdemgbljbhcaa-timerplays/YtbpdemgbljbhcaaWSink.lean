/-
  The contract of heap.sink over this seat's program: the alarm that was laid at a place sinks until it is due ahead of its children; the same alarms are left, a heap but for what may have to rise at that place; nothing else that was there has turned. Conditions: at most a thousand alarms, in a row of one's own.
-/
import Derived.Test.YtbpdemgbljbhcaaWRow
namespace Go.Proofs.Ytbpdemgbljbhcaa
open Go.RowKit

set_option maxHeartbeats 2400000 in
theorem sink_any (base g cap n : Nat) (l : List Al) (p : Nat) (w : World) (hn : n = l.length) (hr : ARow w base (.slice (some ⟨g, 0, none⟩) n cap) l) (hg : g < w.heap.size) (hp : p < n) (hl : n ≤ 1000) (hS : SinkAt l p p) :
    Calls Try.prog 31 #[.slice (some ⟨g, 0, none⟩) n cap, .int .i64 p] w fun e w' => e = .returned (.tuple #[]) ∧ ∃ l', l'.Perm l ∧ RiseAt l' p ∧ ARow w' base (.slice (some ⟨g, 0, none⟩) n cap) l' ∧ Only [g] w w' := by
  have HN := Lib.hid hn
  have HR := Lib.hid hr
  have HI := Lib.hid hS
  have HG := Lib.hid hg
  have HP0 := Lib.hid hp
  clear hn hr hS hg
  go_enter Try.func31, Try.ntmps31
  go_wp2_with fail
  go_loopw [1] (fun i wr => ∃ (k : Nat) (dl : List Al), k < n ∧ i = .int .i64 k ∧ dl.Perm l ∧ SinkAt dl p k ∧ ARow wr base (.slice (some ⟨g, 0, none⟩) n cap) dl ∧ Only [g] w wr) (fun i _ => n - (intOf i).toNat)
  case atStart => exact ⟨p, l, HP0.out, rfl, List.Perm.refl _, HI.out, HR.out, Only.refl _ _⟩
  case round =>
    obtain ⟨k, dl, hk, rfl, hpm, hra, hrow, ho⟩ := hrel
    have HP := Lib.hid hpm
    have HA := Lib.hid hra
    have HW := Lib.hid hrow
    have HO := Lib.hid ho
    have HL : Hid (n = dl.length) := by show _ = _; rw [HP.out.length_eq]; exact HN.out
    clear hpm hra hrow ho hp
    obtain ⟨W0, hW0⟩ : ∃ W0, W0 = wr := ⟨_, rfl⟩
    subst hW0
    go_wp2_with fail
    go_loopw [4, 5] (fun f c wi => ∃ (j m : Nat), j ≤ 2 * k + 3 ∧ 2 * k + 1 ≤ j ∧ m < n ∧ f = .int .i64 m ∧ c = .int .i64 j ∧ Scan dl k j m ∧ ARow wi base (.slice (some ⟨g, 0, none⟩) n cap) dl ∧ Only [g] w wi) (fun _ c _ => 2 * k + 3 - (intOf c).toNat)
    case atStart => exact ⟨2 * k + 1, k, by omega, by omega, hk, rfl, by go_num, Scan.start (by have := HL.out; omega), HW.out, HO.out⟩
    case round =>
      obtain ⟨j, m, hj3, hj1, hm, rfl, rfl, hsc, hrw, hon⟩ := hrel
      have HS := Lib.hid hsc
      have HV := Lib.hid hrw
      have HU := Lib.hid hon
      clear hsc hrw hon HW HO
      by_cases hgo : j ≤ 2 * k + 2 ∧ j < n
      · obtain ⟨hj2, hjn⟩ := hgo
        have hji : (j : Int) ≤ 2 * (k : Int) + 2 := by omega
        have hjl : (j : Int) < (n : Int) := by omega
        have hml : (m : Int) < (n : Int) := by omega
        have e1 := HV.out.el HL.out (k := j) (by have := HL.out; omega)
        have e2 := HV.out.el HL.out (k := m) (by have := HL.out; omega)
        obtain ⟨a, ha⟩ : ∃ a, a = nth dl j := ⟨_, rfl⟩
        obtain ⟨b, hb⟩ : ∃ b, b = nth dl m := ⟨_, rfl⟩
        rw [← ha] at e1
        rw [← hb] at e2
        have HAA := Lib.hid ha
        have HBB := Lib.hid hb
        clear ha hb
        obtain ⟨a1, a2, a3⟩ := a
        obtain ⟨b1, b2, b3⟩ := b
        have E1 := Lib.hid e1
        have E2 := Lib.hid e2
        clear e1 e2
        go_wp2_with fail
        refine mix_start (fun W => ElAt W g j (a1, a2, a3) ∧ ElAt W g m (b1, b2, b3)) (by kernel_rfl) ?_
        have hne : Nonempty (Held (fun W => ElAt W g j (a1, a2, a3) ∧ ElAt W g m (b1, b2, b3))) := ⟨⟨wr, E1.out, E2.out⟩⟩
        have hx0 : ∀ p : Held (fun W => ElAt W g j (a1, a2, a3) ∧ ElAt W g m (b1, b2, b3)), p.w.cell? ⟨g, j * 3, none⟩ = some (.int .u64 a1) := fun p => p.h.1.1
        have hx1 : ∀ p : Held (fun W => ElAt W g j (a1, a2, a3) ∧ ElAt W g m (b1, b2, b3)), p.w.cell? ⟨g, j * 3 + 1, none⟩ = some (.int .i64 a2) := fun p => p.h.1.2.1
        have hx2 : ∀ p : Held (fun W => ElAt W g j (a1, a2, a3) ∧ ElAt W g m (b1, b2, b3)), p.w.cell? ⟨g, j * 3 + 2, none⟩ = some (.int .i64 a3) := fun p => p.h.1.2.2
        have hy0 : ∀ p : Held (fun W => ElAt W g j (a1, a2, a3) ∧ ElAt W g m (b1, b2, b3)), p.w.cell? ⟨g, m * 3, none⟩ = some (.int .u64 b1) := fun p => p.h.2.1
        have hy1 : ∀ p : Held (fun W => ElAt W g j (a1, a2, a3) ∧ ElAt W g m (b1, b2, b3)), p.w.cell? ⟨g, m * 3 + 1, none⟩ = some (.int .i64 b2) := fun p => p.h.2.2.1
        have hy2 : ∀ p : Held (fun W => ElAt W g j (a1, a2, a3) ∧ ElAt W g m (b1, b2, b3)), p.w.cell? ⟨g, m * 3 + 2, none⟩ = some (.int .i64 b3) := fun p => p.h.2.2.2
        refine mix_seg [0, 1, 2, 3, 4, 5, 6, 7] (by kernel_rfl) ⟨E1.out, E2.out⟩ ?_
        simp only [segOf, pickOps, pickOp]
        repeat (go_big_quiet_step (fail))
        refine wpQuiet_nil ?_
        clear hx0 hx1 hx2 hy0 hy1 hy2
        refine mix_run 8 (by kernel_rfl) ?_
        simp only [segOf, pickOps, pickOp]
        go_wp2_with fail
        refine (before_any (a1, a2, a3) (b1, b2, b3) _).mono ?_
        rintro e w2 ⟨rfl, hb2⟩
        have HB2 : Hid (Only [] wr w2) := (Only.refl _ _).drew.trans (Only.of_below hb2 [])
        clear hb2
        have hg2 : g < wr.heap.size := Nat.lt_of_lt_of_le HG.out HU.out.size
        have HV2 := Lib.hid (HV.out.only HB2.out (by simp))
        have F1 := Lib.hid (E1.out.only HB2.out hg2 (by simp))
        have F2 := Lib.hid (E2.out.only HB2.out hg2 (by simp))
        have HU2 := Lib.hid (HU.out.next HB2.out (by simp))
        clear hg2 HB2 E1 E2 HV HU
        go_wp2_with fail
        refine MixPost.normal ⟨F1.out, F2.out⟩ ?_
        refine mix_done (by kernel_rfl) ?_
        clear hne
        cases hbf : bef (a1, a2, a3) (b1, b2, b3)
        · have HF := Lib.hid hbf
          clear hbf
          go_wp2_with fail
          go_roundw
          case rel => exact ⟨j + 1, m, by omega, by omega, hm, rfl, by go_num, HS.out.no (by rw [← HAA.out, ← HBB.out]; exact HF.out), HV2.out, HU2.out⟩
          case measure => simp [intOf]; omega
        · have HF := Lib.hid hbf
          clear hbf
          go_wp2_with fail
          go_roundw
          case rel => exact ⟨j + 1, j, by omega, by omega, hjn, rfl, by go_num, HS.out.yes (by have := HL.out; omega) (by omega) (by omega) (by rw [← HAA.out, ← HBB.out]; exact HF.out), HV2.out, HU2.out⟩
          case measure => simp [intOf]; omega
      · by_cases hj2 : j ≤ 2 * k + 2
        · have hjn : ¬ j < n := fun h => hgo ⟨hj2, h⟩
          have hji : (j : Int) ≤ 2 * (k : Int) + 2 := by omega
          have hjl : ¬ (j : Int) < (n : Int) := by omega
          clear hgo
          have HE : Hid (2 * k + 2 < j ∨ dl.length ≤ j) := by show _ ∨ _; have := HL.out; omega
          have HM := Lib.hid (HS.out.whole HE.out)
          by_cases hmk : m = k
          · subst hmk
            go_wp2_with fail
            refine bodyPost_ret (results_none rfl _ _ _) rfl ?_
            exact ⟨rfl, dl, HP.out, HA.out.stop HM.out, HV.out, HU.out⟩
          · have hmki : ¬ (m : Int) = (k : Int) := by omega
            have hkm : k < m := by have := HS.out.is; omega
            have e1 := HV.out.el HL.out (k := k) (by have := HL.out; omega)
            have e2 := HV.out.el HL.out (k := m) (by have := HL.out; omega)
            obtain ⟨a, ha⟩ : ∃ a, a = nth dl k := ⟨_, rfl⟩
            obtain ⟨b, hb⟩ : ∃ b, b = nth dl m := ⟨_, rfl⟩
            rw [← ha] at e1
            rw [← hb] at e2
            have HAA := Lib.hid ha
            have HBB := Lib.hid hb
            clear ha hb
            obtain ⟨a1, a2, a3⟩ := a
            obtain ⟨b1, b2, b3⟩ := b
            obtain ⟨f1, f2, f3⟩ := e1
            obtain ⟨g1, g2, g3⟩ := e2
            have z0 := HV.out.thaw HL.out
            have z1 := z0 (k * 3)
            have z2 := z0 (k * 3 + 1)
            have z3 := z0 (k * 3 + 2)
            have z4 := z0 (m * 3)
            have z5 := z0 (m * 3 + 1)
            have z6 := z0 (m * 3 + 2)
            clear z0
            have hki : (k : Int) < (n : Int) := by omega
            have hmi : (m : Int) < (n : Int) := by omega
            go_wp2_with fail
            refine mix_start (fun _ => True) (by kernel_rfl) ?_
            have hne : Nonempty (Held (fun _ => True)) := ⟨⟨wr, trivial⟩⟩
            refine mix_seg [0, 1, 2, 3, 4, 5, 6, 8, 9, 10] (by kernel_rfl) trivial ?_
            simp only [segOf, pickOps, pickOp]
            repeat (go_big_quiet_step (fail))
            refine wpQuiet_nil ?_
            refine mix_several [7, 11] (by kernel_rfl) ?_
            intro i hi
            simp only [List.mem_cons, List.not_mem_nil, or_false] at hi
            rcases hi with rfl | rfl
            · simp only [segOf, pickOps, pickOp]
              go_wp2_with fail
              refine MixPost.normal trivial ?_
              refine mix_run 11 (by kernel_rfl) ?_
              simp only [segOf, pickOps, pickOp]
              go_wp2_with fail
              refine MixPost.normal trivial ?_
              refine mix_seg [12] (by kernel_rfl) trivial ?_
              simp only [segOf, pickOps, pickOp]
              repeat (go_big_quiet_step (fail))
              refine wpQuiet_nil ?_
              refine mix_run 13 (by kernel_rfl) ?_
              simp only [segOf, pickOps, pickOp]
              go_wp2_with fail
              refine MixPost.normal trivial ?_
              refine mix_seg [14] (by kernel_rfl) trivial ?_
              simp only [segOf, pickOps, pickOp]
              repeat (go_big_quiet_step (fail))
              refine wpQuiet_nil ?_
              refine mix_run 15 (by kernel_rfl) ?_
              simp only [segOf, pickOps, pickOp]
              go_wp2_with fail
              refine MixPost.normal trivial ?_
              refine mix_done (by kernel_rfl) ?_
              go_wp2_with fail
              go_roundw
              case rel =>
                have hi2 : (m - 1) / 2 = k ∧ 0 < m ∧ bef (nth dl m) (nth dl k) = true := by
                  rcases HS.out.is with h | h
                  · omega
                  · exact h
                refine ⟨m, swp dl k m, hm, rfl, (swp_perm (by have := HL.out; omega) (by have := HL.out; omega)).trans HP.out, HA.out.step (by have := HL.out; omega) hi2.2.1 hi2.1 hi2.2.2 HM.out, ?_, ?_⟩
                · exact HV.out.swap HL.out HAA.out HBB.out
                · exact HU.out.swap (by simp) k m a1 a2 a3 b1 b2 b3
              case measure => simp [intOf]; omega
            · simp only [segOf, pickOps, pickOp]
              go_wp2_with fail
              refine MixPost.normal trivial ?_
              refine mix_run 7 (by kernel_rfl) ?_
              simp only [segOf, pickOps, pickOp]
              go_wp2_with fail
              refine MixPost.normal trivial ?_
              refine mix_seg [12] (by kernel_rfl) trivial ?_
              simp only [segOf, pickOps, pickOp]
              repeat (go_big_quiet_step (fail))
              refine wpQuiet_nil ?_
              refine mix_run 13 (by kernel_rfl) ?_
              simp only [segOf, pickOps, pickOp]
              go_wp2_with fail
              refine MixPost.normal trivial ?_
              refine mix_seg [14] (by kernel_rfl) trivial ?_
              simp only [segOf, pickOps, pickOp]
              repeat (go_big_quiet_step (fail))
              refine wpQuiet_nil ?_
              refine mix_run 15 (by kernel_rfl) ?_
              simp only [segOf, pickOps, pickOp]
              go_wp2_with fail
              refine MixPost.normal trivial ?_
              refine mix_done (by kernel_rfl) ?_
              go_wp2_with fail
              go_roundw
              case rel =>
                have hi2 : (m - 1) / 2 = k ∧ 0 < m ∧ bef (nth dl m) (nth dl k) = true := by
                  rcases HS.out.is with h | h
                  · omega
                  · exact h
                refine ⟨m, swp dl k m, hm, rfl, (swp_perm (by have := HL.out; omega) (by have := HL.out; omega)).trans HP.out, HA.out.step (by have := HL.out; omega) hi2.2.1 hi2.1 hi2.2.2 HM.out, ?_, ?_⟩
                · exact HV.out.swap HL.out HAA.out HBB.out
                · exact HU.out.swap (by simp) k m a1 a2 a3 b1 b2 b3
              case measure => simp [intOf]; omega
        · have hji : ¬ (j : Int) ≤ 2 * (k : Int) + 2 := by omega
          have hjn : True := trivial
          clear hgo
          have HE : Hid (2 * k + 2 < j ∨ dl.length ≤ j) := by show _ ∨ _; have := HL.out; omega
          have HM := Lib.hid (HS.out.whole HE.out)
          by_cases hmk : m = k
          · subst hmk
            go_wp2_with fail
            refine bodyPost_ret (results_none rfl _ _ _) rfl ?_
            exact ⟨rfl, dl, HP.out, HA.out.stop HM.out, HV.out, HU.out⟩
          · have hmki : ¬ (m : Int) = (k : Int) := by omega
            have hkm : k < m := by have := HS.out.is; omega
            have e1 := HV.out.el HL.out (k := k) (by have := HL.out; omega)
            have e2 := HV.out.el HL.out (k := m) (by have := HL.out; omega)
            obtain ⟨a, ha⟩ : ∃ a, a = nth dl k := ⟨_, rfl⟩
            obtain ⟨b, hb⟩ : ∃ b, b = nth dl m := ⟨_, rfl⟩
            rw [← ha] at e1
            rw [← hb] at e2
            have HAA := Lib.hid ha
            have HBB := Lib.hid hb
            clear ha hb
            obtain ⟨a1, a2, a3⟩ := a
            obtain ⟨b1, b2, b3⟩ := b
            obtain ⟨f1, f2, f3⟩ := e1
            obtain ⟨g1, g2, g3⟩ := e2
            have z0 := HV.out.thaw HL.out
            have z1 := z0 (k * 3)
            have z2 := z0 (k * 3 + 1)
            have z3 := z0 (k * 3 + 2)
            have z4 := z0 (m * 3)
            have z5 := z0 (m * 3 + 1)
            have z6 := z0 (m * 3 + 2)
            clear z0
            have hki : (k : Int) < (n : Int) := by omega
            have hmi : (m : Int) < (n : Int) := by omega
            go_wp2_with fail
            refine mix_start (fun _ => True) (by kernel_rfl) ?_
            have hne : Nonempty (Held (fun _ => True)) := ⟨⟨wr, trivial⟩⟩
            refine mix_seg [0, 1, 2, 3, 4, 5, 6, 8, 9, 10] (by kernel_rfl) trivial ?_
            simp only [segOf, pickOps, pickOp]
            repeat (go_big_quiet_step (fail))
            refine wpQuiet_nil ?_
            refine mix_several [7, 11] (by kernel_rfl) ?_
            intro i hi
            simp only [List.mem_cons, List.not_mem_nil, or_false] at hi
            rcases hi with rfl | rfl
            · simp only [segOf, pickOps, pickOp]
              go_wp2_with fail
              refine MixPost.normal trivial ?_
              refine mix_run 11 (by kernel_rfl) ?_
              simp only [segOf, pickOps, pickOp]
              go_wp2_with fail
              refine MixPost.normal trivial ?_
              refine mix_seg [12] (by kernel_rfl) trivial ?_
              simp only [segOf, pickOps, pickOp]
              repeat (go_big_quiet_step (fail))
              refine wpQuiet_nil ?_
              refine mix_run 13 (by kernel_rfl) ?_
              simp only [segOf, pickOps, pickOp]
              go_wp2_with fail
              refine MixPost.normal trivial ?_
              refine mix_seg [14] (by kernel_rfl) trivial ?_
              simp only [segOf, pickOps, pickOp]
              repeat (go_big_quiet_step (fail))
              refine wpQuiet_nil ?_
              refine mix_run 15 (by kernel_rfl) ?_
              simp only [segOf, pickOps, pickOp]
              go_wp2_with fail
              refine MixPost.normal trivial ?_
              refine mix_done (by kernel_rfl) ?_
              go_wp2_with fail
              go_roundw
              case rel =>
                have hi2 : (m - 1) / 2 = k ∧ 0 < m ∧ bef (nth dl m) (nth dl k) = true := by
                  rcases HS.out.is with h | h
                  · omega
                  · exact h
                refine ⟨m, swp dl k m, hm, rfl, (swp_perm (by have := HL.out; omega) (by have := HL.out; omega)).trans HP.out, HA.out.step (by have := HL.out; omega) hi2.2.1 hi2.1 hi2.2.2 HM.out, ?_, ?_⟩
                · exact HV.out.swap HL.out HAA.out HBB.out
                · exact HU.out.swap (by simp) k m a1 a2 a3 b1 b2 b3
              case measure => simp [intOf]; omega
            · simp only [segOf, pickOps, pickOp]
              go_wp2_with fail
              refine MixPost.normal trivial ?_
              refine mix_run 7 (by kernel_rfl) ?_
              simp only [segOf, pickOps, pickOp]
              go_wp2_with fail
              refine MixPost.normal trivial ?_
              refine mix_seg [12] (by kernel_rfl) trivial ?_
              simp only [segOf, pickOps, pickOp]
              repeat (go_big_quiet_step (fail))
              refine wpQuiet_nil ?_
              refine mix_run 13 (by kernel_rfl) ?_
              simp only [segOf, pickOps, pickOp]
              go_wp2_with fail
              refine MixPost.normal trivial ?_
              refine mix_seg [14] (by kernel_rfl) trivial ?_
              simp only [segOf, pickOps, pickOp]
              repeat (go_big_quiet_step (fail))
              refine wpQuiet_nil ?_
              refine mix_run 15 (by kernel_rfl) ?_
              simp only [segOf, pickOps, pickOp]
              go_wp2_with fail
              refine MixPost.normal trivial ?_
              refine mix_done (by kernel_rfl) ?_
              go_wp2_with fail
              go_roundw
              case rel =>
                have hi2 : (m - 1) / 2 = k ∧ 0 < m ∧ bef (nth dl m) (nth dl k) = true := by
                  rcases HS.out.is with h | h
                  · omega
                  · exact h
                refine ⟨m, swp dl k m, hm, rfl, (swp_perm (by have := HL.out; omega) (by have := HL.out; omega)).trans HP.out, HA.out.step (by have := HL.out; omega) hi2.2.1 hi2.1 hi2.2.2 HM.out, ?_, ?_⟩
                · exact HV.out.swap HL.out HAA.out HBB.out
                · exact HU.out.swap (by simp) k m a1 a2 a3 b1 b2 b3
              case measure => simp [intOf]; omega
end Go.Proofs.Ytbpdemgbljbhcaa
