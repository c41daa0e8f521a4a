/-
  The contracts of the document's own Arm and first over this seat's program. Conditions: at most 500 timers are armed.
-/
import Derived.Test.YtbpdemgbljbhcaaWRef
namespace Go.Proofs.Ytbpdemgbljbhcaa
open Go.RowKit

set_option maxHeartbeats 800000 in
/-- Arm: full -/
theorem rArm_full (gr : Nat) (most last : Int) (v : Value) (s : List Al) (at_ tag : Int) (w : World) (h : RAt w gr most last v s) (hm : most ≤ (s.length : Int)) :
    Calls Try.prog 13 #[.pointer (some ⟨gr, 0, none⟩), .int .u64 at_, .int .i64 tag] w fun e w' => e = .returned (.tuple #[.int .i64 0, .int .i64 10]) ∧ RAt w' gr most last v s ∧ Only [] w w' := by
  obtain ⟨A, cap, hv, hlc, hcm⟩ := h.row.slice
  have hc2 := h.head.c2
  have hc0 := h.head.c0
  rw [hv] at hc2
  have HW := Lib.hid h
  unfold maxLen at hcm
  clear h hv
  go_enter Try.func13, Try.ntmps13
  go_wp2_with fail
  go_quiet (fail)
  go_wp2
  go_ret2
  exact ⟨rfl, HW.out.old ((Only.refl _ _).drewN _), (Only.refl _ _).drewN _⟩
set_option maxHeartbeats 1200000 in
/-- Arm: there is room -/
theorem rArm_room (gr : Nat) (most last : Int) (v : Value) (s : List Al) (at_ tag : Int) (w : World) (h : RAt w gr most last v s) (hm : (s.length : Int) < most) (hmm : most ≤ 256) (hn : 0 ≤ last) (hn2 : last ≤ 100000) :
    Calls Try.prog 13 #[.pointer (some ⟨gr, 0, none⟩), .int .u64 at_, .int .i64 tag] w fun e w' => e = .returned (.tuple #[.int .i64 (last + 1), .int .i64 0]) ∧
      ∃ v', RAt w' gr most (last + 1) v' (s ++ [(at_, last + 1, tag)]) ∧ Only (gr :: ownL v) w w' ∧ ∀ g ∈ ownL v', g ∈ ownL v ∨ w.heap.size ≤ g := by
  obtain ⟨i0, hi, hz0, hz1, hz2⟩ := info_partsA infoX
  obtain ⟨A, cap, hv, hlc, hcm⟩ := h.row.slice
  have hc2 := h.head.c2
  have hc1 := h.head.c1
  have hc0 := h.head.c0
  have hz1' := h.head.z1
  rw [hv] at hc2
  have HW := Lib.hid h
  have HV := Lib.hid hv
  have HL : Hid (s.length ≤ 500) := by show _ ≤ _; omega
  unfold maxLen at hcm
  clear h hv
  go_enter Try.func13, Try.ntmps13
  go_wp2_with fail
  have hmf : decide (most ≤ (s.length : Int)) = false := decide_eq_false (by omega)
  go_quiet (fail)
  clear hmf
  go_wp2_with fail
  obtain ⟨W2, hW2⟩ : ∃ W2, W2 = (w.drewN nq).setCell ⟨gr, 1, none⟩ (.int .i64 (last + 1)) := ⟨_, rfl⟩
  have HW2 : Hid (RAt W2 gr most (last + 1) v s) := by
    show RAt _ _ _ _ _ _
    rw [hW2]
    have h1 := HW.out.old ((Only.refl [] w).drewN nq)
    exact ⟨h1.head.set1 _, h1.row.setBelow _ _⟩
  have HO2 : Hid (Only (gr :: ownL v) w W2) := by show Only _ _ _; rw [hW2]; exact ((Only.refl _ _).drewN _).setCell (p := ⟨gr, 1, none⟩) (by simp) _
  rw [← hW2]
  clear hW2 hc2 hc1 hc0 hz1'
  have hd2 := HW2.out.head.c2
  rw [HV.out] at hd2
  have hd1 := HW2.out.head.c1
  have HF2 : Hid (W2.cell? ⟨gr, 1, none⟩ = some (.int .i64 (last + 1))) := hd1
  refine mix_start (fun W => W.cell? ⟨gr, 1, none⟩ = some (.int .i64 (last + 1))) (by kernel_rfl) ?_
  have hne : Nonempty (Held (fun W => W.cell? ⟨gr, 1, none⟩ = some (.int .i64 (last + 1)))) := ⟨⟨W2, hd1⟩⟩
  have hx1 : ∀ p : Held (fun W => W.cell? ⟨gr, 1, none⟩ = some (.int .i64 (last + 1))), p.w.cell? ⟨gr, 1, none⟩ = some (.int .i64 (last + 1)) := fun p => p.h
  refine mix_seg [0, 1, 2, 3, 5, 6, 7, 8, 9, 10, 11] (by kernel_rfl) HF2.out ?_
  simp only [segOf, pickOps, pickOp]
  repeat (go_big_quiet_step (fail))
  refine wpQuiet_nil ?_
  clear hx1
  obtain ⟨W3, hW3⟩ : ∃ W3, W3 = (W2.alloc (.cells #[.int .i64 (last + 1), .int .i64 tag, .int .u64 at_] 68)).drew := ⟨_, rfl⟩
  have HO3 : Hid (Only [] W2 W3) := by show Only _ _ _; rw [hW3]; exact ((Only.refl _ _).alloc _).drew
  have HNC : Hid (∀ j u, [Value.int .i64 (last + 1), .int .i64 tag, .int .u64 at_][j]? = some u → W3.cell? ((⟨W2.heap.size, 0, none⟩ : Addr).add j) = some u) := by show ∀ j u, _; rw [hW3]; exact newCells
  have HW3 := Lib.hid (HW2.out.old HO3.out)
  have HSV : Hid (XRow W3 (gr + 1) (.slice A s.length cap) s) := by
    have h1 := HW3.out.row
    rw [HV.out] at h1
    exact h1
  have HF3 : Hid (W3.cell? ⟨gr, 1, none⟩ = some (.int .i64 (last + 1))) := HW3.out.head.c1
  have hd3 := HW3.out.head.c2
  rw [HV.out] at hd3
  refine mix_several [4, 12] (by kernel_rfl) ?_
  intro i hi'
  simp only [List.mem_cons, List.not_mem_nil, or_false] at hi'
  rcases hi' with rfl | rfl
  case' inl =>
    simp only [segOf, pickOps, pickOp]
    go_wp2_with fail
    refine MixPost.normal HF2.out ?_
    refine mix_run 12 (by kernel_rfl) ?_
    simp only [segOf, pickOps, pickOp]
    go_wp2_with fail
    rw [← hW3]
    refine MixPost.normal HF3.out ?_
  case' inr =>
    simp only [segOf, pickOps, pickOp]
    go_wp2_with fail
    rw [← hW3]
    refine MixPost.normal HF3.out ?_
    refine mix_run 4 (by kernel_rfl) ?_
    simp only [segOf, pickOps, pickOp]
    clear hW3
    go_wp2_with fail
    refine MixPost.normal HF3.out ?_
  all_goals
    clear hd2 hd1 hd3
    refine mix_run 13 (by kernel_rfl) ?_
    simp only [segOf, pickOps, pickOp]
    refine wpList_append_lies W3 rfl (.tmp 29) (.tmp 37) 41 rfl (gr + 1) 68 i0 (.agg #[.int .i64 0, .int .i64 0, .int .u64 0]) 3 24 Try.underlying41 hi hz0 hz1 hz2 rfl (by decide) (.slice A s.length cap) _ _ rfl HSV.out ⟨W2.heap.size, 0, none⟩ 1 1 [.int .i64 (last + 1), .int .i64 tag, .int .u64 at_] rfl rfl HNC.out ?_ (by decide) (by have := HL.out; unfold maxLen; omega) (by have := HL.out; omega) ?_ W3.heap.size rfl ?_
    · intro u hu; simp at hu; rcases hu with rfl | rfl | rfl <;> rfl
    · have := HW3.out.head.lt; omega
    intro g cap2 w4 hown hgrow hat hlt
    rw [← HV.out] at hgrow hat
    have HO4 : Hid (Only (ownL v) W3 w4) := Only.of_grown_own hgrow (fun g hg => mem_ownL.2 hg)
    have HR4 : Hid (XRow w4 (gr + 1) (.slice (some ⟨g, 0, none⟩) (s.length + 1) cap2) (s ++ [(at_, last + 1, tag)])) := XRow.pushed rfl hown
    have HH4 := Lib.hid (HW3.out.head.only HO4.out (fun hm => by have := (HW3.out.own hm).1; omega))
    have HAT : Hid (g ∈ ownL v ∨ w.heap.size ≤ g) := by
      show _ ∨ _
      rcases hat with h | h
      · exact .inl (mem_ownL.2 h)
      · have h1 := HO2.out.size; have h2 := HO3.out.size; exact .inr (by omega)
    have HOB : Hid (Only (gr :: ownL v) w w4) := ((HO2.out.trans (HO3.out.mono (by simp))).trans (HO4.out.mono (fun x hx => List.mem_cons_of_mem _ hx)))
    clear hown hgrow hat hlt
    obtain ⟨W5, hW5⟩ : ∃ W5, W5 = w4.setCell ⟨gr, 2, none⟩ (.slice (some ⟨g, 0, none⟩) (s.length + 1) cap2) := ⟨_, rfl⟩
    have HW5 : Hid (RAt W5 gr most (last + 1) (.slice (some ⟨g, 0, none⟩) (s.length + 1) cap2) (s ++ [(at_, last + 1, tag)])) := by
      show RAt _ _ _ _ _ _
      rw [hW5]
      exact ⟨HH4.out.set2 _, HR4.out.setBelow _ _⟩
    have HO5 : Hid (Only (gr :: ownL v) w W5) := by show Only _ _ _; rw [hW5]; exact HOB.out.setCell (p := ⟨gr, 2, none⟩) (by simp) _
    have hc2 : w4.cell? ⟨gr, 2, none⟩ = some (.slice A s.length cap) := by have h1 := HH4.out.c2; rw [HV.out] at h1; exact h1
    have hz2' := HH4.out.z2
    have HF4 : Hid (w4.cell? ⟨gr, 1, none⟩ = some (.int .i64 (last + 1))) := HH4.out.c1
    go_wp2_with fail
    refine MixPost.normal HF4.out ?_
    refine mix_seg [14, 15] (by kernel_rfl) HF4.out ?_
    simp only [segOf, pickOps, pickOp]
    repeat (go_big_quiet_step (fail))
    refine wpQuiet_nil ?_
    refine mix_run 16 (by kernel_rfl) ?_
    simp only [segOf, pickOps, pickOp]
    go_wp2_with fail
    rw [← hW5]
    clear hW5 hc2 hz2'
    refine MixPost.normal HW5.out.head.c1 ?_
    refine mix_done (by kernel_rfl) ?_
    have hc1 := HW5.out.head.c1
    go_wp2
    go_ret2
    refine ⟨rfl, _, HW5.out, HO5.out, ?_⟩
    intro x hx
    have := mem_ownL.1 hx
    simp [Value.ownBlock] at this
    subst this
    exact HAT.out
end Go.Proofs.Ytbpdemgbljbhcaa
