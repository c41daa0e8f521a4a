/-
  The contract of origin's Show, over this seat's program: it returns what the plain mathematics says, and nothing that was there has turned. Conditions: as Key's.
-/
import Derived.Test.YtfamllkmmiajoaaDoorGKey
namespace Go.Proofs.YtfamllkmmiajoaaDoor
open Go.RowKit

theorem show_key {sc h : List UInt8} {p : Int} (hn : checkL sc h p = false ∨ p ≠ defL sc) : showL sc h p = keyL sc h p := by
  rw [showL, keyL]
  cases hc : checkL sc h p
  · rfl
  · rcases hn with hn | hn
    · rw [hc] at hn; cases hn
    · rw [if_pos rfl, if_pos rfl, if_neg hn]
theorem show_bare {sc h : List UInt8} {p : Int} (hc : checkL sc h p = true) (hn : p = defL sc) : showL sc h p = sc ++ [58, 47, 47] ++ h := by
  rw [showL, if_pos hc, if_pos hn]

set_option maxHeartbeats 2000000 in
theorem Show_any (s h : ByteArray) (p : Int) (w : World) (hh : h.size ≤ maxLen) (he : Env w) :
    Calls Tryd.prog 45 #[.agg #[.string s, .string h, .int .i64 p]] w fun e w' => e = .returned (.string (mk (showL s.data.toList h.data.toList p))) ∧ Below w.heap.size w w' := by
  have hb : Below w.heap.size w (w.alloc (.cells #[.string s, .string h, .int .i64 p] 25)) := (Below.refl _ _).alloc (Nat.le_refl _) _
  have ho := OrgAt.new w s h p 25
  have HB := Lib.hid hb
  clear hb
  have HE := Lib.hid he
  clear he
  obtain ⟨d, hd⟩ : ∃ d, d = defL s.data.toList := ⟨_, rfl⟩
  have HD := Lib.hid hd
  clear hd
  go_enter Tryd.func45, Tryd.ntmps45
  go_wp2_with fail
  refine mix_start (fun W => OrgAt W w.heap.size s h p) (by kernel_rfl) ?_
  have hne : Nonempty (Held (fun W => OrgAt W w.heap.size s h p)) := ⟨⟨_, ho⟩⟩
  have hx0 : ∀ q : Held (fun W => OrgAt W w.heap.size s h p), q.w.cell? ⟨w.heap.size, 0, none⟩ = some (.string s) := fun q => q.h.c0
  have hx1 : ∀ q : Held (fun W => OrgAt W w.heap.size s h p), q.w.cell? ⟨w.heap.size, 1, none⟩ = some (.string h) := fun q => q.h.c1
  have hx2 : ∀ q : Held (fun W => OrgAt W w.heap.size s h p), q.w.cell? ⟨w.heap.size, 2, none⟩ = some (.int .i64 p) := fun q => q.h.c2
  refine mix_seg [0] (by kernel_rfl) ho.drew ?_
  simp only [segOf, pickOps, pickOp]
  repeat (go_big_quiet_step (fail))
  refine wpQuiet_nil ?_
  refine mix_run 1 (by kernel_rfl) ?_
  simp only [segOf, pickOps, pickOp]
  go_wp2_with fail
  refine (Check_any _ _ _ _ hh).mono ?_
  rintro e w1 ⟨rfl, hb2⟩
  have ho1 : OrgAt w1 w.heap.size s h p := ho.drew.below hb2 (by simp)
  have HB2 : Hid (Below w.heap.size w w1) := HB.out.drew.trans (hb2.mono HB.out.size)
  clear hb2
  have HE1 : Hid (Env w1) := HE.out.below HB2.out
  cases hc : checkL s.data.toList h.data.toList p
  · have HC := Lib.hid hc
    clear hc
    go_wp2_with fail
    refine MixPost.normal ho1 ?_
    refine mix_seg [2, 3, 4, 5, 6] (by kernel_rfl) ho1 ?_
    simp only [segOf, pickOps, pickOp]
    repeat (go_big_quiet_step (fail))
    refine wpQuiet_nil ?_
    refine mix_run 7 (by kernel_rfl) ?_
    simp only [segOf, pickOps, pickOp]
    go_wp2_with fail
    refine MixPost.normal ho1 ?_
    refine mix_seg [8, 9] (by kernel_rfl) ho1 ?_
    simp only [segOf, pickOps, pickOp]
    repeat (go_big_quiet_step (fail))
    refine wpQuiet_nil ?_
    refine mix_done (by kernel_rfl) ?_
    have hc0 := ho1.c0
    have hc1 := ho1.c1
    have hc2 := ho1.c2
    go_wp2_with fail
    refine (Key_any _ _ _ _ hh HE1.out).mono ?_
    rintro e w2 ⟨rfl, hb3⟩
    go_wp2
    go_ret
    exact ⟨ret_string (by rw [show_key (.inl HC.out)]), HB2.out.trans (hb3.mono HB2.out.size)⟩
  · have HC := Lib.hid hc
    obtain ⟨hz1, hz2⟩ := check_sizes hc
    clear hc
    go_wp2_with fail
    refine MixPost.normal ho1 ?_
    refine mix_seg [2, 3, 4, 5, 6] (by kernel_rfl) ho1 ?_
    simp only [segOf, pickOps, pickOp]
    repeat (go_big_quiet_step (fail))
    refine wpQuiet_nil ?_
    refine mix_run 7 (by kernel_rfl) ?_
    simp only [segOf, pickOps, pickOp]
    go_wp2_with fail
    refine (Default_any _ _).mono ?_
    rintro e w' ⟨rfl, rfl⟩
    rw [← HD.out]
    go_wp2_with fail
    refine MixPost.normal ho1 ?_
    by_cases hpd : p = d
    · have hq : (p == d) = true := by rw [beq_iff_eq]; exact hpd
      have HPD := Lib.hid hpd
      clear hpd
      refine mix_seg [8, 9] (by kernel_rfl) ho1 ?_
      simp only [segOf, pickOps, pickOp]
      repeat (go_big_quiet_step (fail))
      refine wpQuiet_nil ?_
      refine mix_done (by kernel_rfl) ?_
      have hc0 := ho1.c0
      have hc1 := ho1.c1
      go_wp2
      go_ret
      exact ⟨ret_string (by rw [bare_mk, show_bare HC.out (HPD.out.trans HD.out)]), HB2.out⟩
    · have hq : (p == d) = false := by rw [beq_eq_false_iff_ne]; exact hpd
      have HPD := Lib.hid hpd
      clear hpd
      refine mix_seg [8, 9] (by kernel_rfl) ho1 ?_
      simp only [segOf, pickOps, pickOp]
      repeat (go_big_quiet_step (fail))
      refine wpQuiet_nil ?_
      refine mix_done (by kernel_rfl) ?_
      have hc0 := ho1.c0
      have hc1 := ho1.c1
      have hc2 := ho1.c2
      go_wp2_with fail
      refine (Key_any _ _ _ _ hh HE1.out).mono ?_
      rintro e w2 ⟨rfl, hb3⟩
      go_wp2
      go_ret
      exact ⟨ret_string (by rw [show_key (.inr (fun h => HPD.out (h.trans HD.out.symm)))]), HB2.out.trans (hb3.mono HB2.out.size)⟩
end Go.Proofs.YtfamllkmmiajoaaDoor
