/-
  The contract of Stream.Read over this seat's program. Conditions: those of each statement.
-/
import Derived.Test.YtaadffheadimpaaSAsk
namespace Go.Proofs.Ytaadffheadimpaa
open Go.RowKit

set_option maxHeartbeats 1600000 in
theorem strRead_any (g gr gd H L : Nat) (s : Sv) (n : Int) (w : World) (hw : StAt w g gr gd H L s) :
    Calls Try.prog 13 #[.pointer (some ⟨g, 0, none⟩), .int .i64 n] w fun e w' => ∃ v, e = .returned v ∧ KeptAt w' w.heap.size v (s.l.take (upto n s.l)) ∧ StAt w' g gr gd H L (readS L s n) ∧ Only [g, gr] w w' := by
  have HW := Lib.hid hw
  have HOK := Lib.hid (hw.ok.read n)
  have d4 := hw.i.c4
  clear hw
  obtain ⟨st, p, l⟩ := s
  unfold readS at *
  simp only at HOK ⊢
  obtain ⟨X, hX⟩ : ∃ X, X = l.take (upto n l) := ⟨_, rfl⟩
  obtain ⟨Y, hY⟩ : ∃ Y, Y = l.drop (upto n l) := ⟨_, rfl⟩
  rw [← hY] at HOK ⊢
  rw [← hX]
  have HXE := Lib.hid hX
  have HYE := Lib.hid hY
  clear hX hY
  obtain ⟨c, hc⟩ : ∃ c, c = Y.length := ⟨_, rfl⟩
  have HCL := Lib.hid hc
  rw [← hc] at HOK ⊢
  clear hc
  obtain ⟨q, hq⟩ : ∃ q, q = if c ≤ L then false else p := ⟨_, rfl⟩
  have HQ := Lib.hid hq
  rw [← hq] at HOK ⊢
  clear hq
  go_enter Try.func13, Try.ntmps13
  go_wp2_with fail
  refine (ringTake_any gr gd (H + 63) l n w HW.out.r).mono ?_
  rintro e w1 ⟨v, rfl, hk1, hr1, ho1⟩
  rw [← HXE.out] at hk1
  rw [← HYE.out] at hr1
  have HK1 := Lib.hid hk1
  have HR1 := Lib.hid hr1
  have HO1 := Lib.hid ho1
  have HI1 := Lib.hid (HW.out.i.only ho1 (by simpa using HW.out.n1))
  have HLT := Lib.hid HW.out.lt
  obtain ⟨A, cap, hv, _, _⟩ := hk1.slice
  subst hv
  clear hk1 hr1 ho1 d4
  have HI2 := Lib.hid (HI1.out.only ((Only.refl [] w1).drew) (by simp))
  obtain ⟨F, hF⟩ : ∃ F : World → Prop, ∀ W, F W ↔ StIn W g gr H L st p (doneN st) 0 := ⟨_, fun _ => Iff.rfl⟩
  have HF : Hid (F w1.drew) := (hF _).2 HI2.out
  have hx1 : ∀ p : Held F, p.w.cell? ⟨g, 1, none⟩ = some (.int .i64 (L : Int)) := fun p => ((hF _).1 p.h).c1
  have hx4 : ∀ p : Held F, p.w.cell? ⟨g, 4, none⟩ = some (.pointer (some ⟨gr, 0, none⟩)) := fun p => ((hF _).1 p.h).c4
  clear hF
  obtain ⟨xl, hxl⟩ : ∃ xl, xl = X.length := ⟨_, rfl⟩
  rw [← hxl]
  have HXL := Lib.hid hxl
  clear hxl
  go_wp2_with fail
  refine mix_start F (by kernel_rfl) ?_
  have hne : Nonempty (Held F) := ⟨⟨w1.drew, HF.out⟩⟩
  refine mix_seg [0, 1, 2, 3, 5, 6, 7, 8] (by kernel_rfl) HF.out ?_
  simp only [segOf, pickOps, pickOp]
  repeat (go_big_quiet_step (fail))
  refine wpQuiet_nil ?_
  refine mix_run 4 (by kernel_rfl) ?_
  simp only [segOf, pickOps, pickOp]
  go_wp2_with fail
  refine (ringLen_any gr gd (H + 63) Y w1.drew (HR1.out.old ((Only.refl [] w1).drew))).mono ?_
  rintro e w2 ⟨rfl, rfl⟩
  rw [← HCL.out]
  go_wp2_with fail
  refine MixPost.normal HF.out ?_
  refine mix_seg [9] (by kernel_rfl) HF.out ?_
  simp only [segOf, pickOps, pickOp]
  repeat (go_big_quiet_step (fail))
  refine wpQuiet_nil ?_
  refine mix_done (by kernel_rfl) ?_
  clear hx1 hx4 hne HF F
  have d3 := HI1.out.c3
  have z3 := HI1.out.z3
  obtain ⟨W2, hW2⟩ : ∃ W2, W2 = (w1.setCell ⟨g, 3, none⟩ (.bool false)).drew := ⟨_, rfl⟩
  have HI3 : Hid (StIn W2 g gr H L st false (doneN st) 0) := by show StIn _ _ _ _ _ _ _ _ _; rw [hW2]; exact (HI1.out.set3 _).only ((Only.refl [] _).drew) (by simp)
  have HO3 : Hid (Only [g] w1 W2) := by show Only _ _ _; rw [hW2]; exact ((Only.refl _ _).setCell (p := ⟨g, 3, none⟩) (by simp) _).drew
  by_cases hle : c ≤ L
  · have hqe := HQ.out
    rw [if_pos hle] at hqe
    subst hqe
    go_wp2_with fail
    rw [← hW2]
    clear hW2 d3 z3
    rw [HXL.out]
    go_ret
    refine ⟨_, rfl, HK1.out.only HO3.out (fun x hx => ?_), ⟨HI3.out, HR1.out.only HO3.out (by have := HW.out.n1; simpa using this.symm) (by have := HW.out.n2; simpa using this.symm), HW.out.n1, HW.out.n2, HOK.out⟩, (HO1.out.mono (by simp)).trans (HO3.out.mono (by simp))⟩
    have h1 := (HK1.out.own hx).1
    have h2 := HLT.out.1
    simp
    omega
  · have hqe := HQ.out
    rw [if_neg hle] at hqe
    subst hqe
    clear hW2 d3 z3
    go_wp2_with fail
    rw [HXL.out]
    go_ret
    exact ⟨_, rfl, HK1.out.old ((Only.refl [] _).drew), ⟨HI2.out, HR1.out.old ((Only.refl [] _).drew), HW.out.n1, HW.out.n2, HOK.out⟩, (HO1.out.mono (by simp)).drew⟩
end Go.Proofs.Ytaadffheadimpaa
