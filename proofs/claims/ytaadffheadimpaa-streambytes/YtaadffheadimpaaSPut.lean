/-
  The contract of Stream.Chunk over this seat's program. Conditions: the bytes lie where the slice says, in no block of the stream's.
-/
import Derived.Test.YtaadffheadimpaaSAsk
namespace Go.Proofs.Ytaadffheadimpaa
open Go.RowKit

set_option maxHeartbeats 1600000 in
theorem strChunk_any (g gr gd H L : Nat) (s : Sv) (A : Option Addr) (bl cap : Nat) (b : List UInt8) (w : World) (hw : StAt w g gr gd H L s) (hbl : bl = b.length) (hb : BArg w [g, gr, gd] A b) (hcap : b.length ≤ cap) (hcm : cap ≤ maxLen) :
    Calls Try.prog 11 #[.pointer (some ⟨g, 0, none⟩), .slice A bl cap] w fun e w' => e = .returned (.int .i64 (chunkC s b : Int)) ∧ StAt w' g gr gd H L (chunkS H s b) ∧ Only [g, gr, gd] w w' := by
  have HW := Lib.hid hw
  have HOK := Lib.hid (hw.ok.chunk b)
  have d2 := hw.i.c2
  have d3 := hw.i.c3
  have HB := Lib.hid hb
  have HC := Lib.hid hcap
  have HCM := Lib.hid hcm
  have HBL := Lib.hid hbl
  have hq := roomed_free hw.ok (b := b)
  have HT := Lib.hid hw.ok.st
  obtain ⟨code, hcode⟩ : ∃ code, code = chunkC s b := ⟨_, rfl⟩
  rw [← hcode] at hq ⊢
  have HCE := Lib.hid hcode
  unfold chunkC at hcode
  rw [← hbl] at hcode
  unfold chunkS at HOK ⊢
  rw [← HCE.out] at HOK ⊢
  clear hw hb hcap hcm hbl
  obtain ⟨st, p, l⟩ := s
  simp only at d2 d3 hcode hq HT
  by_cases h1 : st = 1
  case neg =>
    rw [if_pos h1] at hcode
    subst hcode
    have h2 : (((st : Nat) : Int) != 1) = true := by simp; omega
    clear h1 hq
    go_enter Try.func11, Try.ntmps11
    go_wp2_with fail
    go_ret
    exact ⟨rfl, HW.out, Only.refl _ _⟩
  subst h1
  rw [if_neg (by simp)] at hcode
  by_cases h2 : bl < 1 ∨ 64 < bl
  · rw [if_pos h2] at hcode
    subst hcode
    clear hq
    rcases h2 with h2 | h2
    · have h3 : (bl : Int) < 1 := by omega
      clear h2
      go_enter Try.func11, Try.ntmps11
      go_wp2_with fail
      go_ret
      exact ⟨rfl, HW.out, Only.refl _ _⟩
    · have h3 : ¬ (bl : Int) < 1 := by omega
      have h4 : (64 : Int) < (bl : Int) := by omega
      clear h2
      go_enter Try.func11, Try.ntmps11
      go_wp2_with fail
      go_ret
      exact ⟨rfl, HW.out, Only.refl _ _⟩
  rw [if_neg h2] at hcode
  have h3 : ¬ (bl : Int) < 1 := by omega
  have h4 : ¬ (64 : Int) < (bl : Int) := by omega
  clear h2
  cases p
  case true =>
    rw [if_pos rfl] at hcode
    subst hcode
    clear hq
    go_enter Try.func11, Try.ntmps11
    go_wp2_with fail
    go_ret
    exact ⟨rfl, HW.out, Only.refl _ _⟩
  case false =>
    rw [if_neg (by simp)] at hcode
    subst hcode
    have HQ := Lib.hid (hq rfl)
    clear hq
    rw [if_pos rfl] at HOK ⊢
    have d4 := HW.out.i.c4
    go_enter Try.func11, Try.ntmps11
    go_wp2_with fail
    clear h3 h4
    refine (ringPut_any gr gd (H + 63) l A bl cap b w HW.out.r HBL.out (HB.out.mono (by simp)) HC.out HCM.out).mono ?_
    rintro e w1 ⟨rfl, hr1, ho1⟩
    rw [HQ.out, List.take_length] at hr1
    have HR1 := Lib.hid hr1
    have HO1 := Lib.hid ho1
    have HI1 := Lib.hid (HW.out.i.only ho1 (by have h1 := HW.out.n1; have h2 := HW.out.n2; simp; omega))
    clear hr1 ho1 d2 d3 d4
    obtain ⟨c, hc⟩ : ∃ c, c = (l ++ b).length := ⟨_, rfl⟩
    have HCL := Lib.hid hc
    clear hc
    obtain ⟨F, hF⟩ : ∃ F : World → Prop, ∀ W, F W ↔ (W.cell? ⟨g, 0, none⟩ = some (.int .i64 (H : Int)) ∧ W.cell? ⟨g, 4, none⟩ = some (.pointer (some ⟨gr, 0, none⟩))) := ⟨_, fun _ => Iff.rfl⟩
    have HI2 := Lib.hid (HI1.out.only ((Only.refl [] w1).drew) (by simp))
    have HF : Hid (F w1.drew) := (hF _).2 ⟨HI2.out.c0, HI2.out.c4⟩
    have hx0 : ∀ p : Held F, p.w.cell? ⟨g, 0, none⟩ = some (.int .i64 (H : Int)) := fun p => ((hF _).1 p.h).1
    have hx4 : ∀ p : Held F, p.w.cell? ⟨g, 4, none⟩ = some (.pointer (some ⟨gr, 0, none⟩)) := fun p => ((hF _).1 p.h).2
    have HFE := Lib.hid hF
    clear hF
    go_wp2_with fail
    refine mix_start F (by kernel_rfl) ?_
    have hne : Nonempty (Held F) := ⟨⟨w1.drew, HF.out⟩⟩
    refine mix_seg [0, 1, 2, 3, 4, 6, 7, 8, 9] (by kernel_rfl) HF.out ?_
    simp only [segOf, pickOps, pickOp]
    repeat (go_big_quiet_step (fail))
    refine wpQuiet_nil ?_
    refine mix_run 5 (by kernel_rfl) ?_
    simp only [segOf, pickOps, pickOp]
    go_wp2_with fail
    refine (ringLen_any gr gd (H + 63) (l ++ b) w1.drew (HR1.out.old ((Only.refl [] w1).drew))).mono ?_
    rintro e w2 ⟨rfl, rfl⟩
    rw [← HCL.out]
    go_wp2_with fail
    refine MixPost.normal HF.out ?_
    refine mix_seg [10, 11, 12] (by kernel_rfl) HF.out ?_
    simp only [segOf, pickOps, pickOp]
    repeat (go_big_quiet_step (fail))
    refine wpQuiet_nil ?_
    refine mix_run 13 (by kernel_rfl) ?_
    simp only [segOf, pickOps, pickOp]
    have d3 := HI2.out.c3
    have z3 := HI2.out.z3
    clear hx0 hx4 hne
    obtain ⟨W2, hW2⟩ : ∃ W2, W2 = (w1.setCell ⟨g, 3, none⟩ (.bool (decide (H ≤ c)))).drew := ⟨_, rfl⟩
    have HI3 : Hid (StIn W2 g gr H L 1 (decide (H ≤ c)) (doneN 1) 0) := by show StIn _ _ _ _ _ _ _ _ _; rw [hW2]; exact (HI1.out.set3 _).only ((Only.refl [] _).drew) (by simp)
    have HF3 : Hid (F W2) := (HFE.out _).2 ⟨HI3.out.c0, HI3.out.c4⟩
    have HO3 : Hid (Only [g] w1 W2) := by show Only _ _ _; rw [hW2]; exact ((Only.refl _ _).setCell (p := ⟨g, 3, none⟩) (by simp) _).drew
    go_wp2_with fail
    rw [← hW2]
    clear hW2 d3 z3
    refine MixPost.normal HF3.out ?_
    refine mix_done (by kernel_rfl) ?_
    clear HF HF3 HFE
    go_wp2_with fail
    go_ret
    refine ⟨rfl, ⟨?_, HR1.out.only HO3.out (by have := HW.out.n1; simpa using this.symm) (by have := HW.out.n2; simpa using this.symm), HW.out.n1, HW.out.n2, HOK.out⟩, (HO1.out.mono (by simp)).trans (HO3.out.mono (by simp))⟩
    show StIn W2 g gr H L 1 (decide (H ≤ (l ++ b).length)) (doneN 1) 0
    rw [← HCL.out]
    exact HI3.out
end Go.Proofs.Ytaadffheadimpaa
