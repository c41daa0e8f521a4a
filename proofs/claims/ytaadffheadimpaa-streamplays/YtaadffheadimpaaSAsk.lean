/-
  The contracts of Stream.State, Len, Paused, Over, End over this seat's program. Conditions: those of each statement.
-/
import Derived.Test.YtaadffheadimpaaSNew
namespace Go.Proofs.Ytaadffheadimpaa
open Go.RowKit

set_option maxHeartbeats 400000 in
theorem strState_any (g gr gd H L : Nat) (s : Sv) (w : World) (hw : StAt w g gr gd H L s) :
    Calls Try.prog 19 #[.pointer (some ⟨g, 0, none⟩)] w fun e w' => e = .returned (.int .i64 (s.st : Int)) ∧ w = w' := by
  have d2 := hw.i.c2
  clear hw
  generalize s.st = st at *
  go_enter Try.func19, Try.ntmps19
  go_wp2
  go_ret
  exact ⟨rfl, rfl⟩

set_option maxHeartbeats 400000 in
theorem strPaused_any (g gr gd H L : Nat) (s : Sv) (w : World) (hw : StAt w g gr gd H L s) :
    Calls Try.prog 21 #[.pointer (some ⟨g, 0, none⟩)] w fun e w' => e = .returned (.bool s.p) ∧ w = w' := by
  have d3 := hw.i.c3
  clear hw
  generalize s.p = p at *
  go_enter Try.func21, Try.ntmps21
  go_wp2
  go_ret
  exact ⟨rfl, rfl⟩

set_option maxHeartbeats 400000 in
theorem strLen_any (g gr gd H L : Nat) (s : Sv) (w : World) (hw : StAt w g gr gd H L s) :
    Calls Try.prog 20 #[.pointer (some ⟨g, 0, none⟩)] w fun e w' => e = .returned (.int .i64 (s.l.length : Int)) ∧ w = w' := by
  have d4 := hw.i.c4
  have HQ := Lib.hid (ringLen_any gr gd (H + 63) s.l w hw.r)
  clear hw
  generalize s.l.length = c at *
  go_enter Try.func20, Try.ntmps20
  go_wp2_with fail
  refine HQ.out.mono ?_
  rintro e w' ⟨rfl, rfl⟩
  go_wp2
  go_ret
  exact ⟨rfl, rfl⟩

set_option maxHeartbeats 400000 in
theorem strOver_any (g gr gd H L : Nat) (s : Sv) (w : World) (hw : StAt w g gr gd H L s) :
    Calls Try.prog 22 #[.pointer (some ⟨g, 0, none⟩)] w fun e w' => e = .returned (.bool (overC s)) ∧ w = w' := by
  have d2 := hw.i.c2
  have d4 := hw.i.c4
  have HQ := Lib.hid (ringLen_any gr gd (H + 63) s.l w hw.r)
  have hs := hw.ok.st
  clear hw
  obtain ⟨o, ho⟩ : ∃ o, o = overC s := ⟨_, rfl⟩
  rw [← ho]
  unfold overC at ho
  rcases hs with h | h | h
  · have he : o = false := by rw [ho, h]; rfl
    subst he
    rw [h] at d2
    clear h ho
    go_enter Try.func22, Try.ntmps22
    go_wp2_with fail
    go_ret
    exact ⟨rfl, rfl⟩
  · have he : o = decide (s.l.length = 0) := by rw [ho, h]; simp
    rw [h] at d2
    clear h ho
    generalize s.l.length = c at *
    go_enter Try.func22, Try.ntmps22
    go_wp2_with fail
    refine HQ.out.mono ?_
    rintro e w' ⟨rfl, rfl⟩
    go_wp2
    go_ret
    refine ⟨?_, rfl⟩
    subst he
    congr 2
    by_cases h0 : c = 0
    · subst h0; rfl
    · simp [h0]
  · have he : o = true := by rw [ho, h]; rfl
    subst he
    rw [h] at d2
    clear h ho
    go_enter Try.func22, Try.ntmps22
    go_wp2_with fail
    go_ret
    exact ⟨rfl, rfl⟩

set_option maxHeartbeats 800000 in
theorem strEnd_any (g gr gd H L : Nat) (s : Sv) (w : World) (hw : StAt w g gr gd H L s) :
    Calls Try.prog 15 #[.pointer (some ⟨g, 0, none⟩)] w fun e w' => e = .returned (.int .i64 (endC s : Int)) ∧ StAt w' g gr gd H L (endS s) ∧ Only [g] w w' := by
  have HW := Lib.hid hw
  have HOK := Lib.hid hw.ok.end_
  have d2 := hw.i.c2
  obtain ⟨st, p, l⟩ := s
  simp only at d2
  clear hw
  unfold endC endS at *
  by_cases h : st = 1
  · subst h
    simp only [ne_eq, not_true_eq_false, if_false] at HOK ⊢
    obtain ⟨W1, hW1⟩ : ∃ W1, W1 = w.setCell ⟨g, 2, none⟩ (.int .i64 2) := ⟨_, rfl⟩
    have HI1 : Hid (StIn W1 g gr H L 2 p (doneN 1) 0) := by show StIn _ _ _ _ _ _ _ _ _; rw [hW1]; exact HW.out.i.set2 2
    obtain ⟨W2, hW2⟩ : ∃ W2, W2 = W1.setCell ⟨g, 3, none⟩ (.bool false) := ⟨_, rfl⟩
    have HO : Hid (Only [g] w W2) := by show Only _ _ _; rw [hW2, hW1]; exact ((Only.refl _ _).setCell (p := ⟨g, 2, none⟩) (by simp) _).setCell (p := ⟨g, 3, none⟩) (by simp) _
    have HX : Hid (StAt W2 g gr gd H L ⟨2, false, l⟩) := by
      show StAt _ _ _ _ _ _ _
      refine ⟨?_, HW.out.r.only HO.out (by have := HW.out.n1; simpa using this.symm) (by have := HW.out.n2; simpa using this.symm), HW.out.n1, HW.out.n2, HOK.out⟩
      rw [hW2]
      exact HI1.out.set3 false
    have z2 := HW.out.i.z2
    have z3 := HW.out.i.z3
    have d3 := HW.out.i.c3
    go_enter Try.func15, Try.ntmps15
    go_wp2_with fail
    rw [← hW1, ← hW2]
    clear hW1 hW2 d2 d3 z2 z3
    go_ret
    exact ⟨rfl, HX.out, HO.out⟩
  · simp only [ne_eq, h, not_false_eq_true, if_true]
    have h2 : (((st : Nat) : Int) != 1) = true := by simp; omega
    clear h
    go_enter Try.func15, Try.ntmps15
    go_wp2_with fail
    go_ret
    exact ⟨rfl, HW.out, Only.refl _ _⟩
end Go.Proofs.Ytaadffheadimpaa
