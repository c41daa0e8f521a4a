/-
  The document's own stream in memory, and the contracts of its New, Over, End, Stop, Chunk over this seat's program. Conditions: those of each statement.
-/
import Derived.Test.YtaadffheadimpaaSMath
import Derived.Deep.CutRange
import Derived.Deep.CutBlock
namespace Go.Proofs.Ytaadffheadimpaa
open Go.RowKit

/-- at block g lies the document's own stream; v: its bytes' slice -/
structure MsIn (w : World) (g H L st : Nat) (p : Bool) (v : Value) (l : List UInt8) : Prop where
  c0 : w.cell? ⟨g, 0, none⟩ = some (.int .i64 (H : Int))
  c1 : w.cell? ⟨g, 1, none⟩ = some (.int .i64 (L : Int))
  c2 : w.cell? ⟨g, 2, none⟩ = some (.int .i64 (st : Int))
  c3 : w.cell? ⟨g, 3, none⟩ = some (v)
  c4 : w.cell? ⟨g, 4, none⟩ = some (.bool p)
  z2 : w.frozen? ⟨g, 2, none⟩ = false
  z3 : w.frozen? ⟨g, 3, none⟩ = false
  z4 : w.frozen? ⟨g, 4, none⟩ = false
  row : KeptAt w (g + 1) v l
theorem MsIn.lt {w : World} {g H L st : Nat} {p : Bool} {v : Value} {l : List UInt8} (h : MsIn w g H L st p v l) : g < w.heap.size := block_of_cell (a := ⟨g, 0, none⟩) h.c0
theorem MsIn.only {f : List Nat} {w w' : World} {g H L st : Nat} {p : Bool} {v : Value} {l : List UInt8} (h : MsIn w g H L st p v l) (o : Only f w w') (hf : ∀ x ∈ f, x < g) : MsIn w' g H L st p v l := by
  have hg : g ∉ f := fun hm => by have := hf g hm; omega
  refine ⟨(o.cell (p := ⟨g, 0, none⟩) h.lt hg).trans h.c0, (o.cell (p := ⟨g, 1, none⟩) h.lt hg).trans h.c1, (o.cell (p := ⟨g, 2, none⟩) h.lt hg).trans h.c2, (o.cell (p := ⟨g, 3, none⟩) h.lt hg).trans h.c3, (o.cell (p := ⟨g, 4, none⟩) h.lt hg).trans h.c4,
   (o.frozen (p := ⟨g, 2, none⟩) h.lt hg).trans h.z2, (o.frozen (p := ⟨g, 3, none⟩) h.lt hg).trans h.z3, (o.frozen (p := ⟨g, 4, none⟩) h.lt hg).trans h.z4, h.row.only o (fun x hx hm => ?_)⟩
  have := (h.row.own hx).1
  have := hf x hm
  omega
theorem MsIn.set2 {w : World} {g H L st : Nat} {p : Bool} {v : Value} {l : List UInt8} (h : MsIn w g H L st p v l) (t : Nat) : MsIn (w.setCell ⟨g, 2, none⟩ (.int .i64 (t : Int))) g H L t p v l :=
  ⟨by rw [World.cell?_setCell_other _ _ _ _ (by simp)]; exact h.c0, by rw [World.cell?_setCell_other _ _ _ _ (by simp)]; exact h.c1, World.cell?_setCell_same _ _ _ h.c2, by rw [World.cell?_setCell_other _ _ _ _ (by simp)]; exact h.c3, by rw [World.cell?_setCell_other _ _ _ _ (by simp)]; exact h.c4,
   by rw [World.frozen?_setCell]; exact h.z2, by rw [World.frozen?_setCell]; exact h.z3, by rw [World.frozen?_setCell]; exact h.z4, ownsRow_setCell_below h.row (a := ⟨g, 2, none⟩) (by simp) _⟩
theorem MsIn.set4 {w : World} {g H L st : Nat} {p : Bool} {v : Value} {l : List UInt8} (h : MsIn w g H L st p v l) (q : Bool) : MsIn (w.setCell ⟨g, 4, none⟩ (.bool q)) g H L st q v l :=
  ⟨by rw [World.cell?_setCell_other _ _ _ _ (by simp)]; exact h.c0, by rw [World.cell?_setCell_other _ _ _ _ (by simp)]; exact h.c1, by rw [World.cell?_setCell_other _ _ _ _ (by simp)]; exact h.c2, by rw [World.cell?_setCell_other _ _ _ _ (by simp)]; exact h.c3, World.cell?_setCell_same _ _ _ h.c4,
   by rw [World.frozen?_setCell]; exact h.z2, by rw [World.frozen?_setCell]; exact h.z3, by rw [World.frozen?_setCell]; exact h.z4, ownsRow_setCell_below h.row (a := ⟨g, 4, none⟩) (by simp) _⟩
/-- another row is laid in -/
theorem MsIn.set3 {w w' : World} {g H L st : Nat} {p : Bool} {v : Value} {l : List UInt8} (h : MsIn w g H L st p v l) {v' : Value} {l' : List UInt8} (o : Only [] w w') (hk : KeptAt w' (g + 1) v' l') : MsIn (w'.setCell ⟨g, 3, none⟩ v') g H L st p v' l' := by
  have h' := h.only o (by simp)
  exact ⟨by rw [World.cell?_setCell_other _ _ _ _ (by simp)]; exact h'.c0, by rw [World.cell?_setCell_other _ _ _ _ (by simp)]; exact h'.c1, by rw [World.cell?_setCell_other _ _ _ _ (by simp)]; exact h'.c2, World.cell?_setCell_same _ _ _ h'.c3, by rw [World.cell?_setCell_other _ _ _ _ (by simp)]; exact h'.c4,
   by rw [World.frozen?_setCell]; exact h'.z2, by rw [World.frozen?_setCell]; exact h'.z3, by rw [World.frozen?_setCell]; exact h'.z4, ownsRow_setCell_below hk (a := ⟨g, 3, none⟩) (by simp) _⟩
structure MsAt (w : World) (g H L : Nat) (s : Sv) : Prop where
  i : ∃ v, MsIn w g H L s.st s.p v s.l
  ok : SvOk H L s
theorem MsAt.lt {w : World} {g H L : Nat} {s : Sv} (h : MsAt w g H L s) : g < w.heap.size := h.i.choose_spec.lt
theorem MsAt.only {f : List Nat} {w w' : World} {g H L : Nat} {s : Sv} (h : MsAt w g H L s) (o : Only f w w') (hf : ∀ x ∈ f, x < g) : MsAt w' g H L s := by
  obtain ⟨v, hv⟩ := h.i
  exact ⟨⟨v, hv.only o hf⟩, h.ok⟩
theorem MsAt.old {w w' : World} {g H L : Nat} {s : Sv} (h : MsAt w g H L s) (o : Only [] w w') : MsAt w' g H L s := h.only o (by simp)

set_option maxHeartbeats 1600000 in
theorem msNew_any (h l : Int) (w : World) :
    Calls Try.prog 9 #[.int .i64 h, .int .i64 l] w fun e w' => e = .returned (.pointer (some ⟨w.heap.size, 0, none⟩)) ∧ MsAt w' w.heap.size (clampH h) (clampW (clampH h) l) ⟨1, false, []⟩ ∧ Only [] w w' := by
  obtain ⟨H, hH⟩ : ∃ H, H = clampH h := ⟨_, rfl⟩
  have hb := clampH_bd h
  have hOK := SvOk.new (L := clampW (clampH h) l) hb.1 hb.2 (clampW_bd hb.1 l)
  rw [← hH] at hb hOK ⊢
  obtain ⟨L, hL⟩ : ∃ L, L = clampW H l := ⟨_, rfl⟩
  rw [← hL] at hOK ⊢
  unfold clampH at hH
  unfold clampW at hL
  have hc1 : (h < 1 ∧ H = 1) ∨ (¬ h < 1 ∧ ¬ h ≤ 1024 ∧ H = 1024) ∨ (¬ h < 1 ∧ h ≤ 1024 ∧ (H : Int) = h) := by
    split at hH
    · exact .inl ⟨by omega, hH⟩
    · split at hH
      · exact .inr (.inl ⟨by omega, by omega, hH⟩)
      · exact .inr (.inr ⟨by omega, by omega, by omega⟩)
  have hc2 : (l < 0 ∧ L = 0) ∨ (¬ l < 0 ∧ ¬ l ≤ (H : Int) - 1 ∧ (L : Int) = (H : Int) - 1) ∨ (¬ l < 0 ∧ l ≤ (H : Int) - 1 ∧ (L : Int) = l) := by
    split at hL
    · exact .inl ⟨by omega, hL⟩
    · split at hL
      · exact .inr (.inl ⟨by omega, by omega, by omega⟩)
      · exact .inr (.inr ⟨by omega, by omega, by omega⟩)
  have HOK := Lib.hid hOK
  clear hOK hH hL
  have HX : Hid (∀ x : Int, x = (L : Int) → MsAt (w.alloc (.cells #[.int .i64 (H : Int), .int .i64 x, .int .i64 1, .slice none 0 0, .bool false] 38)) w.heap.size H L ⟨1, false, []⟩) := by
    show ∀ x : Int, _
    intro x hx
    subst hx
    exact ⟨⟨_, by simp, by simp, by simp, by simp, by simp, by simp, by simp, by simp, KeptAt.nil _ _⟩, HOK.out⟩
  go_enter Try.func9, Try.ntmps9
  go_upto_region 1 with fail
  go_cut [5] from 6 (fun s0 W => s0 = .int .i64 (H : Int) ∧ W = w)
  case first =>
    clear hc2
    rcases hc1 with ⟨h1, h2⟩ | ⟨h1, h2, h3⟩ | ⟨h1, h2, h3⟩
    · subst h2
      go_wp2_with fail
      go_meet
      case rel => exact ⟨rfl, rfl⟩
    · subst h3
      go_wp2_with fail
      go_meet
      case rel => exact ⟨rfl, rfl⟩
    · subst h3
      go_wp2_with fail
      go_meet
      case rel => exact ⟨rfl, rfl⟩
  case rest =>
    obtain ⟨rfl, rfl⟩ := hcut
    clear hc1
    have hw1 : ((H : Int) - 1) ≤ 1023 := by omega
    rcases hc2 with ⟨h1, h2⟩ | ⟨h1, h2, h3⟩ | ⟨h1, h2, h3⟩
    case' inl =>
      have h3 : (0 : Int) ≤ (H : Int) - 1 := by omega
      have hl : Hid ((0 : Int) = (L : Int)) := by show _ = _; omega
    case' inr.inl => have hl : Hid ((H : Int) - 1 = (L : Int)) := h3.symm
    case' inr.inr => have hl : Hid (l = (L : Int)) := h3.symm
    all_goals
      go_wp2_with fail
      go_ret
      exact ⟨rfl, HX.out _ hl.out, (Only.refl _ _).alloc _⟩

set_option maxHeartbeats 800000 in
theorem msOver_any (g H L : Nat) (s : Sv) (w : World) (hw : MsAt w g H L s) :
    Calls Try.prog 23 #[.pointer (some ⟨g, 0, none⟩)] w fun e w' => e = .returned (.bool (overC s)) ∧ w = w' := by
  obtain ⟨v, hv⟩ := hw.i
  have d2 := hv.c2
  obtain ⟨A, cap, hs, _, _⟩ := hv.row.slice
  have d3 := hv.c3
  rw [hs] at d3
  have hst := hw.ok.st
  clear hw hv hs
  obtain ⟨o, ho⟩ : ∃ o, o = overC s := ⟨_, rfl⟩
  rw [← ho]
  unfold overC at ho
  rcases hst with h | h | h
  · have he : o = false := by rw [ho, h]; rfl
    subst he
    rw [h] at d2
    clear h ho
    go_enter Try.func23, Try.ntmps23
    go_wp2_with fail
    go_ret
    exact ⟨rfl, rfl⟩
  · have he : o = decide (s.l.length = 0) := by rw [ho, h]; simp
    rw [h] at d2
    clear h ho
    generalize s.l.length = c at *
    by_cases h0 : c = 0
    · subst h0
      have he2 : o = true := by rw [he]; rfl
      subst he2
      clear he
      go_enter Try.func23, Try.ntmps23
      go_wp2_with fail
      go_ret
      exact ⟨rfl, rfl⟩
    · have he2 : o = false := by rw [he]; simpa using h0
      subst he2
      clear he
      have h1 : (((c : Nat) : Int) == 0) = false := by simp; omega
      go_enter Try.func23, Try.ntmps23
      go_wp2_with fail
      go_ret
      exact ⟨rfl, rfl⟩
  · have he : o = true := by rw [ho, h]; rfl
    subst he
    rw [h] at d2
    clear h ho
    go_enter Try.func23, Try.ntmps23
    go_wp2_with fail
    go_ret
    exact ⟨rfl, rfl⟩

set_option maxHeartbeats 800000 in
theorem msEnd_any (g H L : Nat) (s : Sv) (w : World) (hw : MsAt w g H L s) :
    Calls Try.prog 16 #[.pointer (some ⟨g, 0, none⟩)] w fun e w' => e = .returned (.int .i64 (endC s : Int)) ∧ MsAt w' g H L (endS s) ∧ Only [g] w w' := by
  have HW := Lib.hid hw
  have HOK := Lib.hid hw.ok.end_
  obtain ⟨v, hv⟩ := hw.i
  have d2 := hv.c2
  obtain ⟨st, p, l⟩ := s
  simp only at d2 hv
  clear hw
  unfold endC endS at *
  by_cases h : st = 1
  · subst h
    simp only [ne_eq, not_true_eq_false, if_false] at HOK ⊢
    have z2 := hv.z2
    have z4 := hv.z4
    have d4 := hv.c4
    obtain ⟨W2, hW2⟩ : ∃ W2, W2 = (w.setCell ⟨g, 2, none⟩ (.int .i64 2)).setCell ⟨g, 4, none⟩ (.bool false) := ⟨_, rfl⟩
    have HO : Hid (Only [g] w W2) := by show Only _ _ _; rw [hW2]; exact ((Only.refl _ _).setCell (p := ⟨g, 2, none⟩) (by simp) _).setCell (p := ⟨g, 4, none⟩) (by simp) _
    have HX : Hid (MsAt W2 g H L ⟨2, false, l⟩) := by
      show MsAt _ _ _ _ _
      rw [hW2]
      exact ⟨⟨v, (hv.set2 2).set4 false⟩, HOK.out⟩
    clear hv
    go_enter Try.func16, Try.ntmps16
    go_wp2_with fail
    rw [← hW2]
    clear hW2 d2 d4 z2 z4
    go_ret
    exact ⟨rfl, HX.out, HO.out⟩
  · simp only [ne_eq, h, not_false_eq_true, if_true]
    have h2 : (((st : Nat) : Int) != 1) = true := by simp; omega
    clear h hv
    go_enter Try.func16, Try.ntmps16
    go_wp2_with fail
    go_ret
    exact ⟨rfl, HW.out, Only.refl _ _⟩

set_option maxHeartbeats 800000 in
theorem msStop_any (g H L : Nat) (s : Sv) (w : World) (hw : MsAt w g H L s) :
    Calls Try.prog 18 #[.pointer (some ⟨g, 0, none⟩)] w fun e w' => e = .returned (.bool (stopC s)) ∧ MsAt w' g H L (stopS s) ∧ Only [g] w w' := by
  have HW := Lib.hid hw
  have HOK := Lib.hid hw.ok.stop
  obtain ⟨v, hv⟩ := hw.i
  have d2 := hv.c2
  obtain ⟨st, p, l⟩ := s
  simp only at d2 hv
  clear hw
  unfold stopC stopS at *
  by_cases h : st = 3
  · subst h
    simp only [if_true, ne_eq, not_true_eq_false, decide_false]
    clear hv
    go_enter Try.func18, Try.ntmps18
    go_wp2_with fail
    go_ret
    exact ⟨rfl, HW.out, Only.refl _ _⟩
  · simp only [ne_eq, h, not_false_eq_true, decide_true] at HOK ⊢
    have h2 : (((st : Nat) : Int) == 3) = false := by simp; omega
    have z2 := hv.z2
    have z3 := hv.z3
    have z4 := hv.z4
    have d4 := hv.c4
    have d3 := hv.c3
    obtain ⟨W2, hW2⟩ : ∃ W2, W2 = ((w.setCell ⟨g, 2, none⟩ (.int .i64 3)).setCell ⟨g, 4, none⟩ (.bool false)).setCell ⟨g, 3, none⟩ (.slice none 0 0) := ⟨_, rfl⟩
    have HO : Hid (Only [g] w W2) := by show Only _ _ _; rw [hW2]; exact (((Only.refl _ _).setCell (p := ⟨g, 2, none⟩) (by simp) _).setCell (p := ⟨g, 4, none⟩) (by simp) _).setCell (p := ⟨g, 3, none⟩) (by simp) _
    have HX : Hid (MsAt W2 g H L ⟨3, false, []⟩) := by
      show MsAt _ _ _ _ _
      rw [hW2]
      exact ⟨⟨_, ((hv.set2 3).set4 false).set3 (Only.refl _ _) (KeptAt.nil _ _)⟩, ⟨HW.out.ok.h1, HW.out.ok.h2, HW.out.ok.lo, .inr (.inr rfl), fun e => by simp at e, by simp⟩⟩
    clear hv h
    go_enter Try.func18, Try.ntmps18
    go_wp2_with fail
    rw [← hW2]
    clear hW2 d2 d3 d4 z2 z3 z4
    go_ret
    exact ⟨rfl, HX.out, HO.out⟩
end Go.Proofs.Ytaadffheadimpaa
