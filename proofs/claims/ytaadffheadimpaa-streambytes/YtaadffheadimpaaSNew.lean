/-
  A stream in memory, and the contracts of stream.New, State, Len, Paused, Over over this seat's program. Conditions: those of each statement.
-/
import Derived.Test.YtaadffheadimpaaSMath
import Derived.Deep.CutRange
import Derived.Deep.CutBlock
namespace Go.Proofs.Ytaadffheadimpaa
open Go.RowKit

/-- the Once's word -/
def doneN (st : Nat) : Nat := if st = 3 then 1 else 0
/-- at block g lies a stream, its ring behind gr; dn, lk: the Once's word and its lock -/
structure StIn (w : World) (g gr H L st : Nat) (p : Bool) (dn lk : Int) : Prop where
  c0 : w.cell? ⟨g, 0, none⟩ = some (.int .i64 (H : Int))
  c1 : w.cell? ⟨g, 1, none⟩ = some (.int .i64 (L : Int))
  c2 : w.cell? ⟨g, 2, none⟩ = some (.int .i64 (st : Int))
  c3 : w.cell? ⟨g, 3, none⟩ = some (.bool p)
  c4 : w.cell? ⟨g, 4, none⟩ = some (.pointer (some ⟨gr, 0, none⟩))
  c5 : w.cell? ⟨g, 5, none⟩ = some (.int .u32 dn)
  c6 : w.cell? ⟨g, 6, none⟩ = some (.int .i32 lk)
  z2 : w.frozen? ⟨g, 2, none⟩ = false
  z3 : w.frozen? ⟨g, 3, none⟩ = false
  z5 : w.frozen? ⟨g, 5, none⟩ = false
  z6 : w.frozen? ⟨g, 6, none⟩ = false
theorem StIn.lt {w : World} {g gr H L st : Nat} {p : Bool} {dn lk : Int} (h : StIn w g gr H L st p dn lk) : g < w.heap.size := block_of_cell (a := ⟨g, 0, none⟩) h.c0
theorem StIn.only {f : List Nat} {w w' : World} {g gr H L st : Nat} {p : Bool} {dn lk : Int} (h : StIn w g gr H L st p dn lk) (o : Only f w w') (hg : g ∉ f) : StIn w' g gr H L st p dn lk :=
  ⟨(o.cell (p := ⟨g, 0, none⟩) h.lt hg).trans h.c0, (o.cell (p := ⟨g, 1, none⟩) h.lt hg).trans h.c1, (o.cell (p := ⟨g, 2, none⟩) h.lt hg).trans h.c2, (o.cell (p := ⟨g, 3, none⟩) h.lt hg).trans h.c3, (o.cell (p := ⟨g, 4, none⟩) h.lt hg).trans h.c4, (o.cell (p := ⟨g, 5, none⟩) h.lt hg).trans h.c5, (o.cell (p := ⟨g, 6, none⟩) h.lt hg).trans h.c6,
   (o.frozen (p := ⟨g, 2, none⟩) h.lt hg).trans h.z2, (o.frozen (p := ⟨g, 3, none⟩) h.lt hg).trans h.z3, (o.frozen (p := ⟨g, 5, none⟩) h.lt hg).trans h.z5, (o.frozen (p := ⟨g, 6, none⟩) h.lt hg).trans h.z6⟩
theorem StIn.set2 {w : World} {g gr H L st : Nat} {p : Bool} {dn lk : Int} (h : StIn w g gr H L st p dn lk) (t : Nat) : StIn (w.setCell ⟨g, 2, none⟩ (.int .i64 (t : Int))) g gr H L t p dn lk :=
  ⟨by rw [World.cell?_setCell_other _ _ _ _ (by simp)]; exact h.c0, by rw [World.cell?_setCell_other _ _ _ _ (by simp)]; exact h.c1, World.cell?_setCell_same _ _ _ h.c2, by rw [World.cell?_setCell_other _ _ _ _ (by simp)]; exact h.c3, by rw [World.cell?_setCell_other _ _ _ _ (by simp)]; exact h.c4, by rw [World.cell?_setCell_other _ _ _ _ (by simp)]; exact h.c5, by rw [World.cell?_setCell_other _ _ _ _ (by simp)]; exact h.c6,
   by rw [World.frozen?_setCell]; exact h.z2, by rw [World.frozen?_setCell]; exact h.z3, by rw [World.frozen?_setCell]; exact h.z5, by rw [World.frozen?_setCell]; exact h.z6⟩
theorem StIn.set3 {w : World} {g gr H L st : Nat} {p : Bool} {dn lk : Int} (h : StIn w g gr H L st p dn lk) (q : Bool) : StIn (w.setCell ⟨g, 3, none⟩ (.bool q)) g gr H L st q dn lk :=
  ⟨by rw [World.cell?_setCell_other _ _ _ _ (by simp)]; exact h.c0, by rw [World.cell?_setCell_other _ _ _ _ (by simp)]; exact h.c1, by rw [World.cell?_setCell_other _ _ _ _ (by simp)]; exact h.c2, World.cell?_setCell_same _ _ _ h.c3, by rw [World.cell?_setCell_other _ _ _ _ (by simp)]; exact h.c4, by rw [World.cell?_setCell_other _ _ _ _ (by simp)]; exact h.c5, by rw [World.cell?_setCell_other _ _ _ _ (by simp)]; exact h.c6,
   by rw [World.frozen?_setCell]; exact h.z2, by rw [World.frozen?_setCell]; exact h.z3, by rw [World.frozen?_setCell]; exact h.z5, by rw [World.frozen?_setCell]; exact h.z6⟩
theorem StIn.set5 {w : World} {g gr H L st : Nat} {p : Bool} {dn lk : Int} (h : StIn w g gr H L st p dn lk) (d : Int) : StIn (w.setCell ⟨g, 5, none⟩ (.int .u32 d)) g gr H L st p d lk :=
  ⟨by rw [World.cell?_setCell_other _ _ _ _ (by simp)]; exact h.c0, by rw [World.cell?_setCell_other _ _ _ _ (by simp)]; exact h.c1, by rw [World.cell?_setCell_other _ _ _ _ (by simp)]; exact h.c2, by rw [World.cell?_setCell_other _ _ _ _ (by simp)]; exact h.c3, by rw [World.cell?_setCell_other _ _ _ _ (by simp)]; exact h.c4, World.cell?_setCell_same _ _ _ h.c5, by rw [World.cell?_setCell_other _ _ _ _ (by simp)]; exact h.c6,
   by rw [World.frozen?_setCell]; exact h.z2, by rw [World.frozen?_setCell]; exact h.z3, by rw [World.frozen?_setCell]; exact h.z5, by rw [World.frozen?_setCell]; exact h.z6⟩
theorem StIn.set6 {w : World} {g gr H L st : Nat} {p : Bool} {dn lk : Int} (h : StIn w g gr H L st p dn lk) (d : Int) : StIn (w.setCell ⟨g, 6, none⟩ (.int .i32 d)) g gr H L st p dn d :=
  ⟨by rw [World.cell?_setCell_other _ _ _ _ (by simp)]; exact h.c0, by rw [World.cell?_setCell_other _ _ _ _ (by simp)]; exact h.c1, by rw [World.cell?_setCell_other _ _ _ _ (by simp)]; exact h.c2, by rw [World.cell?_setCell_other _ _ _ _ (by simp)]; exact h.c3, by rw [World.cell?_setCell_other _ _ _ _ (by simp)]; exact h.c4, by rw [World.cell?_setCell_other _ _ _ _ (by simp)]; exact h.c5, World.cell?_setCell_same _ _ _ h.c6,
   by rw [World.frozen?_setCell]; exact h.z2, by rw [World.frozen?_setCell]; exact h.z3, by rw [World.frozen?_setCell]; exact h.z5, by rw [World.frozen?_setCell]; exact h.z6⟩
/-- a stream, whole -/
structure StAt (w : World) (g gr gd H L : Nat) (s : Sv) : Prop where
  i : StIn w g gr H L s.st s.p (doneN s.st) 0
  r : RgAt w gr gd (H + 63) s.l
  n1 : g ≠ gr
  n2 : g ≠ gd
  ok : SvOk H L s
theorem StAt.only {f : List Nat} {w w' : World} {g gr gd H L : Nat} {s : Sv} (h : StAt w g gr gd H L s) (o : Only f w w') (h1 : g ∉ f) (h2 : gr ∉ f) (h3 : gd ∉ f) : StAt w' g gr gd H L s :=
  ⟨h.i.only o h1, h.r.only o h2 h3, h.n1, h.n2, h.ok⟩
theorem StAt.old {w w' : World} {g gr gd H L : Nat} {s : Sv} (h : StAt w g gr gd H L s) (o : Only [] w w') : StAt w' g gr gd H L s := h.only o (by simp) (by simp) (by simp)
theorem StAt.lt {w : World} {g gr gd H L : Nat} {s : Sv} (h : StAt w g gr gd H L s) : g < w.heap.size ∧ gr < w.heap.size ∧ gd < w.heap.size := ⟨h.i.lt, h.r.lt.1, h.r.lt.2.1⟩

set_option maxHeartbeats 1600000 in
theorem strNew_any (h l : Int) (w : World) :
    Calls Try.prog 8 #[.int .i64 h, .int .i64 l] w fun e w' => ∃ g gr gd, e = .returned (.pointer (some ⟨g, 0, none⟩)) ∧ StAt w' g gr gd (clampH h) (clampW (clampH h) l) ⟨1, false, []⟩ ∧ Only [] w w' ∧ w.heap.size ≤ g ∧ w.heap.size ≤ gr ∧ w.heap.size ≤ gd := by
  obtain ⟨H, hH⟩ : ∃ H, H = clampH h := ⟨_, rfl⟩
  have hb := clampH_bd h
  have hOK := SvOk.new (L := clampW (clampH h) l) hb.1 hb.2 (clampW_bd hb.1 l)
  rw [← hH] at hb hOK ⊢
  obtain ⟨L, hL⟩ : ∃ L, L = clampW H l := ⟨_, rfl⟩
  rw [← hL] at hOK ⊢
  unfold clampH at hH
  unfold clampW at hL
  have hc1 : (h < 1 ∧ H = 1) ∨ (¬ h < 1 ∧ ¬ h ≤ 1024 ∧ H = 1024) ∨ (¬ h < 1 ∧ h ≤ 1024 ∧ (H : Int) = h) := by
    split at hH
    · exact .inl ⟨by omega, hH⟩
    · split at hH
      · exact .inr (.inl ⟨by omega, by omega, hH⟩)
      · exact .inr (.inr ⟨by omega, by omega, by omega⟩)
  have hc2 : (l < 0 ∧ L = 0) ∨ (¬ l < 0 ∧ ¬ l ≤ (H : Int) - 1 ∧ (L : Int) = (H : Int) - 1) ∨ (¬ l < 0 ∧ l ≤ (H : Int) - 1 ∧ (L : Int) = l) := by
    split at hL
    · exact .inl ⟨by omega, hL⟩
    · split at hL
      · exact .inr (.inl ⟨by omega, by omega, by omega⟩)
      · exact .inr (.inr ⟨by omega, by omega, by omega⟩)
  have HOK := Lib.hid hOK
  have HB := Lib.hid hb
  have HCR : Hid (clampR ((H : Int) - 1 + 64) = H + 63) := by show _ = _; unfold clampR; rw [if_neg (by omega), if_neg (by omega)]; omega
  clear hOK hH hL
  go_enter Try.func8, Try.ntmps8
  go_upto_region 1 with fail
  go_cut [0] from 5 (fun s0 W => s0 = .int .i64 (H : Int) ∧ W = w)
  case first =>
    clear hc2
    rcases hc1 with ⟨h1, h2⟩ | ⟨h1, h2, h3⟩ | ⟨h1, h2, h3⟩
    · subst h2
      go_wp2_with fail
      go_meet
      case rel => exact ⟨rfl, rfl⟩
    · subst h3
      go_wp2_with fail
      go_meet
      case rel => exact ⟨rfl, rfl⟩
    · subst h3
      go_wp2_with fail
      go_meet
      case rel => exact ⟨rfl, rfl⟩
  case rest =>
    obtain ⟨rfl, rfl⟩ := hcut
    clear hc1
    have hw1 : ((H : Int) - 1) ≤ 1023 := by omega
    rcases hc2 with ⟨h1, h2⟩ | ⟨h1, h2, h3⟩ | ⟨h1, h2, h3⟩
    case' inl =>
      have h3 : (0 : Int) ≤ (H : Int) - 1 := by omega
      have hl : Hid ((0 : Int) = (L : Int)) := by show _ = _; omega
    case' inr.inl => have hl : Hid ((H : Int) - 1 = (L : Int)) := h3.symm
    case' inr.inr => have hl : Hid (l = (L : Int)) := h3.symm
    all_goals
      try clear h3
      go_wp2_with fail
      refine (ringNew_any _ _).mono ?_
      rintro e w1 ⟨gr, gd, rfl, hr, ho, hg1, hg2⟩
      rw [HCR.out] at hr
      have HR := Lib.hid hr
      have HO := Lib.hid ho
      have HG : Hid (wc.heap.size ≤ gr ∧ wc.heap.size ≤ gd) := ⟨hg1, hg2⟩
      clear hr ho hg1 hg2
      have HX : Hid (∀ x : Int, x = (L : Int) → StAt (w1.alloc (.cells #[.int .i64 (H : Int), .int .i64 x, .int .i64 1, .bool false, .pointer (some ⟨gr, 0, none⟩), .int .u32 0, .int .i32 0, .int .u32 0] 60)) w1.heap.size gr gd H L ⟨1, false, []⟩) := by
        show ∀ x : Int, _
        intro x hx
        subst hx
        have hlt := HR.out.lt
        refine ⟨⟨by simp, by simp, by simp, by simp, by simp, by simp [doneN], by simp, by simp, by simp, by simp, by simp⟩, HR.out.old ((Only.refl _ _).alloc _), by omega, by omega, HOK.out⟩
      go_wp2_with fail
      go_ret
      exact ⟨_, gr, gd, rfl, HX.out _ hl.out, HO.out.alloc _, HO.out.size, HG.out.1, HG.out.2⟩
end Go.Proofs.Ytaadffheadimpaa
