/-
  A ring in memory, and the contracts of ring's New, Len, Room, place over this seat's program. Conditions: those of each statement.
-/
import Derived.Test.YtaadffheadimpaaKByte
import Derived.Test.YtaadffheadimpaaKMix
import Derived.Test.YtaadffheadimpaaRMath
namespace Go.Proofs.Ytaadffheadimpaa
open Go.RowKit

def clampR (n : Int) : Nat := if n < 1 then 1 else if 4096 < n then 4096 else n.toNat
theorem clampR_bd (n : Int) : 1 ≤ clampR n ∧ clampR n ≤ 4096 := by unfold clampR; split <;> (try split) <;> omega
/-- at block g lies a ring: its row D at block gd, from s on, so many bytes -/
structure RgIn (w : World) (g gd N s c : Nat) : Prop where
  c0 : w.cell? ⟨g, 0, none⟩ = some (.slice (some ⟨gd, 0, none⟩) N N)
  c1 : w.cell? ⟨g, 1, none⟩ = some (.int .i64 (s : Int))
  c2 : w.cell? ⟨g, 2, none⟩ = some (.int .i64 (c : Int))
  z1 : w.frozen? ⟨g, 1, none⟩ = false
  z2 : w.frozen? ⟨g, 2, none⟩ = false
  ne : g ≠ gd
theorem RgIn.lt {w : World} {g gd N s c : Nat} (h : RgIn w g gd N s c) : g < w.heap.size := block_of_cell (a := ⟨g, 0, none⟩) h.c0
theorem RgIn.only {f : List Nat} {w w' : World} {g gd N s c : Nat} (h : RgIn w g gd N s c) (o : Only f w w') (hg : g ∉ f) : RgIn w' g gd N s c :=
  ⟨(o.cell (p := ⟨g, 0, none⟩) h.lt hg).trans h.c0, (o.cell (p := ⟨g, 1, none⟩) h.lt hg).trans h.c1, (o.cell (p := ⟨g, 2, none⟩) h.lt hg).trans h.c2,
   (o.frozen (p := ⟨g, 1, none⟩) h.lt hg).trans h.z1, (o.frozen (p := ⟨g, 2, none⟩) h.lt hg).trans h.z2, h.ne⟩
theorem RgIn.set1 {w : World} {g gd N s c : Nat} (h : RgIn w g gd N s c) (s' : Nat) : RgIn (w.setCell ⟨g, 1, none⟩ (.int .i64 (s' : Int))) g gd N s' c :=
  ⟨by rw [World.cell?_setCell_other _ _ _ _ (by simp)]; exact h.c0, World.cell?_setCell_same _ _ _ h.c1, by rw [World.cell?_setCell_other _ _ _ _ (by simp)]; exact h.c2,
   by rw [World.frozen?_setCell]; exact h.z1, by rw [World.frozen?_setCell]; exact h.z2, h.ne⟩
theorem RgIn.set2 {w : World} {g gd N s c : Nat} (h : RgIn w g gd N s c) (c' : Nat) : RgIn (w.setCell ⟨g, 2, none⟩ (.int .i64 (c' : Int))) g gd N s c' :=
  ⟨by rw [World.cell?_setCell_other _ _ _ _ (by simp)]; exact h.c0, by rw [World.cell?_setCell_other _ _ _ _ (by simp)]; exact h.c1, World.cell?_setCell_same _ _ _ h.c2,
   by rw [World.frozen?_setCell]; exact h.z1, by rw [World.frozen?_setCell]; exact h.z2, h.ne⟩
/-- .. and l is what it holds, of N places -/
def RgAt (w : World) (g gd N : Nat) (l : List UInt8) : Prop := ∃ D s, D.length = N ∧ Laid D s l ∧ RgIn w g gd N s l.length ∧ RowIn w gd D ∧ N ≤ 4096
theorem RgAt.only {f : List Nat} {w w' : World} {g gd N : Nat} {l : List UInt8} (h : RgAt w g gd N l) (o : Only f w w') (hg : g ∉ f) (hd : gd ∉ f) : RgAt w' g gd N l := by
  obtain ⟨D, s, h1, h2, h3, h4, h5⟩ := h
  exact ⟨D, s, h1, h2, h3.only o hg, h4.only o hd, h5⟩
theorem RgAt.old {w w' : World} {g gd N : Nat} {l : List UInt8} (h : RgAt w g gd N l) (o : Only [] w w') : RgAt w' g gd N l := h.only o (by simp) (by simp)
theorem RgAt.lt {w : World} {g gd N : Nat} {l : List UInt8} (h : RgAt w g gd N l) : g < w.heap.size ∧ gd < w.heap.size ∧ g ≠ gd ∧ l.length ≤ N ∧ N ≤ 4096 := by
  obtain ⟨D, s, h1, h2, h3, h4, h5⟩ := h
  exact ⟨h3.lt, h4.lt, h3.ne, h1 ▸ h2.fits, h5⟩

set_option maxHeartbeats 800000 in
theorem ringNew_any (n : Int) (w : World) :
    Calls Try.prog 24 #[.int .i64 n] w fun e w' => ∃ g gd, e = .returned (.pointer (some ⟨g, 0, none⟩)) ∧ RgAt w' g gd (clampR n) [] ∧ Only [] w w' ∧ w.heap.size ≤ g ∧ w.heap.size ≤ gd := by
  obtain ⟨m, hm⟩ : ∃ m, m = clampR n := ⟨_, rfl⟩
  have hb := clampR_bd n
  rw [← hm] at hb ⊢
  unfold clampR at hm
  have hcase : (n < 1 ∧ m = 1) ∨ (4096 < n ∧ m = 4096) ∨ (¬ n < 1 ∧ ¬ 4096 < n ∧ (m : Int) = n) := by
    split at hm
    · exact .inl ⟨by omega, hm⟩
    · split at hm
      · exact .inr (.inl ⟨by omega, hm⟩)
      · exact .inr (.inr ⟨by omega, by omega, by omega⟩)
  clear hm
  rcases hcase with ⟨h1, hm⟩ | ⟨h1, hm⟩ | ⟨h1, h2, hm⟩
  case' inl =>
    have HM := Lib.hid hm
    have HB := Lib.hid hb
    clear hb hm
    go_enter Try.func24, Try.ntmps24
    go_wp2_with (at_make; refine wpList_make_bytes rfl _ _ rfl m _ _ rfl rfl (by have := HM.out; omega) (by have := HM.out; omega) (by have := HM.out; omega) ?_)
  case' inr.inl =>
    have HM := Lib.hid hm
    have HB := Lib.hid hb
    clear hb hm
    have h2 : ¬ n < 1 := by omega
    have h3 : ¬ n ≤ 4096 := by omega
    go_enter Try.func24, Try.ntmps24
    go_wp2_with (at_make; refine wpList_make_bytes rfl _ _ rfl m _ _ rfl rfl (by have := HM.out; omega) (by have := HM.out; omega) (by have := HM.out; omega) ?_)
  case' inr.inr =>
    subst hm
    have h3 : (m : Int) ≤ 4096 := by omega
    have HB := Lib.hid hb
    clear hb
    go_enter Try.func24, Try.ntmps24
    go_wp2_with (at_make; refine wpList_make_bytes rfl _ _ rfl m _ _ rfl rfl (by omega) (by omega) (by omega) ?_)
  all_goals
    intro w1 HD HO HS
    obtain ⟨gd, hgd⟩ : ∃ gd, gd = w.heap.size := ⟨_, rfl⟩
    obtain ⟨W, hW⟩ : ∃ W, W = w1.alloc (.cells #[.slice (some ⟨gd, 0, none⟩) m m, .int .i64 0, .int .i64 0] 65) := ⟨_, rfl⟩
    have HGD := Lib.hid hgd
    rw [← HGD.out]
    clear hgd
    go_wp2_with fail
    rw [← hW]
    have HW := Lib.hid hW
    clear hW
    go_wp2
    go_ret
    refine ⟨w1.heap.size, gd, rfl, ⟨List.replicate m 0, 0, by simp, Laid.nil (by have := HB.out; simp; omega), ?_, ?_, HB.out.2⟩, ?_, HO.out.size, by have := HGD.out; omega⟩
    · rw [HW.out]
      exact ⟨by simp, by simp, by simp, by simp, by simp, by have := HS.out; have := HGD.out; omega⟩
    · rw [HW.out, HGD.out]
      exact RowIn.only HD.out ((Only.refl [] _).alloc _) (by simp)
    · rw [HW.out]
      exact HO.out.alloc _
end Go.Proofs.Ytaadffheadimpaa
