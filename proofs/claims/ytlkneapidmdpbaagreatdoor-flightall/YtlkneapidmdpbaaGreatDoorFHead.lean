/-
  The contract of flight's headers over this seat's program: the headers of a preflight, in a row of the call's own. No conditions.
-/
import Derived.Test.YtlkneapidmdpbaaGreatDoorFMath
namespace Go.Proofs.YtlkneapidmdpbaaGreatDoor
open Go.RowKit

abbrev rmT : ByteArray := ⟨#[97, 99, 99, 101, 115, 115, 45, 99, 111, 110, 116, 114, 111, 108, 45, 114, 101, 113, 117, 101, 115, 116, 45, 109, 101, 116, 104, 111, 100]⟩
abbrev rhT : ByteArray := ⟨#[97, 99, 99, 101, 115, 115, 45, 99, 111, 110, 116, 114, 111, 108, 45, 114, 101, 113, 117, 101, 115, 116, 45, 104, 101, 97, 100, 101, 114, 115]⟩
theorem mk_nilB (l : List UInt8) : ((mk l).toList == []) = decide (l = []) := by
  rw [ByteArray.toList_eq, mk_data, Bool.eq_iff_iff, beq_iff_eq, decide_eq_true_iff]
/-- the first two headers, just laid -/
theorem head_two (w : World) (m : List UInt8) (base : Nat) (hb : base ≤ w.heap.size) (t : TypeId) (ht : t = 57) :
    HdRow (w.alloc (.cells #[.string ⟨#[97, 99, 99, 101, 112, 116]⟩, .string ⟨#[42, 47, 42]⟩, .string rmT, .string (mk m)] t)) base (.slice (some ⟨w.heap.size, 0, none⟩) 2 2) [(accL, anyL), (rmL, m)] := by
  subst ht
  exact World.ownsRow_lit w #[.string ⟨#[97, 99, 99, 101, 112, 116]⟩, .string ⟨#[42, 47, 42]⟩, .string rmT, .string (mk m)] 2 hb (by decide) rfl

set_option maxHeartbeats 2000000 in
theorem fheaders_any (z : Wq) (w : World) :
    Calls Tryz.prog 49 #[(wvOf z).v] w fun e w' => ∃ v, e = .returned v ∧ HdRow w' w.heap.size v (hdsF z) ∧ Below w.heap.size w w' := by
  obtain ⟨zo, zu, zc, zm, zn⟩ := z
  unfold wvOf Wv.v
  dsimp only
  obtain ⟨W, hW⟩ : ∃ W, W = w.alloc (Obj.cells #[.string (mk zo), .string (mk zu), .bool zc, .string (mk zm), .string (mk zn)] 52) := ⟨_, rfl⟩
  have HB0 : Hid (Below w.heap.size w W) := by show Below _ _ _; rw [hW]; exact (Below.refl _ _).alloc (Nat.le_refl _) _
  have HZ0 : Hid (WtAt W w.heap.size ⟨mk zo, mk zu, zc, mk zm, mk zn⟩) := by show WtAt _ _ _; rw [hW]; exact WtAt.new w ⟨mk zo, mk zu, zc, mk zm, mk zn⟩ _
  obtain ⟨W1, hW1⟩ : ∃ W1, W1 = W.alloc (Obj.cells #[.string ⟨#[97, 99, 99, 101, 112, 116]⟩, .string ⟨#[42, 47, 42]⟩, .string rmT, .string (mk zm)] 57) := ⟨_, rfl⟩
  have hb1 : Below W.heap.size W W1 := by rw [hW1]; exact (Below.refl _ _).alloc (Nat.le_refl _) _
  obtain ⟨g1, hg1⟩ : ∃ g, g = W.heap.size := ⟨_, rfl⟩
  have HR1 : Hid (HdRow W1 w.heap.size (.slice (some ⟨g1, 0, none⟩) 2 2) [(accL, anyL), (rmL, zm)]) := by show HdRow _ _ _ _; rw [hW1, hg1]; exact head_two W zm _ HB0.out.size _ rfl
  have HB1 : Hid (Below w.heap.size w W1) := HB0.out.trans (hb1.mono HB0.out.size)
  have HZ1 : Hid (WtAt W1 w.heap.size ⟨mk zo, mk zu, zc, mk zm, mk zn⟩) := HZ0.out.below hb1 HZ0.out.lt
  have hcd := mk_nilB zn
  have HW := Lib.hid hW
  have HW1 := Lib.hid hW1
  have HG1 := Lib.hid hg1
  have hne : w.heap.size ≠ W.heap.size := by have := HZ0.out.lt; omega
  clear hb1 hW hW1 hg1
  go_enter Tryz.func49, Tryz.ntmps49
  go_upto_region 1 with fail
  rw [← HW.out]
  obtain ⟨c0, c1, c2, c3, c4⟩ := HZ0.out
  dsimp only at c0 c1 c2 c3 c4
  go_upto_region 2 with fail
  rw [← HW1.out, ← HG1.out]
  clear c0 c1 c2 c3 c4
  obtain ⟨c0, c1, c2, c3, c4⟩ := HZ1.out
  dsimp only at c0 c1 c2 c3 c4
  by_cases hn : zn = []
  case pos =>
    subst hn
    rw [show decide (([] : List UInt8) = []) = true from rfl] at hcd
    obtain ⟨W3, hW3⟩ : ∃ W3, W3 = W1.alloc (Obj.cells #[.string ⟨#[111, 114, 105, 103, 105, 110]⟩, .string (mk zo)] 57) := ⟨_, rfl⟩
    have hb3 : Below W1.heap.size W1 W3 := by rw [hW3]; exact (Below.refl _ _).alloc (Nat.le_refl _) _
    obtain ⟨g3, hg3⟩ : ∃ g, g = W1.heap.size := ⟨_, rfl⟩
    have HN3 : Hid (PRow W3 (g3 + 1) (some ⟨g3, 0, none⟩) [(⟨#[111, 114, 105, 103, 105, 110]⟩, mk zo)]) := by show PRow _ _ _ _; rw [hW3, hg3]; exact PRow.one_at _ _ _ _ _ rfl
    have HB3 : Hid (Below w.heap.size w W3) := HB1.out.trans (hb3.mono HB1.out.size)
    have HR3 : Hid (HdRow W3 w.heap.size (.slice (some ⟨g1, 0, none⟩) 2 2) [(accL, anyL), (rmL, zm)]) := HR1.out.below hb3
    clear hb3
    go_wp2_with (at_builtin; rw [← hW3, ← hg3]; refine wpList_append_heads rfl (.tmp 18) (.tmp 23) rfl w.heap.size (.slice (some ⟨g1, 0, none⟩) 2 2) [(accL, anyL), (rmL, zm)] rfl HR3.out (some ⟨g3, 0, none⟩) 1 (g3 + 1) [(⟨#[111, 114, 105, 103, 105, 110]⟩, mk zo)] rfl HN3.out (by intro h; cases h) (by simp) HB3.out.size ?_)
    intro v4 w4 hr4 hg4
    rw [← hW3] at hg4
    clear hW3 hg3
    have HB4 : Hid (Below w.heap.size w w4) := HB3.out.grown hg4 HB3.out.size (fun j hj => (World.ownsRow.lt HR3.out j hj).1)
    have HR4 := Lib.hid hr4
    clear hr4 hg4
    go_wp2
    go_ret
    refine ⟨v4, rfl, ?_, HB4.out⟩
    have h := HR4.out
    rw [hdsF_no rfl]
    simp only [hd, mk_data] at h
    exact h
  case neg =>
    rw [decide_eq_false hn] at hcd
    obtain ⟨W2, hW2⟩ : ∃ W2, W2 = W1.alloc (Obj.cells #[.string rhT, .string (mk zn)] 57) := ⟨_, rfl⟩
    have hb2 : Below W1.heap.size W1 W2 := by rw [hW2]; exact (Below.refl _ _).alloc (Nat.le_refl _) _
    obtain ⟨g2, hg2⟩ : ∃ g, g = W1.heap.size := ⟨_, rfl⟩
    have HN2 : Hid (PRow W2 (g2 + 1) (some ⟨g2, 0, none⟩) [(rhT, mk zn)]) := by show PRow _ _ _ _; rw [hW2, hg2]; exact PRow.one_at _ _ _ _ _ rfl
    have HB2 : Hid (Below w.heap.size w W2) := HB1.out.trans (hb2.mono HB1.out.size)
    have HR2 : Hid (HdRow W2 w.heap.size (.slice (some ⟨g1, 0, none⟩) 2 2) [(accL, anyL), (rmL, zm)]) := HR1.out.below hb2
    have HZ2 : Hid (WtAt W2 w.heap.size ⟨mk zo, mk zu, zc, mk zm, mk zn⟩) := HZ1.out.below hb2 HZ1.out.lt
    clear hb2
    go_wp2_with (at_builtin; rw [← hW2, ← hg2]; refine wpList_append_heads rfl (.tmp 12) (.tmp 16) rfl w.heap.size (.slice (some ⟨g1, 0, none⟩) 2 2) [(accL, anyL), (rmL, zm)] rfl HR2.out (some ⟨g2, 0, none⟩) 1 (g2 + 1) [(rhT, mk zn)] rfl HN2.out (by intro h; cases h) (by simp) HB2.out.size ?_)
    intro v3 w3 hr3 hg3
    rw [← hW2] at hg3
    clear hW2 hg2 c0 c1 c2 c3 c4
    have HB3 : Hid (Below w.heap.size w w3) := HB2.out.grown hg3 HB2.out.size (fun j hj => (World.ownsRow.lt HR2.out j hj).1)
    have HZ3 : Hid (WtAt w3 w.heap.size ⟨mk zo, mk zu, zc, mk zm, mk zn⟩) := by
      have hb : Below (w.heap.size + 1) W2 w3 := (Below.refl _ _).grown hg3 HZ2.out.lt (fun j hj => by
        have hj2 : g1 = j := by simpa [Value.ownBlock] using hj
        have h1 := HG1.out; have h2 := HZ0.out.lt; omega)
      exact HZ2.out.below hb (Nat.lt_succ_self _)
    have HR3 : Hid (HdRow w3 w.heap.size v3 ([(accL, anyL), (rmL, zm)] ++ [(rhT, mk zn)].map hd)) := hr3
    clear hr3 hg3
    obtain ⟨c0, c1, c2, c3, c4⟩ := HZ3.out
    dsimp only at c0 c1 c2 c3 c4
    obtain ⟨W4, hW4⟩ : ∃ W4, W4 = w3.alloc (Obj.cells #[.string ⟨#[111, 114, 105, 103, 105, 110]⟩, .string (mk zo)] 57) := ⟨_, rfl⟩
    have hb4 : Below w3.heap.size w3 W4 := by rw [hW4]; exact (Below.refl _ _).alloc (Nat.le_refl _) _
    obtain ⟨g4, hg4⟩ : ∃ g, g = w3.heap.size := ⟨_, rfl⟩
    have HN4 : Hid (PRow W4 (g4 + 1) (some ⟨g4, 0, none⟩) [(⟨#[111, 114, 105, 103, 105, 110]⟩, mk zo)]) := by show PRow _ _ _ _; rw [hW4, hg4]; exact PRow.one_at _ _ _ _ _ rfl
    have HB4 : Hid (Below w.heap.size w W4) := HB3.out.trans (hb4.mono HB3.out.size)
    have HR4 : Hid (HdRow W4 w.heap.size v3 ([(accL, anyL), (rmL, zm)] ++ [(rhT, mk zn)].map hd)) := HR3.out.below hb4
    clear hb4
    go_wp2_with (at_builtin; rw [← hW4, ← hg4]; refine wpList_append_heads rfl (.tmp 18) (.tmp 23) rfl w.heap.size v3 ([(accL, anyL), (rmL, zm)] ++ [(rhT, mk zn)].map hd) rfl HR4.out (some ⟨g4, 0, none⟩) 1 (g4 + 1) [(⟨#[111, 114, 105, 103, 105, 110]⟩, mk zo)] rfl HN4.out (by intro h; cases h) (by simp) HB4.out.size ?_)
    intro v5 w5 hr5 hg5
    rw [← hW4] at hg5
    clear hW4 hg4
    have HB5 : Hid (Below w.heap.size w w5) := HB4.out.grown hg5 HB4.out.size (fun j hj => (World.ownsRow.lt HR4.out j hj).1)
    have HR5 := Lib.hid hr5
    clear hr5 hg5
    go_wp2
    go_ret
    refine ⟨v5, rfl, ?_, HB5.out⟩
    have h := HR5.out
    rw [hdsF_yes hn]
    simp only [hd, mk_data] at h
    exact h
end Go.Proofs.YtlkneapidmdpbaaGreatDoor
