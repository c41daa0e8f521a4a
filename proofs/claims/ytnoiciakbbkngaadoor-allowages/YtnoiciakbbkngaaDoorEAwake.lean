/-
  What layer 14's statements share: what the chapter tells by example, and two answers that are told to be the same, over this seat's program. Conditions: the table of methods is as it is laid.
-/
import Derived.Test.YtnoiciakbbkngaaDoorERead2
namespace Go.Proofs.YtnoiciakbbkngaaDoor
open Go.RowKit

theorem AvIs.put1 {w : World} {a : Av} {z : Al} (h : AvIs w a z) : a = ⟨a.A1, z.ms.length, a.c1, a.A2, z.hs.length, a.c2, (z.age : Int)⟩ := by
  obtain ⟨A1, n1, c1, A2, n2, c2, g⟩ := a
  have h1 := h.e1
  have h2 := h.e2
  have h3 := h.g
  simp only at h1 h2 h3
  rw [h1, h2, h3]

set_option maxHeartbeats 1000000 in
/-- two answers of which the same is let are told to be the same -/
theorem Allow_same (a b : Av) (z : Al) (w : World) (ha : AvIs w a z) (hb : AvIs w b z) :
    Calls Tryd.prog 12 #[a.v, b.v] w fun e w' => e = .returned (.bool true) ∧ Below w.heap.size w w' := by
  rw [ha.put1, hb.put1] at *
  obtain ⟨A1, _, c1, A2, _, c2, _⟩ := a
  obtain ⟨B1, _, d1, B2, _, d2, _⟩ := b
  obtain ⟨ms, hs, ag⟩ := z
  unfold Av.v
  dsimp only at *
  obtain ⟨W, hW⟩ : ∃ W, W = (w.alloc (.cells #[.slice A1 ms.length c1, .slice A2 hs.length c2, .int .u64 (ag : Int)] 26)).alloc (.cells #[.slice B1 ms.length d1, .slice B2 hs.length d2, .int .u64 (ag : Int)] 26) := ⟨_, rfl⟩
  have hb0 : Below w.heap.size w W := by rw [hW]; exact ((Below.refl _ _).alloc (Nat.le_refl _) _).alloc (by simp) _
  have HB := Lib.hid hb0
  have HA := Lib.hid (ha.below hb0)
  have HE := Lib.hid (hb.below hb0)
  have HC : Hid (AlAt W w.heap.size ⟨A1, ms.length, c1, A2, hs.length, c2, (ag : Int)⟩) := by
    rw [hW]; exact (AlAt.new w ⟨A1, ms.length, c1, A2, hs.length, c2, (ag : Int)⟩ _).up ((Below.refl _ _).alloc (Nat.le_refl _) _)
  have HD : Hid (AlAt W (w.heap.size + 1) ⟨B1, ms.length, d1, B2, hs.length, d2, (ag : Int)⟩) := by
    have h := AlAt.new (w.alloc (.cells #[.slice A1 ms.length c1, .slice A2 hs.length c2, .int .u64 (ag : Int)] 26)) ⟨B1, ms.length, d1, B2, hs.length, d2, (ag : Int)⟩ 26
    rw [show (w.alloc (.cells #[.slice A1 ms.length c1, .slice A2 hs.length c2, .int .u64 (ag : Int)] 26)).heap.size = w.heap.size + 1 by simp] at h
    rw [hW]; exact h
  have HN1 : Hid (ms.length = (ms.map mk).length) := by show _ = _; rw [List.length_map]
  have HN2 : Hid (hs.length = (hs.map mk).length) := by show _ = _; rw [List.length_map]
  have HL1 : Hid ((ms.map mk).length ≤ maxLen) := by show _ ≤ _; rw [List.length_map]; exact ha.l1
  have HL2 : Hid ((hs.map mk).length ≤ maxLen) := by show _ ≤ _; rw [List.length_map]; exact ha.l2
  clear hb0 ha hb
  obtain ⟨p0, p1, p2, _⟩ := HC.out
  obtain ⟨q0, q1, q2, _⟩ := HD.out
  dsimp only at p0 p1 p2 q0 q1 q2
  obtain ⟨n1, hn1⟩ : ∃ n1, n1 = ms.length := ⟨_, rfl⟩
  obtain ⟨n2, hn2⟩ : ∃ n2, n2 = hs.length := ⟨_, rfl⟩
  rw [← hn1] at p0 q0 hW HN1 ⊢
  rw [← hn2] at p1 q1 hW HN2 ⊢
  clear hn1 hn2
  go_enter Tryd.func12, Tryd.ntmps12
  go_wp2_with fail
  rw [← hW]
  clear hW
  refine (Texts_same A1 B1 n1 n1 c1 d1 _ _ (ms.map mk) _ HN1.out HN1.out HL1.out HA.out.r1 HE.out.r1).mono ?_
  rintro e w1 ⟨rfl, m1, hw1⟩
  rw [hw1]
  clear hw1
  go_wp2_with fail
  refine (Texts_same A2 B2 n2 n2 c2 d2 W.heap.size W.heap.size (hs.map mk) (W.drewN m1) HN2.out HN2.out HL2.out HA.out.r2 HE.out.r2).mono ?_
  rintro e w2 ⟨rfl, m2, hw2⟩
  rw [hw2]
  clear hw2
  go_wp2
  go_ret
  exact ⟨rfl, below_drewN HB.out _⟩

theorem aw14_1 : readI ([((⟨#[65, 99, 99, 101, 115, 115, 45, 67, 111, 110, 116, 114, 111, 108, 45, 65, 108, 108, 111, 119, 45, 77, 101, 116, 104, 111, 100, 115]⟩ : ByteArray), (⟨#[80, 85, 84, 44, 32, 120]⟩ : ByteArray))].map hd) = 0 := by decide
theorem aw14_2 : readA ([((⟨#[65, 99, 99, 101, 115, 115, 45, 67, 111, 110, 116, 114, 111, 108, 45, 65, 108, 108, 111, 119, 45, 77, 101, 116, 104, 111, 100, 115]⟩ : ByteArray), (⟨#[80, 85, 84, 44, 32, 120]⟩ : ByteArray))].map hd) = ⟨[[80, 85, 84], [120]], [], 5⟩ := by
  rw [readA_0 aw14_1]
  have h1 : elsH ([((⟨#[65, 99, 99, 101, 115, 115, 45, 67, 111, 110, 116, 114, 111, 108, 45, 65, 108, 108, 111, 119, 45, 77, 101, 116, 104, 111, 100, 115]⟩ : ByteArray), (⟨#[80, 85, 84, 44, 32, 120]⟩ : ByteArray))].map hd) metN = [[80, 85, 84], [120]] := by decide
  have h2 : elsH ([((⟨#[65, 99, 99, 101, 115, 115, 45, 67, 111, 110, 116, 114, 111, 108, 45, 65, 108, 108, 111, 119, 45, 77, 101, 116, 104, 111, 100, 115]⟩ : ByteArray), (⟨#[80, 85, 84, 44, 32, 120]⟩ : ByteArray))].map hd) hdrN = [] := by decide
  have h3 : ageH ([((⟨#[65, 99, 99, 101, 115, 115, 45, 67, 111, 110, 116, 114, 111, 108, 45, 65, 108, 108, 111, 119, 45, 77, 101, 116, 104, 111, 100, 115]⟩ : ByteArray), (⟨#[80, 85, 84, 44, 32, 120]⟩ : ByteArray))].map hd) = 5 := by decide
  rw [h1, h2, h3]; rfl
theorem aw14_3 : hasA [[80, 85, 84], [120]] (⟨#[80, 85, 84]⟩ : ByteArray).data.toList true = true := by decide

set_option maxHeartbeats 1000000 in
theorem awake14_any (w : World) (he : MEnv w) : Calls Tryd.prog 9 #[] w fun e w' => e = .returned (.bool true) ∧ Below w.heap.size w w' := by
  have HE := Lib.hid he
  clear he
  go_enter Tryd.func9, Tryd.ntmps9
  go_wp2_with fail
  refine (ARead_any _ _ _ (w.heap.size + 1) [(⟨#[65, 99, 99, 101, 115, 115, 45, 67, 111, 110, 116, 114, 111, 108, 45, 65, 108, 108, 111, 119, 45, 77, 101, 116, 104, 111, 100, 115]⟩, ⟨#[80, 85, 84, 44, 32, 120]⟩)] _ rfl (by simp) (PRow.one_at _ _ _ _ _ rfl) ⟨by decide, by decide⟩).mono ?_
  rintro e w1 ⟨a, rfl, ha, hb1⟩
  rw [aw14_2] at ha
  rw [aw14_1]
  have HB1 : Hid (Below w.heap.size w w1) := ((Below.refl _ _).alloc (Nat.le_refl _) _).trans (hb1.mono (by simp))
  obtain ⟨A1, n1, c1, A2, n2, c2, g⟩ := a
  obtain rfl : n1 = 2 := ha.e1
  obtain rfl : n2 = 0 := ha.e2
  obtain rfl : g = 5 := ha.g
  unfold Av.v
  dsimp only
  obtain ⟨ad, hA, _, hc⟩ := ha.r1 1 (mk [120]) rfl
  have hA : A1 = some ad := hA
  subst hA
  obtain ⟨W, hW⟩ : ∃ W, W = w1.alloc (.cells #[.slice (some ad) 2 c1, .slice A2 0 c2, .int .u64 5] 26) := ⟨_, rfl⟩
  have hb2 : Below w1.heap.size w1 W := by rw [hW]; exact (Below.refl _ _).alloc (Nat.le_refl _) _
  have HA := Lib.hid (ha.below hb2)
  have HC : Hid (AlAt W w1.heap.size ⟨some ad, 2, c1, A2, 0, c2, 5⟩) := by rw [hW]; exact AlAt.new w1 ⟨some ad, 2, c1, A2, 0, c2, 5⟩ _
  have HB2 : Hid (Below w.heap.size w W) := HB1.out.trans (hb2.mono HB1.out.size)
  have hc2 : W.cell? (ad.add 1) = some (.string ⟨#[120]⟩) := (hb2.cell (block_of_cell hc)).trans hc
  have hc3 : W.cell? ⟨ad.block, ad.off + 1, none⟩ = some (.string ⟨#[120]⟩) := by simpa [Addr.add] using hc2
  rw [hW] at hc3
  have HE2 : Hid (MEnv W) := HE.out.below HB2.out
  obtain ⟨p0, p1, p2, _⟩ := HC.out
  dsimp only at p0 p1 p2
  clear hb1 hb2 ha hc
  go_wp2_with fail
  rw [← hW]
  clear hW
  refine (Has_any ⟨some ad, 2, c1, A2, 0, c2, 5⟩ _ ⟨#[80, 85, 84]⟩ true _ HA.out (by decide) HE2.out).mono ?_
  rintro e w3 ⟨rfl, hb3⟩
  clear hc3 p0 p1 p2 hc2
  rw [aw14_3]
  have HB3 : Hid (Below w.heap.size w w3) := HB2.out.trans (hb3.mono HB2.out.size)
  clear hb3
  go_wp2
  go_ret
  exact ⟨rfl, HB3.out⟩
end Go.Proofs.YtnoiciakbbkngaaDoor
