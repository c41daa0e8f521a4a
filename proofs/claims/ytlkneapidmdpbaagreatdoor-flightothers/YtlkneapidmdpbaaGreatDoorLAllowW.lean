/-
  Two answers told alike, and one that comes in, opened, over this seat's program. Conditions: those of each statement.
-/
import Derived.Test.YtlkneapidmdpbaaGreatDoorLBase
import Derived.ProofKit
import Derived.Lib.SmallJoins
import Derived.SliceStrings
import Derived.KernelRfl
import Derived.Test.YtlkneapidmdpbaaGreatDoorLAllow
namespace Go.Proofs.YtlkneapidmdpbaaGreatDoor
open Go.ChangeShapes Go.WideShapes Go.ChangeAt Go.RowKit

/-- what an answer lets, that came in -/
structure Ar where
  A1 : Option Addr
  c1 : Nat
  xs : List ByteArray
  A2 : Option Addr
  c2 : Nat
  ys : List ByteArray
  g : Int
def Ar.v (r : Ar) : Value := .agg #[.slice r.A1 r.xs.length r.c1, .slice r.A2 r.ys.length r.c2, .int .u64 r.g]
structure ArIs (w : World) (r : Ar) : Prop where
  h1 : SArg w r.A1 r.c1 r.xs
  h2 : SArg w r.A2 r.c2 r.ys
  hg : (Lit.int .u64 r.g).wf = true
set_option maxRecDepth 100000 in
theorem open_texts {H : Type} {enc : TypeId × Value → H} {W : World} {base : Nat} {held : Bool} {fuel : Nat} {u : Value} {x : DataW H × List MemPlace} (h : DataW.trod enc Tryz.prog W base (fun _ => true) held fuel 26 [u] = some x) :
    ∃ (A : Option Addr) (c : Nat) (xs : List ByteArray), u = .slice A xs.length c ∧ SArg W A c xs := by
  obtain ⟨d, p⟩ := x
  rcases open_strings Tryz.underlying26 Tryz.underlying9 (by kernel_rfl) h with ⟨hcs, _⟩ | ⟨x, l, c, ss, hcs, _, hl, hm, hz, _, hcell, hss⟩
  · simp at hcs
    exact ⟨none, 0, [], hcs, SArg.none_ _⟩
  · simp at hcs
    obtain ⟨xs, rfl, hx⟩ := SArg.mk_ hl hm (by simpa using hz) hcell hss
    exact ⟨some x, c, xs, hcs, hx⟩
set_option maxRecDepth 100000 in
theorem open_allow {H : Type} {enc : TypeId × Value → H} {W : World} {r : Reach} {b0 : Nat} {v : Value} {d : DataW H} {p : List MemPlace}
    (hv : Value.okWide Tryz.prog W r b0 28 v) (h : DataW.Trod enc Tryz.prog W 0 (fun _ => true) true 28 v d p) :
    ∃ z : Ar, v = z.v ∧ ArIs W z := by
  obtain ⟨u0, u1, u2, y0, y1, y2, _, rfl, _, _, t0, t1, t2⟩ := Go.Joins.open_agg3 Tryz.underlying28 (by kernel_rfl) (by kernel_rfl) hv h
  obtain ⟨A1, c1, xs, rfl, hx⟩ := open_texts t0
  obtain ⟨A2, c2, ys, rfl, hy⟩ := open_texts t1
  obtain ⟨g, e2, _, hg⟩ := DataW.trod_int Tryz.underlying23 t2
  obtain rfl : u2 = .int .u64 g := by simpa using e2
  exact ⟨⟨A1, c1, xs, A2, c2, ys, g⟩, rfl, ⟨hx, hy, hg⟩⟩
end Go.Proofs.YtlkneapidmdpbaaGreatDoor

namespace Go.Proofs.YtlkneapidmdpbaaGreatDoor
open Go.RowKit

theorem AvIs.put1 {w : World} {a : Av} {z : Al} (h : AvIs w a z) : a = ⟨a.A1, z.ms.length, a.c1, a.A2, z.hs.length, a.c2, (z.age : Int)⟩ := by
  obtain ⟨A1, n1, c1, A2, n2, c2, g⟩ := a
  have h1 := h.e1
  have h2 := h.e2
  have h3 := h.g
  simp only at h1 h2 h3
  rw [h1, h2, h3]

set_option maxHeartbeats 1000000 in
/-- two answers of which the same is let are told to be the same -/
theorem Allow_same (a b : Av) (z : Al) (w : World) (ha : AvIs w a z) (hb : AvIs w b z) :
    Calls Tryz.prog 17 #[a.v, b.v] w fun e w' => e = .returned (.bool true) ∧ Below w.heap.size w w' := by
  rw [ha.put1, hb.put1] at *
  obtain ⟨A1, _, c1, A2, _, c2, _⟩ := a
  obtain ⟨B1, _, d1, B2, _, d2, _⟩ := b
  obtain ⟨ms, hs, ag⟩ := z
  unfold Av.v
  dsimp only at *
  obtain ⟨W, hW⟩ : ∃ W, W = (w.alloc (.cells #[.slice A1 ms.length c1, .slice A2 hs.length c2, .int .u64 (ag : Int)] 28)).alloc (.cells #[.slice B1 ms.length d1, .slice B2 hs.length d2, .int .u64 (ag : Int)] 28) := ⟨_, rfl⟩
  have hb0 : Below w.heap.size w W := by rw [hW]; exact ((Below.refl _ _).alloc (Nat.le_refl _) _).alloc (by simp) _
  have HB := Lib.hid hb0
  have HA := Lib.hid (ha.below hb0)
  have HE := Lib.hid (hb.below hb0)
  have HC : Hid (AlAt W w.heap.size ⟨A1, ms.length, c1, A2, hs.length, c2, (ag : Int)⟩) := by
    rw [hW]; exact (AlAt.new w ⟨A1, ms.length, c1, A2, hs.length, c2, (ag : Int)⟩ _).up ((Below.refl _ _).alloc (Nat.le_refl _) _)
  have HD : Hid (AlAt W (w.heap.size + 1) ⟨B1, ms.length, d1, B2, hs.length, d2, (ag : Int)⟩) := by
    have h := AlAt.new (w.alloc (.cells #[.slice A1 ms.length c1, .slice A2 hs.length c2, .int .u64 (ag : Int)] 28)) ⟨B1, ms.length, d1, B2, hs.length, d2, (ag : Int)⟩ 28
    rw [show (w.alloc (.cells #[.slice A1 ms.length c1, .slice A2 hs.length c2, .int .u64 (ag : Int)] 28)).heap.size = w.heap.size + 1 by simp] at h
    rw [hW]; exact h
  have HN1 : Hid (ms.length = (ms.map mk).length) := by show _ = _; rw [List.length_map]
  have HN2 : Hid (hs.length = (hs.map mk).length) := by show _ = _; rw [List.length_map]
  have HL1 : Hid ((ms.map mk).length ≤ maxLen) := by show _ ≤ _; rw [List.length_map]; exact ha.l1
  have HL2 : Hid ((hs.map mk).length ≤ maxLen) := by show _ ≤ _; rw [List.length_map]; exact ha.l2
  clear hb0 ha hb
  obtain ⟨p0, p1, p2, _⟩ := HC.out
  obtain ⟨q0, q1, q2, _⟩ := HD.out
  dsimp only at p0 p1 p2 q0 q1 q2
  obtain ⟨n1, hn1⟩ : ∃ n1, n1 = ms.length := ⟨_, rfl⟩
  obtain ⟨n2, hn2⟩ : ∃ n2, n2 = hs.length := ⟨_, rfl⟩
  rw [← hn1] at p0 q0 hW HN1 ⊢
  rw [← hn2] at p1 q1 hW HN2 ⊢
  clear hn1 hn2
  go_enter Tryz.func17, Tryz.ntmps17
  go_wp2_with fail
  rw [← hW]
  clear hW
  refine (Texts_same A1 B1 n1 n1 c1 d1 _ _ (ms.map mk) _ HN1.out HN1.out HL1.out HA.out.r1 HE.out.r1).mono ?_
  rintro e w1 ⟨rfl, m1, hw1⟩
  rw [hw1]
  clear hw1
  go_wp2_with fail
  refine (Texts_same A2 B2 n2 n2 c2 d2 W.heap.size W.heap.size (hs.map mk) (W.drewN m1) HN2.out HN2.out HL2.out HA.out.r2 HE.out.r2).mono ?_
  rintro e w2 ⟨rfl, m2, hw2⟩
  rw [hw2]
  clear hw2
  go_wp2
  go_ret
  exact ⟨rfl, below_drewN HB.out _⟩

theorem aw14_1 : readI ([((⟨#[65, 99, 99, 101, 115, 115, 45, 67, 111, 110, 116, 114, 111, 108, 45, 65, 108, 108, 111, 119, 45, 77, 101, 116, 104, 111, 100, 115]⟩ : ByteArray), (⟨#[80, 85, 84, 44, 32, 120]⟩ : ByteArray))].map hd) = 0 := by decide
theorem aw14_2 : readA ([((⟨#[65, 99, 99, 101, 115, 115, 45, 67, 111, 110, 116, 114, 111, 108, 45, 65, 108, 108, 111, 119, 45, 77, 101, 116, 104, 111, 100, 115]⟩ : ByteArray), (⟨#[80, 85, 84, 44, 32, 120]⟩ : ByteArray))].map hd) = ⟨[[80, 85, 84], [120]], [], 5⟩ := by
  rw [readA_0 aw14_1]
  have h1 : elsH ([((⟨#[65, 99, 99, 101, 115, 115, 45, 67, 111, 110, 116, 114, 111, 108, 45, 65, 108, 108, 111, 119, 45, 77, 101, 116, 104, 111, 100, 115]⟩ : ByteArray), (⟨#[80, 85, 84, 44, 32, 120]⟩ : ByteArray))].map hd) metN = [[80, 85, 84], [120]] := by decide
  have h2 : elsH ([((⟨#[65, 99, 99, 101, 115, 115, 45, 67, 111, 110, 116, 114, 111, 108, 45, 65, 108, 108, 111, 119, 45, 77, 101, 116, 104, 111, 100, 115]⟩ : ByteArray), (⟨#[80, 85, 84, 44, 32, 120]⟩ : ByteArray))].map hd) hdrN = [] := by decide
  have h3 : ageH ([((⟨#[65, 99, 99, 101, 115, 115, 45, 67, 111, 110, 116, 114, 111, 108, 45, 65, 108, 108, 111, 119, 45, 77, 101, 116, 104, 111, 100, 115]⟩ : ByteArray), (⟨#[80, 85, 84, 44, 32, 120]⟩ : ByteArray))].map hd) = 5 := by decide
  rw [h1, h2, h3]; rfl
theorem aw14_3 : hasA [[80, 85, 84], [120]] (⟨#[80, 85, 84]⟩ : ByteArray).data.toList true = true := by decide

end Go.Proofs.YtlkneapidmdpbaaGreatDoor
