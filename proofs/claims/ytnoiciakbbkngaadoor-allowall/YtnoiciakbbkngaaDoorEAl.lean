/-
  What an answer lets, as a block of three cells; what holds of it whatever makes new memory, or writes elsewhere. No conditions beyond those of each statement.
-/
import Derived.Test.YtnoiciakbbkngaaDoorEMath
namespace Go.Proofs.YtnoiciakbbkngaaDoor
open Go.RowKit

/-- what an answer lets as a value -/
structure Av where
  A1 : Option Addr
  n1 : Nat
  c1 : Nat
  A2 : Option Addr
  n2 : Nat
  c2 : Nat
  g : Int
def Av.v (a : Av) : Value := .agg #[.slice a.A1 a.n1 a.c1, .slice a.A2 a.n2 a.c2, .int .u64 a.g]
def Av.zero : Av := ⟨none, 0, 0, none, 0, 0, 0⟩
/-- its two rows lie where it says -/
structure AvIs (w : World) (a : Av) (z : Al) : Prop where
  r1 : SRow w w.heap.size a.A1 (z.ms.map mk)
  r2 : SRow w w.heap.size a.A2 (z.hs.map mk)
  e1 : a.n1 = z.ms.length
  e2 : a.n2 = z.hs.length
  g : a.g = (z.age : Int)
  l1 : z.ms.length ≤ maxLen
  l2 : z.hs.length ≤ maxLen
theorem srow_up {w w' : World} {B B' : Nat} {A : Option Addr} {xs : List ByteArray} (h : SRow w B A xs) (hb : Below B w w') (hB : B ≤ B') : SRow w' B' A xs := by
  intro j x hj
  obtain ⟨ad, e, h1, hc⟩ := h j x hj
  exact ⟨ad, e, by omega, (hb.cell (p := ad.add j) (by unfold Addr.add; split <;> exact h1)).trans hc⟩
theorem AvIs.below {w w' : World} {a : Av} {z : Al} (h : AvIs w a z) (hb : Below w.heap.size w w') : AvIs w' a z :=
  ⟨srow_up h.r1 hb hb.size, srow_up h.r2 hb hb.size, h.e1, h.e2, h.g, h.l1, h.l2⟩
theorem AvIs.zero (w : World) : AvIs w Av.zero Al.zero :=
  ⟨fun j x h => by simp [Al.zero] at h, fun j x h => by simp [Al.zero] at h, rfl, rfl, rfl, by simp [Al.zero], by simp [Al.zero]⟩
theorem datB_mk (l : List (List UInt8)) : datB (l.map mk) = l := by
  unfold datB
  rw [List.map_map]
  conv => rhs; rw [← List.map_id l]
  apply List.map_congr_left
  intro x _
  exact mk_data x

/-- it lies in a block -/
structure AlAt (W : World) (g : Nat) (a : Av) : Prop where
  c0 : W.cell? ⟨g, 0, none⟩ = some (.slice a.A1 a.n1 a.c1)
  c1 : W.cell? ⟨g, 1, none⟩ = some (.slice a.A2 a.n2 a.c2)
  c2 : W.cell? ⟨g, 2, none⟩ = some (.int .u64 a.g)
  own : ∀ i, W.frozen? ⟨g, i, none⟩ = false
theorem AlAt.lt {W : World} {g : Nat} {a : Av} (o : AlAt W g a) : g < W.heap.size := block_of_cell o.c0
theorem AlAt.below {W W' : World} {g B : Nat} {a : Av} (o : AlAt W g a) (hb : Below B W W') (hg : g < B) : AlAt W' g a :=
  ⟨(hb.cell hg).trans o.c0, (hb.cell hg).trans o.c1, (hb.cell hg).trans o.c2, fun i => (hb.frozen hg).trans (o.own i)⟩
theorem AlAt.up {W W' : World} {g : Nat} {a : Av} (o : AlAt W g a) (hb : Below W.heap.size W W') : AlAt W' g a := o.below hb o.lt
theorem AlAt.new (w : World) (a : Av) (t : TypeId) : AlAt (w.alloc (.cells #[.slice a.A1 a.n1 a.c1, .slice a.A2 a.n2 a.c2, .int .u64 a.g] t)) w.heap.size a := ⟨by simp, by simp, by simp, fun i => by simp⟩
theorem al_keep {W : World} {g i j : Nat} {u v : Value} (h : W.cell? ⟨g, i, none⟩ = some u) (hij : j ≠ i) : (W.setCell ⟨g, j, none⟩ v).cell? ⟨g, i, none⟩ = some u :=
  (World.cell?_setCell_other W ⟨g, j, none⟩ ⟨g, i, none⟩ v (by intro e; cases e; exact hij rfl)).trans h
def AlAt.put (W : World) (g : Nat) (a : Av) : World :=
  ((W.setCell ⟨g, 0, none⟩ (.slice a.A1 a.n1 a.c1)).setCell ⟨g, 1, none⟩ (.slice a.A2 a.n2 a.c2)).setCell ⟨g, 2, none⟩ (.int .u64 a.g)
theorem AlAt.set0 {W : World} {g : Nat} {a : Av} (o : AlAt W g a) (A : Option Addr) (n c : Nat) : AlAt (W.setCell ⟨g, 0, none⟩ (.slice A n c)) g { a with A1 := A, n1 := n, c1 := c } :=
  ⟨World.cell?_setCell_same _ _ _ o.c0, al_keep o.c1 (by decide), al_keep o.c2 (by decide), fun i => by rw [World.frozen?_setCell]; exact o.own i⟩
theorem AlAt.set1 {W : World} {g : Nat} {a : Av} (o : AlAt W g a) (A : Option Addr) (n c : Nat) : AlAt (W.setCell ⟨g, 1, none⟩ (.slice A n c)) g { a with A2 := A, n2 := n, c2 := c } :=
  ⟨al_keep o.c0 (by decide), World.cell?_setCell_same _ _ _ o.c1, al_keep o.c2 (by decide), fun i => by rw [World.frozen?_setCell]; exact o.own i⟩
theorem AlAt.set2 {W : World} {g : Nat} {a : Av} (o : AlAt W g a) (n : Int) : AlAt (W.setCell ⟨g, 2, none⟩ (.int .u64 n)) g { a with g := n } :=
  ⟨al_keep o.c0 (by decide), al_keep o.c1 (by decide), World.cell?_setCell_same _ _ _ o.c2, fun i => by rw [World.frozen?_setCell]; exact o.own i⟩
theorem AlAt.put_at {W : World} {g : Nat} {z : Av} (o : AlAt W g z) (a : Av) : AlAt (AlAt.put W g a) g a := ((o.set0 a.A1 a.n1 a.c1).set1 a.A2 a.n2 a.c2).set2 a.g
theorem AlAt.put_below {B : Nat} {w W : World} {g : Nat} (h : Below B w W) (hg : B ≤ g) (a : Av) : Below B w (AlAt.put W g a) := ((h.setCell hg _).setCell hg _).setCell hg _
end Go.Proofs.YtnoiciakbbkngaaDoor
