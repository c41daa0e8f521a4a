/-
  What a call may turn: but for some blocks nothing that was there; two objects that have no block in common. They speak of any program. No conditions.
-/
import Derived.Test.YtcljmdpnbfefbaaKBase
import Derived.Laws.AppendOwn
import Derived.Laws.OwnMore
namespace Go.Proofs.Ytcljmdpnbfefbaa
open Go.RowKit

/-- but for the blocks of s nothing that was there has turned -/
structure Only (s : List Nat) (w w' : World) : Prop where
  os : w'.os = w.os
  tape : w'.tape = w.tape
  output : w'.output = w.output
  size : w.heap.size ≤ w'.heap.size
  block : ∀ k, k < w.heap.size → k ∉ s → w'.heap[k]? = w.heap[k]?
theorem Only.refl (s : List Nat) (w : World) : Only s w w := ⟨rfl, rfl, rfl, Nat.le_refl _, fun _ _ _ => rfl⟩
theorem Only.next {s s' : List Nat} {a b c : World} (h : Only s a b) (k : Only s' b c) (hs : ∀ x ∈ s', x ∈ s ∨ a.heap.size ≤ x) : Only s a c :=
  ⟨k.os.trans h.os, k.tape.trans h.tape, k.output.trans h.output, Nat.le_trans h.size k.size, fun i hi hn => (k.block i (Nat.lt_of_lt_of_le hi h.size) (fun hm => by rcases hs i hm with h1 | h1; exact hn h1; omega)).trans (h.block i hi hn)⟩
theorem Only.trans {s : List Nat} {a b c : World} (h : Only s a b) (k : Only s b c) : Only s a c := h.next k fun _ hx => .inl hx
theorem Only.mono {s s' : List Nat} {a b : World} (h : Only s a b) (hs : ∀ x ∈ s, x ∈ s') : Only s' a b := ⟨h.os, h.tape, h.output, h.size, fun i hi hn => h.block i hi fun hm => hn (hs i hm)⟩
theorem Only.alloc {s : List Nat} {a w : World} (h : Only s a w) (o : Obj) : Only s a (w.alloc o) :=
  h.trans ⟨rfl, rfl, rfl, by simp, fun _ hk _ => Below.heap_alloc _ _ _ hk⟩
theorem Only.drew {s : List Nat} {a w : World} (h : Only s a w) : Only s a w.drew := ⟨h.os, h.tape, h.output, h.size, h.block⟩
theorem Only.drewN {s : List Nat} {a w : World} (h : Only s a w) (n : Nat) : Only s a (w.drewN n) := ⟨h.os, h.tape, h.output, h.size, h.block⟩
theorem Only.of_drew {s : List Nat} {a w : World} (h : Only s a.drew w) : Only s a w := ⟨h.os, h.tape, h.output, h.size, h.block⟩
theorem Only.of_drewN {s : List Nat} {a w : World} {n : Nat} (h : Only s (a.drewN n) w) : Only s a w := ⟨h.os, h.tape, h.output, h.size, h.block⟩
theorem Only.setCell {s : List Nat} {a w : World} (h : Only s a w) {p : Addr} (hp : p.block ∈ s) (u : Value) : Only s a (w.setCell p u) :=
  h.trans ⟨rfl, rfl, rfl, by simp [World.setCell], fun k _ hn => Below.heap_setCell _ _ _ _ (by rintro rfl; exact hn hp)⟩
theorem Only.setNew {s : List Nat} {a w : World} (h : Only s a w) {p : Addr} (hp : a.heap.size ≤ p.block) (u : Value) : Only s a (w.setCell p u) :=
  h.next (s' := [p.block]) ⟨rfl, rfl, rfl, by simp [World.setCell], fun k _ hn => Below.heap_setCell _ _ _ _ (by rintro rfl; simp at hn)⟩ (by intro x hx; simp at hx; subst hx; exact .inr hp)
theorem Only.of_below {w w' : World} (h : Below w.heap.size w w') (s : List Nat) : Only s w w' := ⟨h.os, h.tape, h.output, h.size, fun k hk _ => h.block k hk⟩
theorem Only.of_grown {w w' : World} {g : Nat} (h : w.grownBy w' (some g)) : Only [g] w w' := ⟨h.os, h.tape, h.output, h.size, fun k hk hn => h.block k hk (by intro e; apply hn; simp at e; subst e; simp)⟩
theorem Only.of_grown_own {w w' : World} {row : Option Nat} {s : List Nat} (h : w.grownBy w' row) (hs : ∀ g, row = some g → g ∈ s) : Only s w w' := ⟨h.os, h.tape, h.output, h.size, fun k hk hn => h.block k hk (by intro e; exact hn (hs k e.symm))⟩
theorem Only.below {s : List Nat} {B : Nat} {a b c : World} (h : Below B a b) (k : Only s b c) (hB : B ≤ b.heap.size) (hs : ∀ x ∈ s, B ≤ x) : Below B a c :=
  h.trans ⟨k.os, k.tape, k.output, k.size, fun i hi => k.block i (by omega) fun hm => by have := hs i hm; omega⟩
theorem Only.cell {s : List Nat} {w w' : World} (h : Only s w w') {p : Addr} (hp : p.block < w.heap.size) (hn : p.block ∉ s) : w'.cell? p = w.cell? p := World.cell?_of_block (w := w) (h.block p.block hp hn)
theorem Only.frozen {s : List Nat} {w w' : World} (h : Only s w w') {p : Addr} (hp : p.block < w.heap.size) (hn : p.block ∉ s) : w'.frozen? p = w.frozen? p := World.frozen?_of_block (w := w) (h.block p.block hp hn)
theorem Only.owns {s : List Nat} {w w' : World} {base : Nat} {e : TypeId} {size : Nat} {v : Value} {n : Nat} {xs : List Value} (hw : w.ownsRow base e size v n xs) (h : Only s w w') (hn : ∀ g, v.ownBlock = some g → g ∉ s) : w'.ownsRow base e size v n xs := by
  refine ⟨hw.1, ?_⟩
  rcases hw.2 with h2 | ⟨g, cap, cur, e1, e2, e3, e4⟩
  · exact .inl h2
  · have hlt : g < w.heap.size := (Array.getElem?_eq_some_iff.1 e3).1
    exact .inr ⟨g, cap, cur, e1, e2, (h.block g hlt (hn g (by rw [e1]; rfl))).trans e3, e4⟩
theorem Only.to_below {s : List Nat} {a c : World} (k : Only s a c) (hs : ∀ x ∈ s, a.heap.size ≤ x) : Below a.heap.size a c := Only.below (Below.refl _ _) k (Nat.le_refl _) hs
/-- what has turned lies above B -/
theorem Only.above {s : List Nat} {B : Nat} {a b c : World} (h : Below B a b) (k : Only s b c) (hB : B ≤ a.heap.size) (hs : ∀ x ∈ s, B ≤ x) : Below B a c := Only.below h k (Nat.le_trans hB h.size) hs
def ownL (v : Value) : List Nat := v.ownBlock.toList
theorem mem_ownL {v : Value} {g : Nat} : g ∈ ownL v ↔ v.ownBlock = some g := by
  unfold ownL; cases v.ownBlock <;> simp [eq_comm]
/-- two objects have no block in common -/
structure Disj (gx gy : Nat) (vx vy : Value) : Prop where
  ne : gx ≠ gy
  x : ∀ g ∈ ownL vx, g ≠ gy ∧ g ∉ ownL vy
  y : ∀ g ∈ ownL vy, g ≠ gx
theorem Disj.off {gx gy : Nat} {vx vy : Value} (h : Disj gx gy vx vy) : gy ∉ gx :: ownL vx ∧ ∀ g ∈ ownL vy, g ∉ gx :: ownL vx := by
  constructor
  · intro hm
    rcases List.mem_cons.1 hm with h1 | h1
    · exact h.ne h1.symm
    · exact (h.x _ h1).1 rfl
  · intro g hg hm
    rcases List.mem_cons.1 hm with h1 | h1
    · exact h.y g hg h1
    · exact (h.x g h1).2 hg
theorem Disj.symm {gx gy : Nat} {vx vy : Value} (h : Disj gx gy vx vy) : Disj gy gx vy vx :=
  ⟨h.ne.symm, fun g hg => ⟨h.y g hg, fun hm => (h.x g hm).2 hg⟩, fun g hg => (h.x g hg).1⟩
theorem Disj.grow {gx gy B : Nat} {vx vy vx' : Value} (h : Disj gx gy vx vy) (hg : ∀ g ∈ ownL vx', g ∈ ownL vx ∨ B ≤ g) (hy : gy < B) (hv : ∀ g ∈ ownL vy, g < B) : Disj gx gy vx' vy := by
  refine ⟨h.ne, ?_, h.y⟩
  intro g hm
  rcases hg g hm with h1 | h1
  · exact h.x g h1
  · exact ⟨by omega, fun h2 => by have := hv g h2; omega⟩
end Go.Proofs.Ytcljmdpnbfefbaa
