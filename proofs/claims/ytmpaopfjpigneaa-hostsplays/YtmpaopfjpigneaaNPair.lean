/-
  The program's table and the document's own beside one another: what holds all through, and the contracts in these words. No conditions beyond those of each statement.
-/
import Derived.Test.YtmpaopfjpigneaaNAwake
import Derived.Test.YtmpaopfjpigneaaNRef3
namespace Go.Proofs.Ytmpaopfjpigneaa
open Go.RowKit

/-- two tables with no block in common, all of them new -/
structure PairAt (w W : World) (g gm M : Nat) (v vm : Value) (l lm : List Ho) : Prop where
  t : TbAt 57 W g M v l
  m : TbAt 59 W gm M vm lm
  b : Below w.heap.size w W
  g0 : w.heap.size ≤ g
  g1 : w.heap.size ≤ gm
  v0 : ∀ x ∈ ownL v, w.heap.size ≤ x
  v1 : ∀ x ∈ ownL vm, w.heap.size ≤ x
  d : Disj g gm v vm
theorem PairAt.stepT {w W W' : World} {g gm M : Nat} {v vm v' : Value} {l lm l' : List Ho} (h : PairAt w W g gm M v vm l lm) (t : TbAt 57 W' g M v' l') (o : Only (g :: ownL v) W W') (hv : ∀ x ∈ ownL v', x ∈ ownL v ∨ W.heap.size ≤ x) : PairAt w W' g gm M v' vm l' lm := by
  have ho := h.d.off
  exact ⟨t, h.m.only o ho.1 ho.2, Only.below h.b o h.b.size (fun x hx => by rcases List.mem_cons.1 hx with rfl | h1; exact h.g0; exact h.v0 x h1), h.g0, h.g1, fun x hx => by rcases hv x hx with h1 | h1; exact h.v0 x h1; exact Nat.le_trans h.b.size h1, h.v1,
    h.d.grow hv h.m.head.lt (fun x hx => (h.m.own hx).2)⟩
theorem PairAt.stepM {w W W' : World} {g gm M : Nat} {v vm v' : Value} {l lm l' : List Ho} (h : PairAt w W g gm M v vm l lm) (m : TbAt 59 W' gm M v' l') (o : Only (gm :: ownL vm) W W') (hv : ∀ x ∈ ownL v', x ∈ ownL vm ∨ W.heap.size ≤ x) : PairAt w W' g gm M v v' l l' := by
  have ho := h.d.symm.off
  exact ⟨h.t.only o ho.1 ho.2, m, Only.below h.b o h.b.size (fun x hx => by rcases List.mem_cons.1 hx with rfl | h1; exact h.g1; exact h.v1 x h1), h.g0, h.g1, h.v0, fun x hx => by rcases hv x hx with h1 | h1; exact h.v1 x h1; exact Nat.le_trans h.b.size h1,
    (h.d.symm.grow hv h.t.head.lt (fun x hx => (h.t.own hx).2)).symm⟩
theorem PairAt.old {w W W' : World} {g gm M : Nat} {v vm : Value} {l lm : List Ho} (h : PairAt w W g gm M v vm l lm) (o : Only [] W W') : PairAt w W' g gm M v vm l lm :=
  h.stepT (h.t.old o) (o.mono (by simp)) (fun x hx => .inl hx)
/-- the cells of a call that was read -/
structure HoCall (w : World) (g : Nat) (o : Int) (k : ByteArray) : Prop where
  c0 : w.cell? ⟨g, 0, none⟩ = some (.int .i64 o)
  c1 : w.cell? ⟨g, 1, none⟩ = some (.string k)
theorem HoCall.lt {w : World} {g : Nat} {o : Int} {k : ByteArray} (h : HoCall w g o k) : g < w.heap.size := block_of_cell (a := ⟨g, 0, none⟩) h.c0
theorem HoCall.only {f : List Nat} {w w' : World} {g : Nat} {o : Int} {k : ByteArray} (h : HoCall w g o k) (p : Only f w w') (hn : g ∉ f) : HoCall w' g o k :=
  ⟨(p.cell (p := ⟨g, 0, none⟩) h.lt hn).trans h.c0, (p.cell (p := ⟨g, 1, none⟩) h.lt hn).trans h.c1⟩
/-- two tables, and a call that was read beside them -/
structure PlayAt (w W : World) (g gm M : Nat) (v vm : Value) (l lm : List Ho) (gc : Nat) (o : Int) (k : ByteArray) : Prop where
  p : PairAt w W g gm M v vm l lm
  c : HoCall W gc o k
  n0 : gc ≠ g
  n1 : gc ≠ gm
  n2 : gc ∉ ownL v
  n3 : gc ∉ ownL vm
section
variable {w W : World} {g gm M gc : Nat} {v vm : Value} {l lm : List Ho} {o : Int} {k : ByteArray}
theorem PlayAt.stepT {W' : World} {v' : Value} {l' : List Ho} (h : PlayAt w W g gm M v vm l lm gc o k) (t : TbAt 57 W' g M v' l') (p : Only (g :: ownL v) W W') (hv : ∀ x ∈ ownL v', x ∈ ownL v ∨ W.heap.size ≤ x) : PlayAt w W' g gm M v' vm l' lm gc o k :=
  ⟨h.p.stepT t p hv, h.c.only p (by intro hm; rcases List.mem_cons.1 hm with h1 | h1; exact h.n0 h1; exact h.n2 h1), h.n0, h.n1, (by intro hm; rcases hv _ hm with h1 | h1; exact h.n2 h1; exact absurd h.c.lt (Nat.not_lt.2 h1)), h.n3⟩
theorem PlayAt.stepM {W' : World} {v' : Value} {l' : List Ho} (h : PlayAt w W g gm M v vm l lm gc o k) (t : TbAt 59 W' gm M v' l') (p : Only (gm :: ownL vm) W W') (hv : ∀ x ∈ ownL v', x ∈ ownL vm ∨ W.heap.size ≤ x) : PlayAt w W' g gm M v v' l l' gc o k :=
  ⟨h.p.stepM t p hv, h.c.only p (by intro hm; rcases List.mem_cons.1 hm with h1 | h1; exact h.n1 h1; exact h.n3 h1), h.n0, h.n1, h.n2, (by intro hm; rcases hv _ hm with h1 | h1; exact h.n3 h1; exact absurd h.c.lt (Nat.not_lt.2 h1))⟩
theorem PlayAt.old {W' : World} (h : PlayAt w W g gm M v vm l lm gc o k) (p : Only [] W W') : PlayAt w W' g gm M v vm l lm gc o k :=
  h.stepT (h.p.t.old p) (p.mono (by simp)) (fun x hx => .inl hx)
theorem pUse_any (key : ByteArray) (h : PlayAt w W g gm M v vm l lm gc o k) :
    Calls Try.prog 14 #[.pointer (some ⟨g, 0, none⟩), .string key] W fun e W' => e = .returned (.tuple #[.string (useG M l key), .int .i64 (useC M l key : Int)]) ∧ ∃ v', PlayAt w W' g gm M v' vm (useS M l key) lm gc o k :=
  (hUse_any g M v l key W h.p.t).mono fun _ _ ⟨e, v', t, p, hv⟩ => ⟨e, v', h.stepT t p hv⟩
theorem qUse_any (key : ByteArray) (h : PlayAt w W g gm M v vm l lm gc o k) :
    Calls Try.prog 15 #[.pointer (some ⟨gm, 0, none⟩), .string key] W fun e W' => e = .returned (.tuple #[.string (useG M lm key), .int .i64 (useC M lm key : Int)]) ∧ ∃ v', PlayAt w W' g gm M v v' l (useS M lm key) gc o k :=
  (tUse_any gm M vm lm key W h.p.m).mono fun _ _ ⟨e, v', t, p, hv⟩ => ⟨e, v', h.stepM t p hv⟩
theorem pFree_any (key : ByteArray) (h : PlayAt w W g gm M v vm l lm gc o k) :
    Calls Try.prog 12 #[.pointer (some ⟨g, 0, none⟩), .string key] W fun e W' => e = .returned (.int .i64 (freeC l key : Int)) ∧ PlayAt w W' g gm M v vm (freeS l key) lm gc o k :=
  (hFree_any g M v l key W h.p.t).mono fun _ _ ⟨e, t, p⟩ => ⟨e, h.stepT t (p.mono (fun _ hx => List.mem_cons_of_mem _ hx)) (fun _ hx => .inl hx)⟩
theorem qFree_any (key : ByteArray) (h : PlayAt w W g gm M v vm l lm gc o k) :
    Calls Try.prog 13 #[.pointer (some ⟨gm, 0, none⟩), .string key] W fun e W' => e = .returned (.int .i64 (freeC lm key : Int)) ∧ PlayAt w W' g gm M v vm l (freeS lm key) gc o k :=
  (tFree_any gm M vm lm key W h.p.m).mono fun _ _ ⟨e, t, p⟩ => ⟨e, h.stepM t (p.mono (fun _ hx => List.mem_cons_of_mem _ hx)) (fun _ hx => .inl hx)⟩
end
end Go.Proofs.Ytmpaopfjpigneaa
