/-
  A request as a block of ten cells, its parts as one of eleven, what a preflight wants as one of five; what holds of them whatever makes new memory, or writes elsewhere. No conditions beyond those of each statement.
-/
import Derived.Test.YticedcnmajcgbaaGreatDoorAMath
import Derived.Test.YticedcnmajcgbaaGreatDoorLTgt
import Derived.Test.YticedcnmajcgbaaGreatDoorLRef7
namespace Go.Proofs.YticedcnmajcgbaaGreatDoor
open Go.RowKit

/-- the library's variables and the tables of methods -/
structure Env8 (w : World) : Prop where
  e : Env w
  m : MEnv w
theorem Env8.below {w w' : World} (h : Env8 w) (hb : Below w.heap.size w w') : Env8 w' := ⟨h.e.below hb, h.m.below hb⟩

/-- no cell of block g is frozen -/
def OwnB (W : World) (g : Nat) : Prop := ∀ i, W.frozen? ⟨g, i, none⟩ = false
theorem OwnB.below {W W' : World} {g B : Nat} (o : OwnB W g) (hb : Below B W W') (hg : g < B) : OwnB W' g := fun i => (hb.frozen hg).trans (o i)
theorem OwnB.new (w : World) (cs : Array Value) (t : TypeId) : OwnB (w.alloc (.cells cs t)) w.heap.size := fun i => by simp
theorem OwnB.set {W : World} {g : Nat} (o : OwnB W g) (a : Addr) (v : Value) : OwnB (W.setCell a v) g := fun i => by rw [World.frozen?_setCell]; exact o i

/-- a request as a value -/
structure Rv where
  m : ByteArray
  u : ByteArray
  o : ByteArray
  mode : Int
  cr : Bool
  A : Option Addr
  n : Nat
  c : Nat
  xs : List (ByteArray × ByteArray)
  cl : Int
  tm : Int
  gr : Int
  sg : Int
def Rv.v (r : Rv) : Value := .agg #[.string r.m, .string r.u, .string r.o, .int .i64 r.mode, .bool r.cr, .slice r.A r.n r.c, .int .i64 r.cl, .int .u64 r.tm, .int .i64 r.gr, .int .i64 r.sg]
def Rv.q (r : Rv) : Rq := ⟨r.m.data.toList, r.u.data.toList, r.o.data.toList, r.mode, r.cr, r.xs.map hd, r.cl, r.tm, r.gr, r.sg⟩
def Rv.zero : Rv := ⟨⟨#[]⟩, ⟨#[]⟩, ⟨#[]⟩, 0, false, none, 0, 0, [], 0, 0, 0, 0⟩
theorem Rv.zero_q : Rv.zero.q = Rq.zero := rfl
/-- its headers lie where it says, and are not too many; its texts are such as any -/
structure RqOk (w : World) (r : Rv) : Prop where
  row : PRow w w.heap.size r.A r.xs
  len : r.n = r.xs.length
  sm : Sm (r.xs.map hd)
  hm : r.m.size ≤ maxLen
  hu : r.u.size ≤ maxLen
  ho : r.o.size ≤ maxLen
theorem RqOk.below {w w' : World} {r : Rv} (h : RqOk w r) (hb : Below w.heap.size w w') : RqOk w' r := ⟨(h.row.below hb).mono hb.size, h.len, h.sm, h.hm, h.hu, h.ho⟩
theorem RqOk.zero (w : World) : RqOk w Rv.zero := ⟨PRow.nil _ _ _, rfl, ⟨by simp [Rv.zero], by simp [Rv.zero]⟩, by decide, by decide, by decide⟩
/-- its parts as a value -/
structure Pv where
  a : ByteArray
  b : ByteArray
  n : Int
  c : ByteArray
  d : ByteArray
  s : ByteArray
  h : ByteArray
  k : Int
  N : Option Addr
  nn : Nat
  cn : Nat
  x : Bool
  y : Bool
def Pv.v (p : Pv) : Value := .agg #[.string p.a, .string p.b, .int .i64 p.n, .string p.c, .string p.d, .string p.s, .string p.h, .int .i64 p.k, .slice p.N p.nn p.cn, .bool p.x, .bool p.y]
def Pv.zero : Pv := ⟨⟨#[]⟩, ⟨#[]⟩, 0, ⟨#[]⟩, ⟨#[]⟩, ⟨#[]⟩, ⟨#[]⟩, 0, none, 0, 0, false, false⟩
structure PvIs (q : Rq) (p : Pv) : Prop where
  url : urlOf p.a p.b p.n p.c p.d = urlQ q
  org : (p.s.data.toList, p.h.data.toList, p.k) = fromQ q
  x : p.x = crossQ q
  y : p.y = plainQ q
  hb : p.b.size ≤ 512
  hc : p.c.size ≤ 512
  hd : p.d.size ≤ 512
  hh : p.h.size ≤ 512
theorem PvIs.zero {q : Rq} (h : ¬ askI q = 0) : PvIs q Pv.zero :=
  ⟨by rw [urlQ, if_neg h]; rfl, by rw [fromQ, if_neg h]; rfl, by rw [crossQ, if_neg h]; rfl, by rw [plainQ, if_neg h]; rfl, by decide, by decide, by decide, by decide⟩
/-- what a preflight wants, as a value -/
structure Wv where
  o : ByteArray
  u : ByteArray
  cr : Bool
  m : ByteArray
  n : ByteArray
def Wv.v (z : Wv) : Value := .agg #[.string z.o, .string z.u, .bool z.cr, .string z.m, .string z.n]
def Wv.zero : Wv := ⟨⟨#[]⟩, ⟨#[]⟩, false, ⟨#[]⟩, ⟨#[]⟩⟩
def wvOf (w : Wq) : Wv := ⟨mk w.o, mk w.u, w.cr, mk w.m, mk w.n⟩

structure RqAt (W : World) (g : Nat) (r : Rv) : Prop where
  c0 : W.cell? ⟨g, 0, none⟩ = some (.string r.m)
  c1 : W.cell? ⟨g, 1, none⟩ = some (.string r.u)
  c2 : W.cell? ⟨g, 2, none⟩ = some (.string r.o)
  c3 : W.cell? ⟨g, 3, none⟩ = some (.int .i64 r.mode)
  c4 : W.cell? ⟨g, 4, none⟩ = some (.bool r.cr)
  c5 : W.cell? ⟨g, 5, none⟩ = some (.slice r.A r.n r.c)
  c6 : W.cell? ⟨g, 6, none⟩ = some (.int .i64 r.cl)
  c7 : W.cell? ⟨g, 7, none⟩ = some (.int .u64 r.tm)
  c8 : W.cell? ⟨g, 8, none⟩ = some (.int .i64 r.gr)
  c9 : W.cell? ⟨g, 9, none⟩ = some (.int .i64 r.sg)
theorem RqAt.below {W W' : World} {g B : Nat} {r : Rv} (o : RqAt W g r) (hb : Below B W W') (hg : g < B) : RqAt W' g r :=
  ⟨(hb.cell hg).trans o.c0, (hb.cell hg).trans o.c1, (hb.cell hg).trans o.c2, (hb.cell hg).trans o.c3, (hb.cell hg).trans o.c4, (hb.cell hg).trans o.c5, (hb.cell hg).trans o.c6, (hb.cell hg).trans o.c7, (hb.cell hg).trans o.c8, (hb.cell hg).trans o.c9⟩
theorem RqAt.new (w : World) (r : Rv) (t : TypeId) : RqAt (w.alloc (.cells #[.string r.m, .string r.u, .string r.o, .int .i64 r.mode, .bool r.cr, .slice r.A r.n r.c, .int .i64 r.cl, .int .u64 r.tm, .int .i64 r.gr, .int .i64 r.sg] t)) w.heap.size r := ⟨by simp, by simp, by simp, by simp, by simp, by simp, by simp, by simp, by simp, by simp⟩
theorem RqAt.lt {W : World} {g : Nat} {r : Rv} (o : RqAt W g r) : g < W.heap.size := block_of_cell o.c0
theorem RqAt.other {W : World} {g g' j : Nat} {r : Rv} {v : Value} (o : RqAt W g r) (hg : g ≠ g') : RqAt (W.setCell ⟨g', j, none⟩ v) g r :=
  ⟨(cell_other hg).trans o.c0, (cell_other hg).trans o.c1, (cell_other hg).trans o.c2, (cell_other hg).trans o.c3, (cell_other hg).trans o.c4, (cell_other hg).trans o.c5, (cell_other hg).trans o.c6, (cell_other hg).trans o.c7, (cell_other hg).trans o.c8, (cell_other hg).trans o.c9⟩
def RqAt.put (W : World) (g : Nat) (r : Rv) : World :=
  ((((((((((W.setCell ⟨g, 0, none⟩ (.string r.m)).setCell ⟨g, 1, none⟩ (.string r.u)).setCell ⟨g, 2, none⟩ (.string r.o)).setCell ⟨g, 3, none⟩ (.int .i64 r.mode)).setCell ⟨g, 4, none⟩ (.bool r.cr)).setCell ⟨g, 5, none⟩ (.slice r.A r.n r.c)).setCell ⟨g, 6, none⟩ (.int .i64 r.cl)).setCell ⟨g, 7, none⟩ (.int .u64 r.tm)).setCell ⟨g, 8, none⟩ (.int .i64 r.gr)).setCell ⟨g, 9, none⟩ (.int .i64 r.sg))
theorem RqAt.put_at {W : World} {g : Nat} {z : Rv} (o : RqAt W g z) (r : Rv) : RqAt (RqAt.put W g r) g r := by
  obtain ⟨c0, c1, c2, c3, c4, c5, c6, c7, c8, c9⟩ := o
  have d0 := c0
  have d1 := cell_keep (v := .string r.m) (c1) (j := 0) (by decide)
  have d2 := cell_keep (v := .string r.u) (cell_keep (v := .string r.m) (c2) (j := 0) (by decide)) (j := 1) (by decide)
  have d3 := cell_keep (v := .string r.o) (cell_keep (v := .string r.u) (cell_keep (v := .string r.m) (c3) (j := 0) (by decide)) (j := 1) (by decide)) (j := 2) (by decide)
  have d4 := cell_keep (v := .int .i64 r.mode) (cell_keep (v := .string r.o) (cell_keep (v := .string r.u) (cell_keep (v := .string r.m) (c4) (j := 0) (by decide)) (j := 1) (by decide)) (j := 2) (by decide)) (j := 3) (by decide)
  have d5 := cell_keep (v := .bool r.cr) (cell_keep (v := .int .i64 r.mode) (cell_keep (v := .string r.o) (cell_keep (v := .string r.u) (cell_keep (v := .string r.m) (c5) (j := 0) (by decide)) (j := 1) (by decide)) (j := 2) (by decide)) (j := 3) (by decide)) (j := 4) (by decide)
  have d6 := cell_keep (v := .slice r.A r.n r.c) (cell_keep (v := .bool r.cr) (cell_keep (v := .int .i64 r.mode) (cell_keep (v := .string r.o) (cell_keep (v := .string r.u) (cell_keep (v := .string r.m) (c6) (j := 0) (by decide)) (j := 1) (by decide)) (j := 2) (by decide)) (j := 3) (by decide)) (j := 4) (by decide)) (j := 5) (by decide)
  have d7 := cell_keep (v := .int .i64 r.cl) (cell_keep (v := .slice r.A r.n r.c) (cell_keep (v := .bool r.cr) (cell_keep (v := .int .i64 r.mode) (cell_keep (v := .string r.o) (cell_keep (v := .string r.u) (cell_keep (v := .string r.m) (c7) (j := 0) (by decide)) (j := 1) (by decide)) (j := 2) (by decide)) (j := 3) (by decide)) (j := 4) (by decide)) (j := 5) (by decide)) (j := 6) (by decide)
  have d8 := cell_keep (v := .int .u64 r.tm) (cell_keep (v := .int .i64 r.cl) (cell_keep (v := .slice r.A r.n r.c) (cell_keep (v := .bool r.cr) (cell_keep (v := .int .i64 r.mode) (cell_keep (v := .string r.o) (cell_keep (v := .string r.u) (cell_keep (v := .string r.m) (c8) (j := 0) (by decide)) (j := 1) (by decide)) (j := 2) (by decide)) (j := 3) (by decide)) (j := 4) (by decide)) (j := 5) (by decide)) (j := 6) (by decide)) (j := 7) (by decide)
  have d9 := cell_keep (v := .int .i64 r.gr) (cell_keep (v := .int .u64 r.tm) (cell_keep (v := .int .i64 r.cl) (cell_keep (v := .slice r.A r.n r.c) (cell_keep (v := .bool r.cr) (cell_keep (v := .int .i64 r.mode) (cell_keep (v := .string r.o) (cell_keep (v := .string r.u) (cell_keep (v := .string r.m) (c9) (j := 0) (by decide)) (j := 1) (by decide)) (j := 2) (by decide)) (j := 3) (by decide)) (j := 4) (by decide)) (j := 5) (by decide)) (j := 6) (by decide)) (j := 7) (by decide)) (j := 8) (by decide)
  refine ⟨?_, ?_, ?_, ?_, ?_, ?_, ?_, ?_, ?_, ?_⟩
  · exact cell_keep (cell_keep (cell_keep (cell_keep (cell_keep (cell_keep (cell_keep (cell_keep (cell_keep (World.cell?_setCell_same _ _ _ d0) (by decide)) (by decide)) (by decide)) (by decide)) (by decide)) (by decide)) (by decide)) (by decide)) (by decide)
  · exact cell_keep (cell_keep (cell_keep (cell_keep (cell_keep (cell_keep (cell_keep (cell_keep (World.cell?_setCell_same _ _ _ d1) (by decide)) (by decide)) (by decide)) (by decide)) (by decide)) (by decide)) (by decide)) (by decide)
  · exact cell_keep (cell_keep (cell_keep (cell_keep (cell_keep (cell_keep (cell_keep (World.cell?_setCell_same _ _ _ d2) (by decide)) (by decide)) (by decide)) (by decide)) (by decide)) (by decide)) (by decide)
  · exact cell_keep (cell_keep (cell_keep (cell_keep (cell_keep (cell_keep (World.cell?_setCell_same _ _ _ d3) (by decide)) (by decide)) (by decide)) (by decide)) (by decide)) (by decide)
  · exact cell_keep (cell_keep (cell_keep (cell_keep (cell_keep (World.cell?_setCell_same _ _ _ d4) (by decide)) (by decide)) (by decide)) (by decide)) (by decide)
  · exact cell_keep (cell_keep (cell_keep (cell_keep (World.cell?_setCell_same _ _ _ d5) (by decide)) (by decide)) (by decide)) (by decide)
  · exact cell_keep (cell_keep (cell_keep (World.cell?_setCell_same _ _ _ d6) (by decide)) (by decide)) (by decide)
  · exact cell_keep (cell_keep (World.cell?_setCell_same _ _ _ d7) (by decide)) (by decide)
  · exact cell_keep (World.cell?_setCell_same _ _ _ d8) (by decide)
  · exact World.cell?_setCell_same _ _ _ d9
theorem RqAt.put_below {B : Nat} {w W : World} {g : Nat} (h : Below B w W) (hg : B ≤ g) (r : Rv) : Below B w (RqAt.put W g r) :=
  ((((((((((h.setCell hg _).setCell hg _).setCell hg _).setCell hg _).setCell hg _).setCell hg _).setCell hg _).setCell hg _).setCell hg _).setCell hg _)
theorem RqAt.besideRqAt {W : World} {g g' : Nat} {q : Rv} (o : RqAt W g q) (hg : g ≠ g') (r : Rv) : RqAt (RqAt.put W g' r) g q :=
  ((((((((((o.other hg).other hg).other hg).other hg).other hg).other hg).other hg).other hg).other hg).other hg)
structure PtAt (W : World) (g : Nat) (p : Pv) : Prop where
  c0 : W.cell? ⟨g, 0, none⟩ = some (.string p.a)
  c1 : W.cell? ⟨g, 1, none⟩ = some (.string p.b)
  c2 : W.cell? ⟨g, 2, none⟩ = some (.int .i64 p.n)
  c3 : W.cell? ⟨g, 3, none⟩ = some (.string p.c)
  c4 : W.cell? ⟨g, 4, none⟩ = some (.string p.d)
  c5 : W.cell? ⟨g, 5, none⟩ = some (.string p.s)
  c6 : W.cell? ⟨g, 6, none⟩ = some (.string p.h)
  c7 : W.cell? ⟨g, 7, none⟩ = some (.int .i64 p.k)
  c8 : W.cell? ⟨g, 8, none⟩ = some (.slice p.N p.nn p.cn)
  c9 : W.cell? ⟨g, 9, none⟩ = some (.bool p.x)
  c10 : W.cell? ⟨g, 10, none⟩ = some (.bool p.y)
theorem PtAt.below {W W' : World} {g B : Nat} {p : Pv} (o : PtAt W g p) (hb : Below B W W') (hg : g < B) : PtAt W' g p :=
  ⟨(hb.cell hg).trans o.c0, (hb.cell hg).trans o.c1, (hb.cell hg).trans o.c2, (hb.cell hg).trans o.c3, (hb.cell hg).trans o.c4, (hb.cell hg).trans o.c5, (hb.cell hg).trans o.c6, (hb.cell hg).trans o.c7, (hb.cell hg).trans o.c8, (hb.cell hg).trans o.c9, (hb.cell hg).trans o.c10⟩
theorem PtAt.new (w : World) (p : Pv) (t : TypeId) : PtAt (w.alloc (.cells #[.string p.a, .string p.b, .int .i64 p.n, .string p.c, .string p.d, .string p.s, .string p.h, .int .i64 p.k, .slice p.N p.nn p.cn, .bool p.x, .bool p.y] t)) w.heap.size p := ⟨by simp, by simp, by simp, by simp, by simp, by simp, by simp, by simp, by simp, by simp, by simp⟩
theorem PtAt.lt {W : World} {g : Nat} {p : Pv} (o : PtAt W g p) : g < W.heap.size := block_of_cell o.c0
theorem PtAt.other {W : World} {g g' j : Nat} {p : Pv} {v : Value} (o : PtAt W g p) (hg : g ≠ g') : PtAt (W.setCell ⟨g', j, none⟩ v) g p :=
  ⟨(cell_other hg).trans o.c0, (cell_other hg).trans o.c1, (cell_other hg).trans o.c2, (cell_other hg).trans o.c3, (cell_other hg).trans o.c4, (cell_other hg).trans o.c5, (cell_other hg).trans o.c6, (cell_other hg).trans o.c7, (cell_other hg).trans o.c8, (cell_other hg).trans o.c9, (cell_other hg).trans o.c10⟩
def PtAt.put (W : World) (g : Nat) (p : Pv) : World :=
  (((((((((((W.setCell ⟨g, 0, none⟩ (.string p.a)).setCell ⟨g, 1, none⟩ (.string p.b)).setCell ⟨g, 2, none⟩ (.int .i64 p.n)).setCell ⟨g, 3, none⟩ (.string p.c)).setCell ⟨g, 4, none⟩ (.string p.d)).setCell ⟨g, 5, none⟩ (.string p.s)).setCell ⟨g, 6, none⟩ (.string p.h)).setCell ⟨g, 7, none⟩ (.int .i64 p.k)).setCell ⟨g, 8, none⟩ (.slice p.N p.nn p.cn)).setCell ⟨g, 9, none⟩ (.bool p.x)).setCell ⟨g, 10, none⟩ (.bool p.y))
theorem PtAt.put_at {W : World} {g : Nat} {z : Pv} (o : PtAt W g z) (p : Pv) : PtAt (PtAt.put W g p) g p := by
  obtain ⟨c0, c1, c2, c3, c4, c5, c6, c7, c8, c9, c10⟩ := o
  have d0 := c0
  have d1 := cell_keep (v := .string p.a) (c1) (j := 0) (by decide)
  have d2 := cell_keep (v := .string p.b) (cell_keep (v := .string p.a) (c2) (j := 0) (by decide)) (j := 1) (by decide)
  have d3 := cell_keep (v := .int .i64 p.n) (cell_keep (v := .string p.b) (cell_keep (v := .string p.a) (c3) (j := 0) (by decide)) (j := 1) (by decide)) (j := 2) (by decide)
  have d4 := cell_keep (v := .string p.c) (cell_keep (v := .int .i64 p.n) (cell_keep (v := .string p.b) (cell_keep (v := .string p.a) (c4) (j := 0) (by decide)) (j := 1) (by decide)) (j := 2) (by decide)) (j := 3) (by decide)
  have d5 := cell_keep (v := .string p.d) (cell_keep (v := .string p.c) (cell_keep (v := .int .i64 p.n) (cell_keep (v := .string p.b) (cell_keep (v := .string p.a) (c5) (j := 0) (by decide)) (j := 1) (by decide)) (j := 2) (by decide)) (j := 3) (by decide)) (j := 4) (by decide)
  have d6 := cell_keep (v := .string p.s) (cell_keep (v := .string p.d) (cell_keep (v := .string p.c) (cell_keep (v := .int .i64 p.n) (cell_keep (v := .string p.b) (cell_keep (v := .string p.a) (c6) (j := 0) (by decide)) (j := 1) (by decide)) (j := 2) (by decide)) (j := 3) (by decide)) (j := 4) (by decide)) (j := 5) (by decide)
  have d7 := cell_keep (v := .string p.h) (cell_keep (v := .string p.s) (cell_keep (v := .string p.d) (cell_keep (v := .string p.c) (cell_keep (v := .int .i64 p.n) (cell_keep (v := .string p.b) (cell_keep (v := .string p.a) (c7) (j := 0) (by decide)) (j := 1) (by decide)) (j := 2) (by decide)) (j := 3) (by decide)) (j := 4) (by decide)) (j := 5) (by decide)) (j := 6) (by decide)
  have d8 := cell_keep (v := .int .i64 p.k) (cell_keep (v := .string p.h) (cell_keep (v := .string p.s) (cell_keep (v := .string p.d) (cell_keep (v := .string p.c) (cell_keep (v := .int .i64 p.n) (cell_keep (v := .string p.b) (cell_keep (v := .string p.a) (c8) (j := 0) (by decide)) (j := 1) (by decide)) (j := 2) (by decide)) (j := 3) (by decide)) (j := 4) (by decide)) (j := 5) (by decide)) (j := 6) (by decide)) (j := 7) (by decide)
  have d9 := cell_keep (v := .slice p.N p.nn p.cn) (cell_keep (v := .int .i64 p.k) (cell_keep (v := .string p.h) (cell_keep (v := .string p.s) (cell_keep (v := .string p.d) (cell_keep (v := .string p.c) (cell_keep (v := .int .i64 p.n) (cell_keep (v := .string p.b) (cell_keep (v := .string p.a) (c9) (j := 0) (by decide)) (j := 1) (by decide)) (j := 2) (by decide)) (j := 3) (by decide)) (j := 4) (by decide)) (j := 5) (by decide)) (j := 6) (by decide)) (j := 7) (by decide)) (j := 8) (by decide)
  have d10 := cell_keep (v := .bool p.x) (cell_keep (v := .slice p.N p.nn p.cn) (cell_keep (v := .int .i64 p.k) (cell_keep (v := .string p.h) (cell_keep (v := .string p.s) (cell_keep (v := .string p.d) (cell_keep (v := .string p.c) (cell_keep (v := .int .i64 p.n) (cell_keep (v := .string p.b) (cell_keep (v := .string p.a) (c10) (j := 0) (by decide)) (j := 1) (by decide)) (j := 2) (by decide)) (j := 3) (by decide)) (j := 4) (by decide)) (j := 5) (by decide)) (j := 6) (by decide)) (j := 7) (by decide)) (j := 8) (by decide)) (j := 9) (by decide)
  refine ⟨?_, ?_, ?_, ?_, ?_, ?_, ?_, ?_, ?_, ?_, ?_⟩
  · exact cell_keep (cell_keep (cell_keep (cell_keep (cell_keep (cell_keep (cell_keep (cell_keep (cell_keep (cell_keep (World.cell?_setCell_same _ _ _ d0) (by decide)) (by decide)) (by decide)) (by decide)) (by decide)) (by decide)) (by decide)) (by decide)) (by decide)) (by decide)
  · exact cell_keep (cell_keep (cell_keep (cell_keep (cell_keep (cell_keep (cell_keep (cell_keep (cell_keep (World.cell?_setCell_same _ _ _ d1) (by decide)) (by decide)) (by decide)) (by decide)) (by decide)) (by decide)) (by decide)) (by decide)) (by decide)
  · exact cell_keep (cell_keep (cell_keep (cell_keep (cell_keep (cell_keep (cell_keep (cell_keep (World.cell?_setCell_same _ _ _ d2) (by decide)) (by decide)) (by decide)) (by decide)) (by decide)) (by decide)) (by decide)) (by decide)
  · exact cell_keep (cell_keep (cell_keep (cell_keep (cell_keep (cell_keep (cell_keep (World.cell?_setCell_same _ _ _ d3) (by decide)) (by decide)) (by decide)) (by decide)) (by decide)) (by decide)) (by decide)
  · exact cell_keep (cell_keep (cell_keep (cell_keep (cell_keep (cell_keep (World.cell?_setCell_same _ _ _ d4) (by decide)) (by decide)) (by decide)) (by decide)) (by decide)) (by decide)
  · exact cell_keep (cell_keep (cell_keep (cell_keep (cell_keep (World.cell?_setCell_same _ _ _ d5) (by decide)) (by decide)) (by decide)) (by decide)) (by decide)
  · exact cell_keep (cell_keep (cell_keep (cell_keep (World.cell?_setCell_same _ _ _ d6) (by decide)) (by decide)) (by decide)) (by decide)
  · exact cell_keep (cell_keep (cell_keep (World.cell?_setCell_same _ _ _ d7) (by decide)) (by decide)) (by decide)
  · exact cell_keep (cell_keep (World.cell?_setCell_same _ _ _ d8) (by decide)) (by decide)
  · exact cell_keep (World.cell?_setCell_same _ _ _ d9) (by decide)
  · exact World.cell?_setCell_same _ _ _ d10
theorem PtAt.put_below {B : Nat} {w W : World} {g : Nat} (h : Below B w W) (hg : B ≤ g) (p : Pv) : Below B w (PtAt.put W g p) :=
  (((((((((((h.setCell hg _).setCell hg _).setCell hg _).setCell hg _).setCell hg _).setCell hg _).setCell hg _).setCell hg _).setCell hg _).setCell hg _).setCell hg _)
theorem RqAt.besidePtAt {W : World} {g g' : Nat} {q : Rv} (o : RqAt W g q) (hg : g ≠ g') (p : Pv) : RqAt (PtAt.put W g' p) g q :=
  (((((((((((o.other hg).other hg).other hg).other hg).other hg).other hg).other hg).other hg).other hg).other hg).other hg)
theorem PtAt.besidePtAt {W : World} {g g' : Nat} {q : Pv} (o : PtAt W g q) (hg : g ≠ g') (p : Pv) : PtAt (PtAt.put W g' p) g q :=
  (((((((((((o.other hg).other hg).other hg).other hg).other hg).other hg).other hg).other hg).other hg).other hg).other hg)
structure WtAt (W : World) (g : Nat) (z : Wv) : Prop where
  c0 : W.cell? ⟨g, 0, none⟩ = some (.string z.o)
  c1 : W.cell? ⟨g, 1, none⟩ = some (.string z.u)
  c2 : W.cell? ⟨g, 2, none⟩ = some (.bool z.cr)
  c3 : W.cell? ⟨g, 3, none⟩ = some (.string z.m)
  c4 : W.cell? ⟨g, 4, none⟩ = some (.string z.n)
theorem WtAt.below {W W' : World} {g B : Nat} {z : Wv} (o : WtAt W g z) (hb : Below B W W') (hg : g < B) : WtAt W' g z :=
  ⟨(hb.cell hg).trans o.c0, (hb.cell hg).trans o.c1, (hb.cell hg).trans o.c2, (hb.cell hg).trans o.c3, (hb.cell hg).trans o.c4⟩
theorem WtAt.new (w : World) (z : Wv) (t : TypeId) : WtAt (w.alloc (.cells #[.string z.o, .string z.u, .bool z.cr, .string z.m, .string z.n] t)) w.heap.size z := ⟨by simp, by simp, by simp, by simp, by simp⟩
theorem WtAt.lt {W : World} {g : Nat} {z : Wv} (o : WtAt W g z) : g < W.heap.size := block_of_cell o.c0
theorem WtAt.other {W : World} {g g' j : Nat} {z : Wv} {v : Value} (o : WtAt W g z) (hg : g ≠ g') : WtAt (W.setCell ⟨g', j, none⟩ v) g z :=
  ⟨(cell_other hg).trans o.c0, (cell_other hg).trans o.c1, (cell_other hg).trans o.c2, (cell_other hg).trans o.c3, (cell_other hg).trans o.c4⟩
def WtAt.put (W : World) (g : Nat) (z : Wv) : World :=
  (((((W.setCell ⟨g, 0, none⟩ (.string z.o)).setCell ⟨g, 1, none⟩ (.string z.u)).setCell ⟨g, 2, none⟩ (.bool z.cr)).setCell ⟨g, 3, none⟩ (.string z.m)).setCell ⟨g, 4, none⟩ (.string z.n))
theorem WtAt.put_at {W : World} {g : Nat} {z : Wv} (o : WtAt W g z) (z : Wv) : WtAt (WtAt.put W g z) g z := by
  obtain ⟨c0, c1, c2, c3, c4⟩ := o
  have d0 := c0
  have d1 := cell_keep (v := .string z.o) (c1) (j := 0) (by decide)
  have d2 := cell_keep (v := .string z.u) (cell_keep (v := .string z.o) (c2) (j := 0) (by decide)) (j := 1) (by decide)
  have d3 := cell_keep (v := .bool z.cr) (cell_keep (v := .string z.u) (cell_keep (v := .string z.o) (c3) (j := 0) (by decide)) (j := 1) (by decide)) (j := 2) (by decide)
  have d4 := cell_keep (v := .string z.m) (cell_keep (v := .bool z.cr) (cell_keep (v := .string z.u) (cell_keep (v := .string z.o) (c4) (j := 0) (by decide)) (j := 1) (by decide)) (j := 2) (by decide)) (j := 3) (by decide)
  refine ⟨?_, ?_, ?_, ?_, ?_⟩
  · exact cell_keep (cell_keep (cell_keep (cell_keep (World.cell?_setCell_same _ _ _ d0) (by decide)) (by decide)) (by decide)) (by decide)
  · exact cell_keep (cell_keep (cell_keep (World.cell?_setCell_same _ _ _ d1) (by decide)) (by decide)) (by decide)
  · exact cell_keep (cell_keep (World.cell?_setCell_same _ _ _ d2) (by decide)) (by decide)
  · exact cell_keep (World.cell?_setCell_same _ _ _ d3) (by decide)
  · exact World.cell?_setCell_same _ _ _ d4
theorem WtAt.put_below {B : Nat} {w W : World} {g : Nat} (h : Below B w W) (hg : B ≤ g) (z : Wv) : Below B w (WtAt.put W g z) :=
  (((((h.setCell hg _).setCell hg _).setCell hg _).setCell hg _).setCell hg _)
theorem RqAt.besideWtAt {W : World} {g g' : Nat} {q : Rv} (o : RqAt W g q) (hg : g ≠ g') (z : Wv) : RqAt (WtAt.put W g' z) g q :=
  (((((o.other hg).other hg).other hg).other hg).other hg)
theorem PtAt.besideWtAt {W : World} {g g' : Nat} {q : Pv} (o : PtAt W g q) (hg : g ≠ g') (z : Wv) : PtAt (WtAt.put W g' z) g q :=
  (((((o.other hg).other hg).other hg).other hg).other hg)
theorem WtAt.besideWtAt {W : World} {g g' : Nat} {q : Wv} (o : WtAt W g q) (hg : g ≠ g') (z : Wv) : WtAt (WtAt.put W g' z) g q :=
  (((((o.other hg).other hg).other hg).other hg).other hg)
theorem RqAt.set0 {W : World} {g : Nat} {r : Rv} (o : RqAt W g r) (x : ByteArray) : RqAt (W.setCell ⟨g, 0, none⟩ (.string x)) g { r with m := x } :=
  ⟨World.cell?_setCell_same _ _ _ o.c0, cell_keep o.c1 (by decide), cell_keep o.c2 (by decide), cell_keep o.c3 (by decide), cell_keep o.c4 (by decide), cell_keep o.c5 (by decide), cell_keep o.c6 (by decide), cell_keep o.c7 (by decide), cell_keep o.c8 (by decide), cell_keep o.c9 (by decide)⟩
theorem RqAt.set1 {W : World} {g : Nat} {r : Rv} (o : RqAt W g r) (x : ByteArray) : RqAt (W.setCell ⟨g, 1, none⟩ (.string x)) g { r with u := x } :=
  ⟨cell_keep o.c0 (by decide), World.cell?_setCell_same _ _ _ o.c1, cell_keep o.c2 (by decide), cell_keep o.c3 (by decide), cell_keep o.c4 (by decide), cell_keep o.c5 (by decide), cell_keep o.c6 (by decide), cell_keep o.c7 (by decide), cell_keep o.c8 (by decide), cell_keep o.c9 (by decide)⟩
theorem RqAt.set2 {W : World} {g : Nat} {r : Rv} (o : RqAt W g r) (x : ByteArray) : RqAt (W.setCell ⟨g, 2, none⟩ (.string x)) g { r with o := x } :=
  ⟨cell_keep o.c0 (by decide), cell_keep o.c1 (by decide), World.cell?_setCell_same _ _ _ o.c2, cell_keep o.c3 (by decide), cell_keep o.c4 (by decide), cell_keep o.c5 (by decide), cell_keep o.c6 (by decide), cell_keep o.c7 (by decide), cell_keep o.c8 (by decide), cell_keep o.c9 (by decide)⟩
theorem RqAt.set5 {W : World} {g : Nat} {r : Rv} (o : RqAt W g r) (A : Option Addr) (n c : Nat) (xs : List (ByteArray × ByteArray)) : RqAt (W.setCell ⟨g, 5, none⟩ (.slice A n c)) g { r with A := A, n := n, c := c, xs := xs } :=
  ⟨cell_keep o.c0 (by decide), cell_keep o.c1 (by decide), cell_keep o.c2 (by decide), cell_keep o.c3 (by decide), cell_keep o.c4 (by decide), World.cell?_setCell_same _ _ _ o.c5, cell_keep o.c6 (by decide), cell_keep o.c7 (by decide), cell_keep o.c8 (by decide), cell_keep o.c9 (by decide)⟩
theorem OwnB.rq {W : World} {g g' : Nat} (o : OwnB W g) (r : Rv) : OwnB (RqAt.put W g' r) g := ((((((((((o.set _ _).set _ _).set _ _).set _ _).set _ _).set _ _).set _ _).set _ _).set _ _).set _ _)
theorem OwnB.pt {W : World} {g g' : Nat} (o : OwnB W g) (p : Pv) : OwnB (PtAt.put W g' p) g := (((((((((((o.set _ _).set _ _).set _ _).set _ _).set _ _).set _ _).set _ _).set _ _).set _ _).set _ _).set _ _)
theorem OwnB.wt {W : World} {g g' : Nat} (o : OwnB W g) (z : Wv) : OwnB (WtAt.put W g' z) g := (((((o.set _ _).set _ _).set _ _).set _ _).set _ _)
theorem own_set {w : World} {base : Nat} {e : TypeId} {size : Nat} {v : Value} {n : Nat} {xs : List Value} (h : w.ownsRow base e size v n xs) {g j : Nat} {u : Value} (hg : g < base) : (w.setCell ⟨g, j, none⟩ u).ownsRow base e size v n xs := by
  refine ⟨h.1, ?_⟩
  rcases h.2 with hn | ⟨b, cap, cur, hv, hb, hc, rest⟩
  · exact .inl hn
  · exact .inr ⟨b, cap, cur, hv, hb, (Below.heap_setCell _ _ _ _ (by show b ≠ g; omega)).trans hc, rest⟩
theorem own_rq {w : World} {base : Nat} {e : TypeId} {size : Nat} {v : Value} {n : Nat} {xs : List Value} (h : w.ownsRow base e size v n xs) {g : Nat} (hg : g < base) (r : Rv) : (RqAt.put w g r).ownsRow base e size v n xs := (own_set (own_set (own_set (own_set (own_set (own_set (own_set (own_set (own_set (own_set h hg) hg) hg) hg) hg) hg) hg) hg) hg) hg)
theorem own_pt {w : World} {base : Nat} {e : TypeId} {size : Nat} {v : Value} {n : Nat} {xs : List Value} (h : w.ownsRow base e size v n xs) {g : Nat} (hg : g < base) (p : Pv) : (PtAt.put w g p).ownsRow base e size v n xs := (own_set (own_set (own_set (own_set (own_set (own_set (own_set (own_set (own_set (own_set (own_set h hg) hg) hg) hg) hg) hg) hg) hg) hg) hg) hg)
theorem own_wt {w : World} {base : Nat} {e : TypeId} {size : Nat} {v : Value} {n : Nat} {xs : List Value} (h : w.ownsRow base e size v n xs) {g : Nat} (hg : g < base) (z : Wv) : (WtAt.put w g z).ownsRow base e size v n xs := (own_set (own_set (own_set (own_set (own_set h hg) hg) hg) hg) hg)
end Go.Proofs.YticedcnmajcgbaaGreatDoor
