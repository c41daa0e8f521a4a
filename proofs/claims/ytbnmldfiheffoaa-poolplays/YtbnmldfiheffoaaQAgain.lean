/-
  The contract of Pool.again over this seat's program: a range over slices.Backward whose body takes the connection out and returns. Conditions: the pool lies there, not more than a hundred connections of each kind.
-/
import Derived.Test.YtbnmldfiheffoaaQBack
namespace Go.Proofs.Ytbnmldfiheffoaa
open Go.RowKit Go.Shelf

/-- a block that holds no cells turns, from B on -/
def Turn (B : Nat) (W W' : World) (row : Option Nat) : Prop := W.grownBy W' row ∧ ∀ r, row = some r → B ≤ r ∧ ∃ o : Obj, W.heap[r]? = some o ∧ o.isCells = false
theorem Turn.only {B : Nat} {W W' : World} {row : Option Nat} (h : Turn B W W' row) : ∃ f, Only f W W' ∧ ∀ x ∈ f, B ≤ x ∧ ∃ o : Obj, W.heap[x]? = some o ∧ o.isCells = false := by
  refine ⟨row.toList, Only.of_grown_own h.1 (fun g hg => by rw [hg]; simp), fun x hx => h.2 x (by simpa using hx)⟩
theorem block_cells {W : World} {b o : Nat} {u : Value} (h : W.cell? ⟨b, o, none⟩ = some u) {q : Obj} (hq : W.heap[b]? = some q) : q.isCells = true := by
  unfold World.cell? at h
  rw [hq] at h
  cases q <;> first | rfl | simp at h
theorem row_cells_obj {e : TypeId} {W : World} {base sz n : Nat} {v : Value} {xs : List Value} (h : W.ownsRow base e sz v n xs) {b : Nat} (hb : b ∈ ownL v) {q : Obj} (hq : W.heap[b]? = some q) : q.isCells = true := by
  rcases h.2 with ⟨h1, _⟩ | ⟨g, cap, cur, e1, _, e3, _⟩
  · rw [h1] at hb; simp [ownL, Value.ownBlock] at hb
  · rw [e1] at hb
    simp [ownL, Value.ownBlock] at hb
    subst hb
    rw [hq] at e3
    injection e3 with e3
    subst e3
    rfl
theorem PoAt.allCells {W : World} {g gt : Nat} {vt vb vi : Value} {s : Pv} (h : PoAt W g gt vt vb vi s) {x : Nat} (hx : x ∈ footP g gt vt vb vi) {q : Obj} (hq : W.heap[x]? = some q) : q.isCells = true := by
  rcases mem_footP.1 hx with rfl | rfl | h1 | h1 | h1
  · exact block_cells h.hd.c0 hq
  · exact block_cells h.tb.head.c0 hq
  · exact row_cells_obj h.tb.row h1 hq
  · exact row_cells_obj h.rb h1 hq
  · exact row_cells_obj h.ri h1 hq
theorem PoAt.turn {B : Nat} {W W' : World} {row : Option Nat} {g gt : Nat} {vt vb vi : Value} {s : Pv} (h : PoAt W g gt vt vb vi s) (t : Turn B W W' row) : PoAt W' g gt vt vb vi s := by
  obtain ⟨f, hf, hb⟩ := t.only
  refine h.only hf fun x hx hm => ?_
  obtain ⟨_, o, ho, hc⟩ := hb x hm
  rw [h.allCells hx ho] at hc
  cases hc
theorem Only.turn {B : Nat} {f : List Nat} {w W W' : World} {row : Option Nat} (h : Only f w W) (t : Turn B W W' row) (hB : w.heap.size ≤ B) : Only f w W' := by
  obtain ⟨f2, hf, hb⟩ := t.only
  exact h.next hf fun x hx => .inr (Nat.le_trans hB (hb x hx).1)
theorem Turn.cell {B : Nat} {W W' : World} {row : Option Nat} (t : Turn B W W' row) {b o : Nat} {u : Value} (h : W.cell? ⟨b, o, none⟩ = some u) : W'.cell? ⟨b, o, none⟩ = some u ∧ W'.frozen? ⟨b, o, none⟩ = W.frozen? ⟨b, o, none⟩ := by
  obtain ⟨f, hf, hb⟩ := t.only
  have hn : b ∉ f := fun hm => by
    obtain ⟨_, q, hq, hc⟩ := hb b hm
    rw [block_cells h hq] at hc
    cases hc
  have hl := block_of_cell (a := ⟨b, o, none⟩) h
  exact ⟨(hf.cell (p := ⟨b, o, none⟩) hl hn).trans h, hf.frozen (p := ⟨b, o, none⟩) hl hn⟩
/-- the boxes of again: its pool, its key, its two results -/
structure Box4 (W : World) (b g : Nat) (k : ByteArray) (n : Int) (q : Bool) : Prop where
  p : W.cell? ⟨b, 0, none⟩ = some (.pointer (some ⟨g, 0, none⟩))
  k : W.cell? ⟨b + 1, 0, none⟩ = some (.string k)
  n : W.cell? ⟨b + 2, 0, none⟩ = some (.int .i64 n)
  q : W.cell? ⟨b + 3, 0, none⟩ = some (.bool q)
  zn : W.frozen? ⟨b + 2, 0, none⟩ = false
  zq : W.frozen? ⟨b + 3, 0, none⟩ = false
section
variable {W W' : World} {b g : Nat} {k : ByteArray} {n : Int} {q : Bool}
theorem Box4.only {f : List Nat} (h : Box4 W b g k n q) (o : Only f W W') (hf : ∀ x ∈ f, x < b ∨ b + 4 ≤ x) : Box4 W' b g k n q := by
  have m0 : b ∉ f := fun h => by have := hf _ h; omega
  have m1 : b + 1 ∉ f := fun h => by have := hf _ h; omega
  have m2 : b + 2 ∉ f := fun h => by have := hf _ h; omega
  have m3 : b + 3 ∉ f := fun h => by have := hf _ h; omega
  exact ⟨(o.cell (p := ⟨b, 0, none⟩) (block_of_cell (a := ⟨b, 0, none⟩) h.p) m0).trans h.p, (o.cell (p := ⟨b + 1, 0, none⟩) (block_of_cell (a := ⟨b + 1, 0, none⟩) h.k) m1).trans h.k,
    (o.cell (p := ⟨b + 2, 0, none⟩) (block_of_cell (a := ⟨b + 2, 0, none⟩) h.n) m2).trans h.n, (o.cell (p := ⟨b + 3, 0, none⟩) (block_of_cell (a := ⟨b + 3, 0, none⟩) h.q) m3).trans h.q,
    (o.frozen (p := ⟨b + 2, 0, none⟩) (block_of_cell (a := ⟨b + 2, 0, none⟩) h.n) m2).trans h.zn, (o.frozen (p := ⟨b + 3, 0, none⟩) (block_of_cell (a := ⟨b + 3, 0, none⟩) h.q) m3).trans h.zq⟩
theorem Box4.turn {B : Nat} {row : Option Nat} (h : Box4 W b g k n q) (t : Turn B W W' row) : Box4 W' b g k n q :=
  ⟨(t.cell h.p).1, (t.cell h.k).1, (t.cell h.n).1, (t.cell h.q).1, (t.cell h.n).2.trans h.zn, (t.cell h.q).2.trans h.zq⟩
theorem Box4.set (h : Box4 W b g k n q) (n' : Int) (q' : Bool) : Box4 ((W.setCell ⟨b + 2, 0, none⟩ (.int .i64 n')).setCell ⟨b + 3, 0, none⟩ (.bool q')) b g k n' q' := by
  refine ⟨?_, ?_, ?_, ?_, ?_, ?_⟩
  · rw [World.cell?_setCell_other _ _ _ _ (by simp), World.cell?_setCell_other _ _ _ _ (by simp)]; exact h.p
  · rw [World.cell?_setCell_other _ _ _ _ (by simp), World.cell?_setCell_other _ _ _ _ (by simp)]; exact h.k
  · rw [World.cell?_setCell_other _ _ _ _ (by simp)]; exact World.cell?_setCell_same _ _ _ h.n
  · refine World.cell?_setCell_same _ _ _ (u := .bool q) ?_
    rw [World.cell?_setCell_other _ _ _ _ (by simp)]; exact h.q
  · rw [World.frozen?_setCell, World.frozen?_setCell]; exact h.zn
  · rw [World.frozen?_setCell, World.frozen?_setCell]; exact h.zq
end
/-- the box of the loop's connection -/
structure LBox (W : World) (b : Nat) (x : Cn) : Prop where
  c0 : W.cell? ⟨b, 0, none⟩ = some (.int .i64 (x.n : Int))
  c1 : W.cell? ⟨b, 1, none⟩ = some (.string x.k)
  c2 : W.cell? ⟨b, 2, none⟩ = some (.int .u64 (x.u : Int))
theorem LBox.only {W W' : World} {b : Nat} {x : Cn} {f : List Nat} (h : LBox W b x) (o : Only f W W') (hf : b ∉ f) : LBox W' b x :=
  have hl := block_of_cell (a := ⟨b, 0, none⟩) h.c0
  ⟨(o.cell (p := ⟨b, 0, none⟩) hl hf).trans h.c0, (o.cell (p := ⟨b, 1, none⟩) hl hf).trans h.c1, (o.cell (p := ⟨b, 2, none⟩) hl hf).trans h.c2⟩
theorem LBox.turn {W W' : World} {b B : Nat} {x : Cn} {row : Option Nat} (h : LBox W b x) (t : Turn B W W' row) : LBox W' b x := ⟨(t.cell h.c0).1, (t.cell h.c1).1, (t.cell h.c2).1⟩
/-- between two rounds -/
def AgI (w w0 : World) (g gt : Nat) (vt vb vi : Value) (s : Pv) (k : ByteArray) (pre : List (Pl s.i.length)) (W : World) : Prop :=
  (∀ y ∈ pre, ckeyB k (nthC s.i y.1) = false) ∧ PoAt W g gt vt vb vi s ∧ Box4 W w.heap.size g k 0 false ∧ Only [] w0 W
/-- behind the round that returns -/
def AgX (w : World) (g gt : Nat) (vt vb vi : Value) (s : Pv) (k : ByteArray) (c : Code) (pre : List (Pl s.i.length)) (W : World) : Prop :=
  c = .ret ∧ ∃ ini x, pre = ini ++ [x] ∧ (∀ y ∈ ini, ckeyB k (nthC s.i y.1) = false) ∧ ckeyB k (nthC s.i x.1) = true ∧ PoStep w W g gt vt vb vi (againP x.1 s) ∧ Box4 W w.heap.size g k ((nthC s.i x.1).n : Int) true
theorem AgI.own {w w0 : World} {g gt : Nat} {vt vb vi : Value} {s : Pv} {k : ByteArray} {B : Nat} (hB : w0.heap.size ≤ B) : OwnFrom B (AgI w w0 g gt vt vb vi s k) := fun _ W W' row hs hg hr =>
  have t : Turn B W W' row := ⟨hg, hr⟩
  ⟨hs.1, hs.2.1.turn t, hs.2.2.1.turn t, hs.2.2.2.turn t hB⟩
theorem AgX.own {w : World} {g gt : Nat} {vt vb vi : Value} {s : Pv} {k : ByteArray} {B : Nat} (hB : w.heap.size ≤ B) (c : Code) : OwnFrom B (AgX w g gt vt vb vi s k c) := fun pre W W' row hs hg hr => by
  have t : Turn B W W' row := ⟨hg, hr⟩
  obtain ⟨hc, ini, x, e1, e2, e3, ⟨a, b, c', p, o, r⟩, bx⟩ := hs
  exact ⟨hc, ini, x, e1, e2, e3, ⟨a, b, c', p.turn t, o.turn t hB, r⟩, bx.turn t⟩
theorem keeps_of_only {B : Nat} {f : List Nat} {W W' : World} (o : Only f W W') (hf : ∀ x ∈ f, ∀ q, W.heap[x]? = some q → q.isCells = true) : KeepsFrom B W W' :=
  ⟨o.size, fun k q _ hq hc => (o.block k (Array.getElem?_eq_some_iff.1 hq).1 (fun hm => by rw [hf k hm q hq] at hc; cases hc)).trans hq⟩

set_option maxRecDepth 100000 in
set_option maxHeartbeats 4000000 in
theorem pAgain_any (g gt : Nat) (vt vb vi : Value) (s : Pv) (k : ByteArray) (w : World) (h : PoAt w g gt vt vb vi s) (hb : s.b.length ≤ 100) (hi : s.i.length ≤ 100) :
    Calls Try.prog 33 #[.pointer (some ⟨g, 0, none⟩), .string k] w fun e w' =>
      (∃ j, lastO (ckeyB k) s.i = some j ∧ e = .returned (.tuple #[.int .i64 ((nthC s.i j).n : Int), .bool true]) ∧ PoStep w w' g gt vt vb vi (againP j s)) ∨
      (lastO (ckeyB k) s.i = none ∧ e = .returned (.tuple #[.int .i64 0, .bool false]) ∧ PoStep w w' g gt vt vb vi s) := by
  obtain ⟨Ab, capb, rfl, hb1, hb2⟩ := h.rb.slice
  obtain ⟨Ai, capi, rfl, hi1, hi2⟩ := h.ri.slice
  unfold maxLen at hb2 hi2
  have HP := Lib.hid h
  have hc5 := h.hd.c5
  have hgl := h.hd.lt
  obtain ⟨W4, hW4⟩ : ∃ W4, W4 = (((w.alloc (.cells #[.pointer (some ⟨g, 0, none⟩)] 26)).alloc (.cells #[.string k] 9)).alloc (.cells #[.int .i64 0] 3)).alloc (.cells #[.bool false] 4) := ⟨_, rfl⟩
  have HO4 : Hid (Only [] w W4) := by show Only _ _ _; rw [hW4]; exact ((((Only.refl _ _).alloc _).alloc _).alloc _).alloc _
  have hd5 := (h.old HO4.out).hd.c5
  rw [hW4] at hd5
  clear h
  refine (callsIn_wide (n := 5)).1 ?_
  refine callsIn_of_wp_marks Try.func33 rfl trivial ?_ rfl
  simp only [Try.ntmps33, List.size_toArray, List.length_cons, List.length_nil, Nat.reduceAdd, Nat.reduceSub, Array.replicate_succ, Array.replicate_zero, List.push_toArray, List.append_toArray, List.nil_append, List.cons_append]
  gi_wp2_with fail
  refine ⟨trivial, ?_⟩
  rw [← hW4]
  refine CallsIn.mono (callsIn_wide.2 (back_any Ai s.i.length capi W4)) ?_
  rintro e w' ⟨rfl, hw'⟩
  have HB4 : Hid (Box4 W4 w.heap.size g k 0 false) := by
    show Box4 _ _ _ _ _ _
    rw [hW4]
    have e1 : ∀ (X : World) (q : Obj), (X.alloc q).heap.size = X.heap.size + 1 := fun X q => by simp
    have h1 : ∀ (X : World) (b : Nat) (u : Value) (t : TypeId), X.heap.size = b → (X.alloc (.cells #[u] t)).cell? ⟨b, 0, none⟩ = some u ∧ (X.alloc (.cells #[u] t)).frozen? ⟨b, 0, none⟩ = false := fun X b u t e => by subst e; exact ⟨by simp, by simp⟩
    have h2 : ∀ (X : World) (q : Obj) (b : Nat) (u : Value), X.cell? ⟨b, 0, none⟩ = some u → (X.alloc q).cell? ⟨b, 0, none⟩ = some u ∧ (X.alloc q).frozen? ⟨b, 0, none⟩ = X.frozen? ⟨b, 0, none⟩ := fun X q b u hc =>
      ⟨(((Only.refl [] X).alloc q).cell (p := ⟨b, 0, none⟩) (block_of_cell (a := ⟨b, 0, none⟩) hc) (by simp)).trans hc, ((Only.refl [] X).alloc q).frozen (p := ⟨b, 0, none⟩) (block_of_cell (a := ⟨b, 0, none⟩) hc) (by simp)⟩
    obtain ⟨X1, hX1⟩ : ∃ X1, X1 = w.alloc (.cells #[.pointer (some ⟨g, 0, none⟩)] 26) := ⟨_, rfl⟩
    obtain ⟨X2, hX2⟩ : ∃ X2, X2 = X1.alloc (.cells #[.string k] 9) := ⟨_, rfl⟩
    obtain ⟨X3, hX3⟩ : ∃ X3, X3 = X2.alloc (.cells #[.int .i64 0] 3) := ⟨_, rfl⟩
    rw [← hX1, ← hX2, ← hX3]
    have s1 : X1.heap.size = w.heap.size + 1 := by rw [hX1, e1]
    have s2 : X2.heap.size = w.heap.size + 2 := by rw [hX2, e1, s1]
    have s3 : X3.heap.size = w.heap.size + 3 := by rw [hX3, e1, s2]
    have p1 := h1 w w.heap.size (.pointer (some ⟨g, 0, none⟩)) 26 rfl
    rw [← hX1] at p1
    have p2 := h1 X1 (w.heap.size + 1) (.string k) 9 s1
    rw [← hX2] at p2
    have p3 := h1 X2 (w.heap.size + 2) (.int .i64 0) 3 s2
    rw [← hX3] at p3
    have p4 := h1 X3 (w.heap.size + 3) (.bool false) 4 s3
    have q1 := h2 X1 (.cells #[.string k] 9) w.heap.size _ p1.1
    rw [← hX2] at q1
    have q2 := h2 X2 (.cells #[.int .i64 0] 3) w.heap.size _ q1.1
    rw [← hX3] at q2
    have q3 := h2 X3 (.cells #[.bool false] 4) w.heap.size _ q2.1
    have r1 := h2 X2 (.cells #[.int .i64 0] 3) (w.heap.size + 1) _ p2.1
    rw [← hX3] at r1
    have r2 := h2 X3 (.cells #[.bool false] 4) (w.heap.size + 1) _ r1.1
    have t1 := h2 X3 (.cells #[.bool false] 4) (w.heap.size + 2) _ p3.1
    exact ⟨q3.1, r2.1, t1.1, p4.1, t1.2.trans p3.2, p4.2⟩
  have HS4 : Hid (W4.heap.size = w.heap.size + 4) := by show _ = _; rw [hW4]; simp
  have HO5 : Hid (Only [] W4 w') := by show Only _ _ _; rw [hw']; exact (Only.refl _ _).alloc _
  have HO5' : Hid (Only [] w w') := HO4.out.trans HO5.out
  have HB5 : Hid (Box4 w' w.heap.size g k 0 false) := HB4.out.only HO5.out (by simp)
  have HP5 := Lib.hid (HP.out.old (HO4.out.trans HO5.out))
  have HV5 : Hid (w'.cell? ⟨W4.heap.size, 0, none⟩ = some (.slice Ai s.i.length capi)) := by show _ = _; rw [hw']; simp
  have HN5 : Hid (w'.heap.size = w.heap.size + 5) := by show _ = _; rw [hw']; have := HS4.out; simp; omega
  have HI := Lib.hid hi
  have HBI := Lib.hid hb
  rw [HS4.out] at HV5 ⊢
  clear hw' hW4 hd5 hc5 HO4 HB4 HO5
  gi_wp2
  have hle : w.heap.size ≤ w'.heap.size := by have := HN5.out; omega
  refine wpIn_rangeFunc_ownH (n := 5) (gf := 64) (lb := #[.pointer (some ⟨w.heap.size + 4, 0, none⟩)]) rfl (by omega) rfl trivial (enters_of Try.func64 (by kernel_rfl) rfl)
    (back_stops 4 (w.heap.size + 4) _ s.i w' (by have := HI.out; omega) HV5.out HP5.out.ri) belowK_t (belowK_b (Nat.le_refl _)) (Below.refl _ _) (fun _ => rfl)
    (AgI w w' g gt vt (.slice Ab s.b.length capb) (.slice Ai s.i.length capi) s k) (AgX w g gt vt (.slice Ab s.b.length capb) (.slice Ai s.i.length capi) s k) (AgI.own (Nat.le_refl _)) (AgX.own hle)
    ⟨by simp, HP5.out, HB5.out, Only.refl _ _⟩
    (fun x a' W => ∃ Bl, w'.heap.size ≤ Bl ∧ LBox W Bl (nthC s.i x.1) ∧ a' = { tmps := #[.pointer (some ⟨g, 0, none⟩), .string k, .pointer (some ⟨w.heap.size, 0, none⟩), .pointer (some ⟨w.heap.size + 1, 0, none⟩), .pointer (some ⟨w.heap.size + 1 + 1, 0, none⟩), .pointer (some ⟨w.heap.size + 1 + 1 + 1, 0, none⟩), .int .i64 (x.1 : Int), .pointer (some ⟨Bl, 0, none⟩), .pointer (some ⟨g, 0, none⟩), .pointer (some ⟨g, 0, none⟩), .pointer (some ⟨g, 5, none⟩), .slice Ai s.i.length capi, .func (.func 64) #[] #[.pointer (some ⟨w.heap.size + 4, 0, none⟩)], .int .i64 (x.1 : Int), linkV (nthC s.i x.1), undef, undef, undef, undef, undef, undef, undef, undef, undef, undef, undef, undef, undef, undef, undef, undef, undef, undef, undef, undef, undef, undef, undef, undef, undef, undef, undef], defers := [] })
    (fun x a' _ W W' row hs hg hr => by
      obtain ⟨Bl, e1, e2, e3⟩ := hs
      exact ⟨Bl, e1, e2.turn (B := w'.heap.size) (row := row) ⟨hg, hr⟩, e3⟩) ?assign ?body ?done ?stop
  case assign =>
    intro l pre x W K hi hK
    have hlo : ¬ LetsOut (Exit.then K (fun _ _ _ => False)) := fun ⟨_, _, h⟩ => h
    have hsz := hi.2.2.2.size
    obtain ⟨y, hy⟩ : ∃ y, y = nthC s.i x.1 := ⟨_, rfl⟩
    have HK := Lib.hid hK
    have HIW := Lib.hid hi
    have HY := Lib.hid hy
    clear hK hi
    rw [← hy]
    clear hy
    obtain ⟨y1, y2, y3⟩ := y
    simp only [linkV]
    refine wpIn_seq_k fun K2 hK2 => ?_
    refine round_list (by kernel_rfl) (letsOut_then hlo) ?_
    show wpList _ _ _ [_] _ _
    go_wp2_with fail
    refine round_list (by kernel_rfl) hlo ?_
    show wpList _ _ _ [_, _] _ _
    go_wp2_with fail
    refine HK.out _ _ ((KeepsOthers.alloc _ _).from _) ((Below.refl _ W).alloc hsz _) ?_ ⟨W.heap.size, hsz, ?_, ?_⟩
    · exact ⟨HIW.out.1, HIW.out.2.1.old ((Only.refl _ _).alloc _), HIW.out.2.2.1.only ((Only.refl [] _).alloc _) (by simp), HIW.out.2.2.2.alloc _⟩
    · rw [← HY.out]
      exact ⟨by simp, by simp, by simp⟩
    · rw [← HY.out]
      rfl
  case body =>
    rintro l pre x a' W hl _ hI hA hlen
    obtain ⟨hpre, hp, hbx, ho⟩ := hI
    obtain ⟨Bl, hBl, hlb, rfl⟩ := hA
    have hlo : ¬ LetsOut (ownPostG w'.heap.size (Below w'.heap.size) (AgI w w' g gt vt (.slice Ab s.b.length capb) (.slice Ai s.i.length capi) s k) (AgX w g gt vt (.slice Ab s.b.length capb) (.slice Ai s.i.length capi) s k) (pre ++ [x]) W) := fun ⟨_, _, h⟩ => h
    have HPRE := Lib.hid hpre
    have HPW := Lib.hid hp
    have HBX := Lib.hid hbx
    have HOW := Lib.hid ho
    have HLB := Lib.hid hlb
    obtain ⟨c0, c1, c2⟩ := hlb
    have hbk := hbx.k
    have hbp := hbx.p
    obtain ⟨y, hy⟩ : ∃ y, y = nthC s.i x.1 := ⟨_, rfl⟩
    have HE : Hid ((y.k.toList == k.toList) = ckeyB k y) := rfl
    have HY := Lib.hid hy
    rw [← hy] at c0 c1 c2 ⊢
    obtain ⟨q, hq⟩ : ∃ q, q = ckeyB k y := ⟨_, rfl⟩
    rw [← hq] at HE
    have HQ := Lib.hid hq
    have he := HE.out
    clear hpre hp hbx ho hy hq
    obtain ⟨j, hjx⟩ : ∃ j, j = x.1 := ⟨_, rfl⟩
    have hjl : j < s.i.length := by rw [hjx]; exact x.2
    have HJ := Lib.hid hjx
    rw [← hjx]
    rw [← hjx] at HY HLB
    clear hjx
    obtain ⟨y1, y2, y3⟩ := y
    simp only [linkV] at c0 c1 c2 he HE ⊢
    refine wpIn_block (wpIn_seq_k fun K2 hK2 => ?_)
    refine round_list (by kernel_rfl) (letsOut_then (letsOut_inBlock hlo)) ?_
    show wpList _ _ _ [_, _, _, _] _ _
    go_wp2_with fail
    cases q with
    | false =>
      refine wpIn_cond_false rfl (wpIn_skip ?_)
      refine ⟨KeepsFrom.refl _ _, Below.refl _ _, ?_, HPW.out, HBX.out, HOW.out⟩
      intro z hz
      rcases List.mem_append.1 hz with h1 | h1
      · exact HPRE.out z h1
      · simp at h1
        subst h1
        rw [← HJ.out, ← HY.out]
        exact HQ.out.symm
    | true =>
      refine wpIn_cond_true rfl ?_
      clear hbk he c0 c1 c2
      obtain ⟨gi, cap2, e2, hgi, _, _⟩ := HPW.out.ri.some_ (by omega)
      obtain ⟨rfl, rfl⟩ : Ai = some ⟨gi, 0, none⟩ ∧ capi = cap2 := by
        injection e2 with e1 e2 e3
        exact ⟨e1, e3⟩
      clear e2
      have HF5 : Hid (∀ X, Only [g, gi] W X → X.cell? ⟨w.heap.size, 0, none⟩ = some (.pointer (some ⟨g, 0, none⟩))) := by
        show ∀ X, _
        intro X ho
        have hg := HP.out.hd.lt
        have hgi2 : gi < w.heap.size := HP.out.oi gi (by simp [ownL, Value.ownBlock])
        exact (ho.cell (p := ⟨w.heap.size, 0, none⟩) (block_of_cell (a := ⟨w.heap.size, 0, none⟩) hbp) (by simp; omega)).trans hbp
      obtain ⟨F, hF⟩ : ∃ F : World → Prop, ∀ X, F X ↔ X.cell? ⟨w.heap.size, 0, none⟩ = some (.pointer (some ⟨g, 0, none⟩)) := ⟨_, fun _ => Iff.rfl⟩
      have hxp : ∀ p : Held F, p.w.cell? ⟨w.heap.size, 0, none⟩ = some (.pointer (some ⟨g, 0, none⟩)) := fun p => (hF _).1 p.h
      have HFF : Hid (∀ X, Only [g, gi] W X → F X) := by show ∀ X, _; intro X ho; exact (hF _).2 (HF5.out X ho)
      clear hF
      obtain ⟨W0, hW0⟩ : ∃ W0, W0 = W.drew := ⟨_, rfl⟩
      have HO0 : Hid (Only [] W W0) := by show Only _ _ _; rw [hW0]; exact (Only.refl _ _).drew
      have HP0 := Lib.hid (HPW.out.old HO0.out)
      have hd5 := HP0.out.hd.c5
      have hgl0 := HP0.out.hd.lt
      have hcon : Calls Try.prog 39 #[.slice (some ⟨gi, 0, none⟩) s.i.length capi, .int .i64 (j : Int), .int .i64 ((j : Int) + 1)] W0 _ := delC_any gi capi j (j + 1) s.i.length s.i W0 rfl rfl HP0.out.ri hjl hi1 hi2
      refine wpIn_seq_k fun K3 hK3 => ?_
      refine round_mix F (by kernel_rfl) (by kernel_rfl) (letsOut_then (letsOut_inBlock hlo)) ?_
      rw [← hW0]
      clear hW0
      refine mix_seg [0, 1, 2, 3, 5, 6, 7] (by kernel_rfl) (HFF.out _ (HO0.out.mono (by simp))) ?_
      simp only [segOf, pickOps, pickOp]
      repeat (go_big_quiet_step (rfl))
      refine wpQuiet_nil ?_
      refine mix_run 4 (by kernel_rfl) ?_
      simp only [segOf, pickOps, pickOp]
      go_wp2_with fail
      refine MixPost.normal (HFF.out _ (HO0.out.mono (by simp))) ?_
      refine mix_run 8 (by kernel_rfl) ?_
      simp only [segOf, pickOps, pickOp]
      go_wp2_with fail
      refine hcon.mono ?_
      rintro e w3 ⟨rfl, hr3, ho3⟩
      have HNG : Hid (g ≠ gi) := by show _ ≠ _; have h1 := HP0.out.ap.a4; intro e; apply h1; rw [e]; simp [ownL, Value.ownBlock]
      have HR3 := Lib.hid hr3
      have HO3 : Hid (Only [gi] W w3) := (HO0.out.mono (by simp)).trans ho3
      have HH3 := Lib.hid (HPW.out.hd.only HO3.out (by have := HNG.out; simpa using this))
      have hd5' := HH3.out.c5
      have hz5 := HH3.out.z5
      have hgl3 := HH3.out.lt
      clear hcon hr3 ho3 hd5
      go_wp2_with fail
      refine MixPost.normal (HFF.out _ (HO3.out.mono (by simp))) ?_
      refine mix_seg [9, 10] (by kernel_rfl) (HFF.out _ (HO3.out.mono (by simp))) ?_
      simp only [segOf, pickOps, pickOp]
      repeat (go_big_quiet_step (rfl))
      refine wpQuiet_nil ?_
      refine mix_run 11 (by kernel_rfl) ?_
      simp only [segOf, pickOps, pickOp]
      obtain ⟨W5, hW5⟩ : ∃ W5, W5 = w3.setCell ⟨g, 5, none⟩ (.slice (some ⟨gi, 0, none⟩) (s.i.length - 1) capi) := ⟨_, rfl⟩
      have HO5w : Hid (Only [g, gi] W W5) := by show Only _ _ _; rw [hW5]; exact (HO3.out.mono (by simp)).setCell (p := ⟨g, 5, none⟩) (by simp) _
      have HP5w : Hid (PoAt W5 g gt vt (.slice Ab s.b.length capb) (.slice (some ⟨gi, 0, none⟩) (s.i.length - 1) capi) { s with i := s.i.eraseIdx j }) := by
        show PoAt _ _ _ _ _ _ _
        refine HPW.out.turnI ?_ ?_ ?_ (fun x hx => .inl hx)
        · exact HO5w.out
        · rw [hW5]; exact HH3.out.set5 _
        · rw [hW5]
          refine HR3.out.only (s := [g]) ((Only.refl _ _).setCell (p := ⟨g, 5, none⟩) (by simp) _) ?_
          intro z hz hm
          simp [ownL, Value.ownBlock] at hz hm
          exact HNG.out (hm.symm.trans hz)
      go_wp2_with fail
      rw [← hW5]
      clear hW5 hd5' hz5
      refine MixPost.normal (HFF.out _ HO5w.out) ?_
      refine mix_done (by kernel_rfl) ?_
      go_wp2_with fail
      have HB5w : Hid (Box4 W5 w.heap.size g k 0 false) := by
        show Box4 _ _ _ _ _ _
        refine HBX.out.only HO5w.out ?_
        intro z hz
        have hg := HP.out.hd.lt
        have hgi2 : gi < w.heap.size := HP.out.oi gi (by simp [ownL, Value.ownBlock])
        simp at hz
        omega
      have HL5w : Hid (LBox W5 Bl ⟨y1, y2, y3⟩) := by
        show LBox _ _ _
        have h1 := HLB.out
        rw [← HY.out] at h1
        refine h1.only HO5w.out ?_
        intro hm
        have hg := HP.out.hd.lt
        have hgi2 : gi < w.heap.size := HP.out.oi gi (by simp [ownL, Value.ownBlock])
        simp at hm
        omega
      obtain ⟨F2, hF2⟩ : ∃ F2 : World → Prop, ∀ X, F2 X ↔ (X.cell? ⟨w.heap.size, 0, none⟩ = some (.pointer (some ⟨g, 0, none⟩)) ∧ LBox X Bl ⟨y1, y2, y3⟩) := ⟨_, fun _ => Iff.rfl⟩
      have hxp2 : ∀ p : Held F2, p.w.cell? ⟨w.heap.size, 0, none⟩ = some (.pointer (some ⟨g, 0, none⟩)) := fun p => ((hF2 _).1 p.h).1
      have hxl0 : ∀ p : Held F2, p.w.cell? ⟨Bl, 0, none⟩ = some (.int .i64 (y1 : Int)) := fun p => ((hF2 _).1 p.h).2.c0
      have hxl1 : ∀ p : Held F2, p.w.cell? ⟨Bl, 1, none⟩ = some (.string y2) := fun p => ((hF2 _).1 p.h).2.c1
      have hxl2 : ∀ p : Held F2, p.w.cell? ⟨Bl, 2, none⟩ = some (.int .u64 (y3 : Int)) := fun p => ((hF2 _).1 p.h).2.c2
      have HFF2 : Hid (∀ X, Only (g :: ownL (.slice Ab s.b.length capb)) W5 X → F2 X) := by
        show ∀ X, _
        intro X ho
        have hob : ∀ z ∈ g :: ownL (.slice Ab s.b.length capb), z < w.heap.size := by
          intro z hz
          rcases List.mem_cons.1 hz with h1 | h1
          · subst h1; exact HP.out.hd.lt
          · exact HP.out.ob z h1
        exact (hF2 _).2 ⟨(ho.cell (p := ⟨w.heap.size, 0, none⟩) (block_of_cell (a := ⟨w.heap.size, 0, none⟩) HB5w.out.p) (fun hm => by have := hob _ hm; exact absurd this (Nat.lt_irrefl _))).trans HB5w.out.p, HL5w.out.only ho (fun hm => by have := hob _ hm; omega)⟩
      clear hF2 hxp HFF HF5
      obtain ⟨W6, hW6⟩ : ∃ W6, W6 = W5.drew := ⟨_, rfl⟩
      have HO6 : Hid (Only [] W5 W6) := by show Only _ _ _; rw [hW6]; exact (Only.refl _ _).drew
      have HP6 := Lib.hid (HP5w.out.old HO6.out)
      obtain ⟨W7, hW7⟩ : ∃ W7, W7 = W6.alloc (.cells #[.int .i64 (y1 : Int), .string y2, .int .u64 (y3 : Int)] 83) := ⟨_, rfl⟩
      obtain ⟨B7, hB7⟩ : ∃ B7, B7 = W6.heap.size := ⟨_, rfl⟩
      have HO7 : Hid (Only [] W5 W7) := by show Only _ _ _; rw [hW7]; exact HO6.out.alloc _
      have HN7 : Hid (W7.cell? ⟨B7, 0, none⟩ = some (.int .i64 (y1 : Int)) ∧ W7.cell? ⟨B7, 1, none⟩ = some (.string y2) ∧ W7.cell? ⟨B7, 2, none⟩ = some (.int .u64 (y3 : Int))) := by show _ ∧ _ ∧ _; rw [hW7, hB7]; exact ⟨by simp, by simp, by simp⟩
      have HS7 : Hid (W5.heap.size ≤ W7.heap.size) := HO7.out.size
      have HP7 := Lib.hid (HP5w.out.old HO7.out)
      have hgl6 := HP6.out.hd.lt
      have hgl7 := HP7.out.hd.lt
      refine wpIn_seq_k fun K4 hK4 => ?_
      refine round_mix F2 (by kernel_rfl) (by kernel_rfl) (letsOut_then (letsOut_inBlock hlo)) ?_
      rw [← hW6]
      clear hW6
      refine mix_seg [0, 1, 2, 3, 5] (by kernel_rfl) (HFF2.out _ (HO6.out.mono (by simp))) ?_
      simp only [segOf, pickOps, pickOp]
      repeat (go_big_quiet_step (rfl))
      refine wpQuiet_nil ?_
      refine mix_several [4, 6] (by kernel_rfl) ?_
      intro i hi'
      simp only [List.mem_cons, List.not_mem_nil, or_false] at hi'
      rcases hi' with rfl | rfl
      · simp only [segOf, pickOps, pickOp]
        have hd4 := HP6.out.hd.c4
        go_wp2_with fail
        refine MixPost.normal (HFF2.out _ (HO6.out.mono (by simp))) ?_
        clear hd4
        refine mix_run 6 (by kernel_rfl) ?_
        simp only [segOf, pickOps, pickOp]
        go_wp2_with fail
        rw [← hW7, ← hB7]
        clear hW7 hB7
        refine MixPost.normal (HFF2.out _ (HO7.out.mono (by simp))) ?_
        refine mix_run 7 (by kernel_rfl) ?_
        simp only [segOf, pickOps, pickOp]
        refine wpList_append_conn rfl (.tmp 34) (.tmp 36) 65 83 rfl Try.underlying65 infoC _ s.b rfl HP7.out.rb B7 ⟨y1, y2, y3⟩ rfl HN7.out.1 HN7.out.2.1 HN7.out.2.2 (by have := HBI.out; omega) ?_
        intro g2 cap2 w8 hr8 ho8 hg8
        obtain ⟨v8, hv8⟩ : ∃ v8, v8 = Value.slice (some ⟨g2, 0, none⟩) (s.b.length + 1) cap2 := ⟨_, rfl⟩
        have HG8 : Hid (Grow W5.heap.size (.slice Ab s.b.length capb) v8) := by
          show Grow _ _ _
          intro z hz
          rw [hv8, ownL, Value.ownBlock] at hz
          simp at hz
          subst hz
          rcases hg8.out with h1 | h1
          · exact .inl h1
          · right; have := HS7.out; omega
        have HH8 := Lib.hid (HP7.out.hd.only ho8.out HP7.out.ap.a3)
        have HO8 : Hid (Only (ownL (.slice Ab s.b.length capb)) W5 w8) := (HO7.out.mono (by simp)).trans ho8.out
        have hd4' := HH8.out.c4
        have hz4 := HH8.out.z4
        have hgl8 := HH8.out.lt
        obtain ⟨W9, hW9⟩ : ∃ W9, W9 = w8.setCell ⟨g, 4, none⟩ v8 := ⟨_, rfl⟩
        have HO9 : Hid (Only (g :: ownL (.slice Ab s.b.length capb)) W5 W9) := by
          show Only _ _ _
          rw [hW9]; exact (HO8.out.mono (by intro z hz; exact List.mem_cons_of_mem _ hz)).setCell (p := ⟨g, 4, none⟩) (by simp) _
        have HP9 : Hid (PoAt W9 g gt vt v8 (.slice (some ⟨gi, 0, none⟩) (s.i.length - 1) capi) { s with i := s.i.eraseIdx j, b := s.b ++ [⟨y1, y2, y3⟩] }) := by
          show PoAt _ _ _ _ _ _ _
          refine HP5w.out.turnB HO9.out ?_ ?_ HG8.out
          · rw [hW9]; exact HH8.out.set4 _
          · rw [hW9, hv8]
            refine hr8.out.only (s := [g]) ((Only.refl _ _).setCell (p := ⟨g, 4, none⟩) (by simp) _) ?_
            intro z hz hm
            rw [← hv8] at hz
            simp at hm
            subst hm
            rcases HG8.out z hz with h1 | h1
            · exact HP7.out.ap.a3 h1
            · have := HP5w.out.hd.lt; omega
        have HOB : Hid (∀ z ∈ g :: ownL (.slice Ab s.b.length capb), z < w.heap.size) := by
          show ∀ z ∈ _, _
          intro z hz
          rcases List.mem_cons.1 hz with h1 | h1
          · subst h1; exact HP.out.hd.lt
          · exact HP.out.ob z h1
        have HF8 : Hid (F2 w8) := HFF2.out _ (HO8.out.mono (by intro z hz; exact List.mem_cons_of_mem _ hz))
        have HF9 : Hid (F2 W9) := HFF2.out _ HO9.out
        rw [hv8] at hW9
        go_wp2_with fail
        refine MixPost.normal HF8.out ?_
        refine mix_seg [8, 9] (by kernel_rfl) HF8.out ?_
        simp only [segOf, pickOps, pickOp]
        repeat (go_big_quiet_step (rfl))
        refine wpQuiet_nil ?_
        refine mix_run 10 (by kernel_rfl) ?_
        simp only [segOf, pickOps, pickOp]
        go_wp2_with fail
        rw [← hW9]
        clear hW9 hd4' hz4
        refine MixPost.normal HF9.out ?_
        refine mix_done (by kernel_rfl) ?_
        have HB9 : Hid (Box4 W9 w.heap.size g k 0 false) := by
          show Box4 _ _ _ _ _ _
          refine HB5w.out.only HO9.out ?_
          intro z hz
          exact .inl (HOB.out z hz)
        have HL9 : Hid (LBox W9 Bl ⟨y1, y2, y3⟩) := by
          show LBox _ _ _
          refine HL5w.out.only HO9.out ?_
          intro hm
          have := HOB.out _ hm; omega
        have n0 := HL9.out.c0
        have n1 : W9.cell? ⟨w.heap.size + 1 + 1, 0, none⟩ = some (.int .i64 0) := HB9.out.n
        have n2 : W9.frozen? ⟨w.heap.size + 1 + 1, 0, none⟩ = false := HB9.out.zn
        have n3 : W9.cell? ⟨w.heap.size + 1 + 1 + 1, 0, none⟩ = some (.bool false) := HB9.out.q
        have n4 : W9.frozen? ⟨w.heap.size + 1 + 1 + 1, 0, none⟩ = false := HB9.out.zq
        obtain ⟨W10, hW10⟩ : ∃ W10, W10 = (W9.setCell ⟨w.heap.size + 1 + 1, 0, none⟩ (.int .i64 (y1 : Int))).setCell ⟨w.heap.size + 1 + 1 + 1, 0, none⟩ (.bool true) := ⟨_, rfl⟩
        have HB10 : Hid (Box4 W10 w.heap.size g k (y1 : Int) true) := by show Box4 _ _ _ _ _ _; rw [hW10]; exact HB9.out.set (y1 : Int) true
        have HO10 : Hid (Only [w.heap.size + 2, w.heap.size + 3] W9 W10) := by
          show Only _ _ _
          rw [hW10]
          exact ((Only.refl _ _).setCell (p := ⟨w.heap.size + 1 + 1, 0, none⟩) (by simp) _).setCell (p := ⟨w.heap.size + 1 + 1 + 1, 0, none⟩) (by simp) _
        have HP10 : Hid (PoAt W10 g gt vt v8 (.slice (some ⟨gi, 0, none⟩) (s.i.length - 1) capi) { s with i := s.i.eraseIdx j, b := s.b ++ [⟨y1, y2, y3⟩] }) := by
          show PoAt _ _ _ _ _ _ _
          refine HP9.out.only HO10.out ?_
          intro z hz hm
          have h1 : z < w.heap.size + 2 ∨ w.heap.size + 5 ≤ z := by
            rcases mem_footP.1 hz with h2 | h2 | h2 | h2 | h2
            · left; have := HP.out.hd.lt; omega
            · left; have := HP.out.tb.head.lt; omega
            · left; have := HP.out.ot z h2; omega
            · rcases HG8.out z h2 with h3 | h3
              · left; have := HP.out.ob z h3; omega
              · right; have h4 := HOW.out.size; have h5 := HO5w.out.size; have h6 := HN5.out; omega
            · left; have := HP.out.oi z (by simpa [ownL, Value.ownBlock] using h2); omega
          simp at hm
          omega
        go_wp2_with fail
        refine wpIn_seq_k fun K5 hK5 => ?_
        refine round_list (by kernel_rfl) (letsOut_then (letsOut_inBlock hlo)) ?_
        show wpList _ _ _ [_, _, _, _] _ _
        go_wp2_with fail
        rw [← hW10]
        clear hW10 n0 n1 n2 n3 n4
        refine wpIn_ret ?_
        have HOA : Hid (Only ([g, gi] ++ ((g :: ownL (.slice Ab s.b.length capb)) ++ [w.heap.size + 2, w.heap.size + 3])) W W10) := by
          show Only _ _ _
          refine ((HO5w.out.mono ?_).trans (HO9.out.mono ?_)).trans (HO10.out.mono ?_)
          · intro z hz; exact List.mem_append_left _ hz
          · intro z hz; exact List.mem_append_right _ (List.mem_append_left _ hz)
          · intro z hz; exact List.mem_append_right _ (List.mem_append_right _ hz)
        refine ⟨keeps_of_only HOA.out ?_, rfl, pre, x, rfl, HPRE.out, ?_, ?_, ?_⟩
        · intro z hz o hq
          rcases List.mem_append.1 hz with h1 | h1
          · refine HPW.out.allCells (x := z) ?_ hq
            simp at h1
            rcases h1 with h1 | h1
            · exact mem_footP.2 (by simp [h1])
            · exact mem_footP.2 (by simp [h1, ownL, Value.ownBlock])
          · rcases List.mem_append.1 h1 with h2 | h2
            · refine HPW.out.allCells (x := z) ?_ hq
              rcases List.mem_cons.1 h2 with h3 | h3
              · exact mem_footP.2 (by simp [h3])
              · exact mem_footP.2 (by simp [h3])
            · simp at h2
              rcases h2 with h2 | h2
              · subst h2; exact block_cells HBX.out.n hq
              · subst h2; exact block_cells HBX.out.q hq
        · rw [← HJ.out, ← HY.out]; exact HQ.out.symm
        · refine ⟨vt, v8, .slice (some ⟨gi, 0, none⟩) (s.i.length - 1) capi, ?_, ?_, Grow.refl _ _, ?_, fun z hz => .inl hz⟩
          · have e1 : againP x.1 s = { s with i := s.i.eraseIdx j, b := s.b ++ [⟨y1, y2, y3⟩] } := by unfold againP; rw [← HJ.out, ← HY.out]
            rw [e1]
            exact HP10.out
          · refine ((HO5'.out.trans HOW.out).mono (by simp)).next HOA.out ?_
            intro z hz
            rcases List.mem_append.1 hz with h1 | h1
            · left
              simp at h1
              rcases h1 with h1 | h1
              · exact mem_footP.2 (by simp [h1])
              · exact mem_footP.2 (by simp [h1, ownL, Value.ownBlock])
            · rcases List.mem_append.1 h1 with h2 | h2
              · left
                rcases List.mem_cons.1 h2 with h3 | h3
                · exact mem_footP.2 (by simp [h3])
                · exact mem_footP.2 (by simp [h3])
              · right; simp at h2; omega
          · intro z hz
            rcases HG8.out z hz with h1 | h1
            · exact .inl h1
            · right; have h4 := HOW.out.size; have h5 := HO5w.out.size; have h6 := HN5.out; omega
        · rw [← HJ.out, ← HY.out]; exact HB10.out
      · simp only [segOf, pickOps, pickOp]
        go_wp2_with fail
        rw [← hW7, ← hB7]
        clear hW7 hB7
        refine MixPost.normal (HFF2.out _ (HO7.out.mono (by simp))) ?_
        refine mix_run 4 (by kernel_rfl) ?_
        simp only [segOf, pickOps, pickOp]
        have hd4 := HP7.out.hd.c4
        go_wp2_with fail
        refine MixPost.normal (HFF2.out _ (HO7.out.mono (by simp))) ?_
        clear hd4
        refine mix_run 7 (by kernel_rfl) ?_
        simp only [segOf, pickOps, pickOp]
        refine wpList_append_conn rfl (.tmp 34) (.tmp 36) 65 83 rfl Try.underlying65 infoC _ s.b rfl HP7.out.rb B7 ⟨y1, y2, y3⟩ rfl HN7.out.1 HN7.out.2.1 HN7.out.2.2 (by have := HBI.out; omega) ?_
        intro g2 cap2 w8 hr8 ho8 hg8
        obtain ⟨v8, hv8⟩ : ∃ v8, v8 = Value.slice (some ⟨g2, 0, none⟩) (s.b.length + 1) cap2 := ⟨_, rfl⟩
        have HG8 : Hid (Grow W5.heap.size (.slice Ab s.b.length capb) v8) := by
          show Grow _ _ _
          intro z hz
          rw [hv8, ownL, Value.ownBlock] at hz
          simp at hz
          subst hz
          rcases hg8.out with h1 | h1
          · exact .inl h1
          · right; have := HS7.out; omega
        have HH8 := Lib.hid (HP7.out.hd.only ho8.out HP7.out.ap.a3)
        have HO8 : Hid (Only (ownL (.slice Ab s.b.length capb)) W5 w8) := (HO7.out.mono (by simp)).trans ho8.out
        have hd4' := HH8.out.c4
        have hz4 := HH8.out.z4
        have hgl8 := HH8.out.lt
        obtain ⟨W9, hW9⟩ : ∃ W9, W9 = w8.setCell ⟨g, 4, none⟩ v8 := ⟨_, rfl⟩
        have HO9 : Hid (Only (g :: ownL (.slice Ab s.b.length capb)) W5 W9) := by
          show Only _ _ _
          rw [hW9]; exact (HO8.out.mono (by intro z hz; exact List.mem_cons_of_mem _ hz)).setCell (p := ⟨g, 4, none⟩) (by simp) _
        have HP9 : Hid (PoAt W9 g gt vt v8 (.slice (some ⟨gi, 0, none⟩) (s.i.length - 1) capi) { s with i := s.i.eraseIdx j, b := s.b ++ [⟨y1, y2, y3⟩] }) := by
          show PoAt _ _ _ _ _ _ _
          refine HP5w.out.turnB HO9.out ?_ ?_ HG8.out
          · rw [hW9]; exact HH8.out.set4 _
          · rw [hW9, hv8]
            refine hr8.out.only (s := [g]) ((Only.refl _ _).setCell (p := ⟨g, 4, none⟩) (by simp) _) ?_
            intro z hz hm
            rw [← hv8] at hz
            simp at hm
            subst hm
            rcases HG8.out z hz with h1 | h1
            · exact HP7.out.ap.a3 h1
            · have := HP5w.out.hd.lt; omega
        have HOB : Hid (∀ z ∈ g :: ownL (.slice Ab s.b.length capb), z < w.heap.size) := by
          show ∀ z ∈ _, _
          intro z hz
          rcases List.mem_cons.1 hz with h1 | h1
          · subst h1; exact HP.out.hd.lt
          · exact HP.out.ob z h1
        have HF8 : Hid (F2 w8) := HFF2.out _ (HO8.out.mono (by intro z hz; exact List.mem_cons_of_mem _ hz))
        have HF9 : Hid (F2 W9) := HFF2.out _ HO9.out
        rw [hv8] at hW9
        go_wp2_with fail
        refine MixPost.normal HF8.out ?_
        refine mix_seg [8, 9] (by kernel_rfl) HF8.out ?_
        simp only [segOf, pickOps, pickOp]
        repeat (go_big_quiet_step (rfl))
        refine wpQuiet_nil ?_
        refine mix_run 10 (by kernel_rfl) ?_
        simp only [segOf, pickOps, pickOp]
        go_wp2_with fail
        rw [← hW9]
        clear hW9 hd4' hz4
        refine MixPost.normal HF9.out ?_
        refine mix_done (by kernel_rfl) ?_
        have HB9 : Hid (Box4 W9 w.heap.size g k 0 false) := by
          show Box4 _ _ _ _ _ _
          refine HB5w.out.only HO9.out ?_
          intro z hz
          exact .inl (HOB.out z hz)
        have HL9 : Hid (LBox W9 Bl ⟨y1, y2, y3⟩) := by
          show LBox _ _ _
          refine HL5w.out.only HO9.out ?_
          intro hm
          have := HOB.out _ hm; omega
        have n0 := HL9.out.c0
        have n1 : W9.cell? ⟨w.heap.size + 1 + 1, 0, none⟩ = some (.int .i64 0) := HB9.out.n
        have n2 : W9.frozen? ⟨w.heap.size + 1 + 1, 0, none⟩ = false := HB9.out.zn
        have n3 : W9.cell? ⟨w.heap.size + 1 + 1 + 1, 0, none⟩ = some (.bool false) := HB9.out.q
        have n4 : W9.frozen? ⟨w.heap.size + 1 + 1 + 1, 0, none⟩ = false := HB9.out.zq
        obtain ⟨W10, hW10⟩ : ∃ W10, W10 = (W9.setCell ⟨w.heap.size + 1 + 1, 0, none⟩ (.int .i64 (y1 : Int))).setCell ⟨w.heap.size + 1 + 1 + 1, 0, none⟩ (.bool true) := ⟨_, rfl⟩
        have HB10 : Hid (Box4 W10 w.heap.size g k (y1 : Int) true) := by show Box4 _ _ _ _ _ _; rw [hW10]; exact HB9.out.set (y1 : Int) true
        have HO10 : Hid (Only [w.heap.size + 2, w.heap.size + 3] W9 W10) := by
          show Only _ _ _
          rw [hW10]
          exact ((Only.refl _ _).setCell (p := ⟨w.heap.size + 1 + 1, 0, none⟩) (by simp) _).setCell (p := ⟨w.heap.size + 1 + 1 + 1, 0, none⟩) (by simp) _
        have HP10 : Hid (PoAt W10 g gt vt v8 (.slice (some ⟨gi, 0, none⟩) (s.i.length - 1) capi) { s with i := s.i.eraseIdx j, b := s.b ++ [⟨y1, y2, y3⟩] }) := by
          show PoAt _ _ _ _ _ _ _
          refine HP9.out.only HO10.out ?_
          intro z hz hm
          have h1 : z < w.heap.size + 2 ∨ w.heap.size + 5 ≤ z := by
            rcases mem_footP.1 hz with h2 | h2 | h2 | h2 | h2
            · left; have := HP.out.hd.lt; omega
            · left; have := HP.out.tb.head.lt; omega
            · left; have := HP.out.ot z h2; omega
            · rcases HG8.out z h2 with h3 | h3
              · left; have := HP.out.ob z h3; omega
              · right; have h4 := HOW.out.size; have h5 := HO5w.out.size; have h6 := HN5.out; omega
            · left; have := HP.out.oi z (by simpa [ownL, Value.ownBlock] using h2); omega
          simp at hm
          omega
        go_wp2_with fail
        refine wpIn_seq_k fun K5 hK5 => ?_
        refine round_list (by kernel_rfl) (letsOut_then (letsOut_inBlock hlo)) ?_
        show wpList _ _ _ [_, _, _, _] _ _
        go_wp2_with fail
        rw [← hW10]
        clear hW10 n0 n1 n2 n3 n4
        refine wpIn_ret ?_
        have HOA : Hid (Only ([g, gi] ++ ((g :: ownL (.slice Ab s.b.length capb)) ++ [w.heap.size + 2, w.heap.size + 3])) W W10) := by
          show Only _ _ _
          refine ((HO5w.out.mono ?_).trans (HO9.out.mono ?_)).trans (HO10.out.mono ?_)
          · intro z hz; exact List.mem_append_left _ hz
          · intro z hz; exact List.mem_append_right _ (List.mem_append_left _ hz)
          · intro z hz; exact List.mem_append_right _ (List.mem_append_right _ hz)
        refine ⟨keeps_of_only HOA.out ?_, rfl, pre, x, rfl, HPRE.out, ?_, ?_, ?_⟩
        · intro z hz o hq
          rcases List.mem_append.1 hz with h1 | h1
          · refine HPW.out.allCells (x := z) ?_ hq
            simp at h1
            rcases h1 with h1 | h1
            · exact mem_footP.2 (by simp [h1])
            · exact mem_footP.2 (by simp [h1, ownL, Value.ownBlock])
          · rcases List.mem_append.1 h1 with h2 | h2
            · refine HPW.out.allCells (x := z) ?_ hq
              rcases List.mem_cons.1 h2 with h3 | h3
              · exact mem_footP.2 (by simp [h3])
              · exact mem_footP.2 (by simp [h3])
            · simp at h2
              rcases h2 with h2 | h2
              · subst h2; exact block_cells HBX.out.n hq
              · subst h2; exact block_cells HBX.out.q hq
        · rw [← HJ.out, ← HY.out]; exact HQ.out.symm
        · refine ⟨vt, v8, .slice (some ⟨gi, 0, none⟩) (s.i.length - 1) capi, ?_, ?_, Grow.refl _ _, ?_, fun z hz => .inl hz⟩
          · have e1 : againP x.1 s = { s with i := s.i.eraseIdx j, b := s.b ++ [⟨y1, y2, y3⟩] } := by unfold againP; rw [← HJ.out, ← HY.out]
            rw [e1]
            exact HP10.out
          · refine ((HO5'.out.trans HOW.out).mono (by simp)).next HOA.out ?_
            intro z hz
            rcases List.mem_append.1 hz with h1 | h1
            · left
              simp at h1
              rcases h1 with h1 | h1
              · exact mem_footP.2 (by simp [h1])
              · exact mem_footP.2 (by simp [h1, ownL, Value.ownBlock])
            · rcases List.mem_append.1 h1 with h2 | h2
              · left
                rcases List.mem_cons.1 h2 with h3 | h3
                · exact mem_footP.2 (by simp [h3])
                · exact mem_footP.2 (by simp [h3])
              · right; simp at h2; omega
          · intro z hz
            rcases HG8.out z hz with h1 | h1
            · exact .inl h1
            · right; have h4 := HOW.out.size; have h5 := HO5w.out.size; have h6 := HN5.out; omega
        · rw [← HJ.out, ← HY.out]; exact HB10.out
  case done =>
    rintro D ys W hD hys ⟨hn, hp, hbx, ho⟩ hK
    have hnone : lastO (ckeyB k) s.i = none := lastO_none (fun j hj => by
      have h1 : j ∈ ys.map (·.1) := by rw [hys]; exact (mem_downL (Nat.le_refl _)).2 ⟨hj, by omega⟩
      obtain ⟨z, hz, e⟩ := List.mem_map.1 h1
      subst e
      exact hn z hz)
    have n1 : W.cell? ⟨w.heap.size + 1 + 1, 0, none⟩ = some (.int .i64 0) := hbx.n
    have n2 : W.frozen? ⟨w.heap.size + 1 + 1, 0, none⟩ = false := hbx.zn
    have n3 : W.cell? ⟨w.heap.size + 1 + 1 + 1, 0, none⟩ = some (.bool false) := hbx.q
    have n4 : W.frozen? ⟨w.heap.size + 1 + 1 + 1, 0, none⟩ = false := hbx.zq
    have HNN := Lib.hid hnone
    have HPW := Lib.hid hp
    have HBX := Lib.hid hbx
    have HOW := Lib.hid ho
    have HDK := Lib.hid hK
    obtain ⟨W2, hW2⟩ : ∃ W2, W2 = (W.setCell ⟨w.heap.size + 1 + 1, 0, none⟩ (.int .i64 0)).setCell ⟨w.heap.size + 1 + 1 + 1, 0, none⟩ (.bool false) := ⟨_, rfl⟩
    have HB2 : Hid (Box4 W2 w.heap.size g k 0 false) := by show Box4 _ _ _ _ _ _; rw [hW2]; exact hbx.set 0 false
    have HO2 : Hid (Only [w.heap.size + 2, w.heap.size + 3] W W2) := by
      show Only _ _ _
      rw [hW2]
      exact ((Only.refl _ _).setCell (p := ⟨w.heap.size + 1 + 1, 0, none⟩) (by simp) _).setCell (p := ⟨w.heap.size + 1 + 1 + 1, 0, none⟩) (by simp) _
    have HK2 : Hid (W2.heap[D]? = some (.deferred (some []))) := by
      show _ = _
      rw [hW2]
      exact ((KeepsOthers.setCell W _ _).trans (KeepsOthers.setCell _ _ _)).same D _ hK rfl
    have HP2 : Hid (PoAt W2 g gt vt (.slice Ab s.b.length capb) (.slice Ai s.i.length capi) s) := by
      show PoAt _ _ _ _ _ _ _
      refine hp.only HO2.out ?_
      intro z hz hm
      have h1 : z < w.heap.size := HP.out.lt hz
      simp at hm
      omega
    clear hnone hp hbx ho hn hK
    gi_wp2
    rw [← hW2]
    clear hW2 n1 n2 n3 n4
    have t : Turn w'.heap.size W2 (W2.putObj D (.deferred none)) (some D) := ⟨grownBy_putObj' _ D _, fun r e => by cases e; exact ⟨hD, _, HK2.out, rfl⟩⟩
    refine ⟨by simp, .inl ⟨_, _, rfl, run_takeDeferred HK2.out, ?_⟩⟩
    have hb3 := HB2.out.turn t
    have m1 : (W2.putObj D (.deferred none)).cell? ⟨w.heap.size + 1 + 1, 0, none⟩ = some (.int .i64 0) := hb3.n
    have m2 : (W2.putObj D (.deferred none)).cell? ⟨w.heap.size + 1 + 1 + 1, 0, none⟩ = some (.bool false) := hb3.q
    refine ⟨.tuple #[.int .i64 0, .bool false], ?_, .inr ⟨HNN.out, rfl, vt, _, _, HP2.out.turn t, ?_, Grow.refl _ _, Grow.refl _ _, Grow.refl _ _⟩⟩
    · simp [results, Try.f33, go_sem, m1, m2]
    · have h1 : Only [] w W := HO5'.out.trans HOW.out
      have h2 : Only [] w W2 := h1.next HO2.out (by intro z hz; right; simp at hz; omega)
      exact (h2.turn t hle).mono (by simp)
  case stop =>
    rintro D c pre W hD ⟨kk, hkk, hpre⟩ ⟨rfl, ini, x, e1, e2, e3, hst, hbx⟩ hK
    have hsome : lastO (ckeyB k) s.i = some x.1 := by
      have hlen := congrArg List.length hpre
      rw [List.length_map, downL_len hkk, e1, List.length_append] at hlen
      obtain ⟨m, rfl⟩ : ∃ m, kk = m + 1 := ⟨ini.length, by simp at hlen; omega⟩
      rw [e1, List.map_append, downL_succ (by omega)] at hpre
      obtain ⟨h1, h2⟩ := List.append_inj' hpre rfl
      have h3 : x.1 = s.i.length - 1 - m := by simpa using h2
      refine lastO_some x.2 e3 (fun j hj hj2 => ?_)
      have h4 : j ∈ ini.map (·.1) := by rw [h1]; exact (mem_downL (by omega)).2 ⟨hj2, by omega⟩
      obtain ⟨z, hz, e⟩ := List.mem_map.1 h4
      subst e
      exact e2 z hz
    have HST := Lib.hid hst
    have HBX := Lib.hid hbx
    have HSM := Lib.hid hsome
    have HK2 := Lib.hid hK
    clear hst hbx hsome hK hpre e1 e2 e3
    gi_wp2
    have t : Turn w'.heap.size W (W.putObj D (.deferred none)) (some D) := ⟨grownBy_putObj' _ D _, fun r e => by cases e; exact ⟨hD, _, HK2.out, rfl⟩⟩
    refine ⟨by simp, .inl ⟨_, _, rfl, run_takeDeferred HK2.out, ?_⟩⟩
    have hb3 := HBX.out.turn t
    have m1 : (W.putObj D (.deferred none)).cell? ⟨w.heap.size + 1 + 1, 0, none⟩ = some (.int .i64 ((nthC s.i x.1).n : Int)) := hb3.n
    have m2 : (W.putObj D (.deferred none)).cell? ⟨w.heap.size + 1 + 1 + 1, 0, none⟩ = some (.bool true) := hb3.q
    obtain ⟨a1, a2, a3, a4, a5, a6⟩ := HST.out
    refine ⟨.tuple #[.int .i64 ((nthC s.i x.1).n : Int), .bool true], ?_, .inl ⟨x.1, HSM.out, rfl, a1, a2, a3, a4.turn t, a5.turn t hle, a6⟩⟩
    simp [results, Try.f33, go_sem, m1, m2]
end Go.Proofs.Ytbnmldfiheffoaa
