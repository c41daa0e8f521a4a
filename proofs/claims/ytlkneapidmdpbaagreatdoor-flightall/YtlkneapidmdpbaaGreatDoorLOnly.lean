/-
  What a call may turn; rows of bytes of the call's own, filled, turned to text. Conditions: those of each statement.
-/
import Derived.Test.YtlkneapidmdpbaaGreatDoorLBase
import Derived.Laws.AppendOwn
import Derived.Laws.OwnMore
import Derived.Laws.IdiomStrings
import Derived.Laws.CopyOwn
import Derived.Laws.AppendOwnNone
import Derived.Deep.AppendLies
import Derived.OwnWalk
namespace Go.Proofs.YtlkneapidmdpbaaGreatDoor
open Go.RowKit

/-- but for the blocks of s nothing that was there has turned -/
structure Only (s : List Nat) (w w' : World) : Prop where
  os : w'.os = w.os
  tape : w'.tape = w.tape
  output : w'.output = w.output
  size : w.heap.size ≤ w'.heap.size
  block : ∀ k, k < w.heap.size → k ∉ s → w'.heap[k]? = w.heap[k]?
theorem Only.refl (s : List Nat) (w : World) : Only s w w := ⟨rfl, rfl, rfl, Nat.le_refl _, fun _ _ _ => rfl⟩
theorem Only.next {s s' : List Nat} {a b c : World} (h : Only s a b) (k : Only s' b c) (hs : ∀ x ∈ s', x ∈ s ∨ a.heap.size ≤ x) : Only s a c :=
  ⟨k.os.trans h.os, k.tape.trans h.tape, k.output.trans h.output, Nat.le_trans h.size k.size, fun i hi hn => (k.block i (Nat.lt_of_lt_of_le hi h.size) (fun hm => by rcases hs i hm with h1 | h1; exact hn h1; omega)).trans (h.block i hi hn)⟩
theorem Only.trans {s : List Nat} {a b c : World} (h : Only s a b) (k : Only s b c) : Only s a c := h.next k fun _ hx => .inl hx
theorem Only.mono {s s' : List Nat} {a b : World} (h : Only s a b) (hs : ∀ x ∈ s, x ∈ s') : Only s' a b := ⟨h.os, h.tape, h.output, h.size, fun i hi hn => h.block i hi fun hm => hn (hs i hm)⟩
theorem Only.alloc {s : List Nat} {a w : World} (h : Only s a w) (o : Obj) : Only s a (w.alloc o) :=
  h.trans ⟨rfl, rfl, rfl, by simp, fun _ hk _ => Below.heap_alloc _ _ _ hk⟩
theorem Only.drew {s : List Nat} {a w : World} (h : Only s a w) : Only s a w.drew := ⟨h.os, h.tape, h.output, h.size, h.block⟩
theorem Only.drewN {s : List Nat} {a w : World} (h : Only s a w) (n : Nat) : Only s a (w.drewN n) := ⟨h.os, h.tape, h.output, h.size, h.block⟩
theorem Only.of_drew {s : List Nat} {a w : World} (h : Only s a.drew w) : Only s a w := ⟨h.os, h.tape, h.output, h.size, h.block⟩
theorem Only.of_drewN {s : List Nat} {a w : World} {n : Nat} (h : Only s (a.drewN n) w) : Only s a w := ⟨h.os, h.tape, h.output, h.size, h.block⟩
theorem Only.setCell {s : List Nat} {a w : World} (h : Only s a w) {p : Addr} (hp : p.block ∈ s) (u : Value) : Only s a (w.setCell p u) :=
  h.trans ⟨rfl, rfl, rfl, by simp [World.setCell], fun k _ hn => Below.heap_setCell _ _ _ _ (by rintro rfl; exact hn hp)⟩
theorem Only.setNew {s : List Nat} {a w : World} (h : Only s a w) {p : Addr} (hp : a.heap.size ≤ p.block) (u : Value) : Only s a (w.setCell p u) :=
  h.next (s' := [p.block]) ⟨rfl, rfl, rfl, by simp [World.setCell], fun k _ hn => Below.heap_setCell _ _ _ _ (by rintro rfl; simp at hn)⟩ (by intro x hx; simp at hx; subst hx; exact .inr hp)
theorem Only.of_below {w w' : World} (h : Below w.heap.size w w') (s : List Nat) : Only s w w' := ⟨h.os, h.tape, h.output, h.size, fun k hk _ => h.block k hk⟩
theorem Only.of_grown {w w' : World} {g : Nat} (h : w.grownBy w' (some g)) : Only [g] w w' := ⟨h.os, h.tape, h.output, h.size, fun k hk hn => h.block k hk (by intro e; apply hn; simp at e; subst e; simp)⟩
theorem Only.of_grown_own {w w' : World} {row : Option Nat} {s : List Nat} (h : w.grownBy w' row) (hs : ∀ g, row = some g → g ∈ s) : Only s w w' := ⟨h.os, h.tape, h.output, h.size, fun k hk hn => h.block k hk (by intro e; exact hn (hs k e.symm))⟩
theorem Only.below {s : List Nat} {B : Nat} {a b c : World} (h : Below B a b) (k : Only s b c) (hB : B ≤ b.heap.size) (hs : ∀ x ∈ s, B ≤ x) : Below B a c :=
  h.trans ⟨k.os, k.tape, k.output, k.size, fun i hi => k.block i (by omega) fun hm => by have := hs i hm; omega⟩
theorem Only.cell {s : List Nat} {w w' : World} (h : Only s w w') {p : Addr} (hp : p.block < w.heap.size) (hn : p.block ∉ s) : w'.cell? p = w.cell? p := World.cell?_of_block (w := w) (h.block p.block hp hn)
theorem Only.frozen {s : List Nat} {w w' : World} (h : Only s w w') {p : Addr} (hp : p.block < w.heap.size) (hn : p.block ∉ s) : w'.frozen? p = w.frozen? p := World.frozen?_of_block (w := w) (h.block p.block hp hn)
theorem Only.owns {s : List Nat} {w w' : World} {base : Nat} {e : TypeId} {size : Nat} {v : Value} {n : Nat} {xs : List Value} (hw : w.ownsRow base e size v n xs) (h : Only s w w') (hn : ∀ g, v.ownBlock = some g → g ∉ s) : w'.ownsRow base e size v n xs := by
  refine ⟨hw.1, ?_⟩
  rcases hw.2 with h2 | ⟨g, cap, cur, e1, e2, e3, e4⟩
  · exact .inl h2
  · have hlt : g < w.heap.size := (Array.getElem?_eq_some_iff.1 e3).1
    exact .inr ⟨g, cap, cur, e1, e2, (h.block g hlt (hn g (by rw [e1]; rfl))).trans e3, e4⟩
theorem Only.to_below {s : List Nat} {a c : World} (k : Only s a c) (hs : ∀ x ∈ s, a.heap.size ≤ x) : Below a.heap.size a c := Only.below (Below.refl _ _) k (Nat.le_refl _) hs
/-- what has turned lies above B -/
theorem Only.above {s : List Nat} {B : Nat} {a b c : World} (h : Below B a b) (k : Only s b c) (hB : B ≤ a.heap.size) (hs : ∀ x ∈ s, B ≤ x) : Below B a c := Only.below h k (Nat.le_trans hB h.size) hs
def ownL (v : Value) : List Nat := v.ownBlock.toList
theorem mem_ownL {v : Value} {g : Nat} : g ∈ ownL v ↔ v.ownBlock = some g := by
  unfold ownL; cases v.ownBlock <;> simp [eq_comm]
/-- two objects have no block in common -/
structure Disj (gx gy : Nat) (vx vy : Value) : Prop where
  ne : gx ≠ gy
  x : ∀ g ∈ ownL vx, g ≠ gy ∧ g ∉ ownL vy
  y : ∀ g ∈ ownL vy, g ≠ gx
theorem Disj.off {gx gy : Nat} {vx vy : Value} (h : Disj gx gy vx vy) : gy ∉ gx :: ownL vx ∧ ∀ g ∈ ownL vy, g ∉ gx :: ownL vx := by
  constructor
  · intro hm
    rcases List.mem_cons.1 hm with h1 | h1
    · exact h.ne h1.symm
    · exact (h.x _ h1).1 rfl
  · intro g hg hm
    rcases List.mem_cons.1 hm with h1 | h1
    · exact h.y g hg h1
    · exact (h.x g h1).2 hg
theorem Disj.symm {gx gy : Nat} {vx vy : Value} (h : Disj gx gy vx vy) : Disj gy gx vy vx :=
  ⟨h.ne.symm, fun g hg => ⟨h.y g hg, fun hm => (h.x g hm).2 hg⟩, fun g hg => (h.x g hg).1⟩
theorem Disj.grow {gx gy B : Nat} {vx vy vx' : Value} (h : Disj gx gy vx vy) (hg : ∀ g ∈ ownL vx', g ∈ ownL vx ∨ B ≤ g) (hy : gy < B) (hv : ∀ g ∈ ownL vy, g < B) : Disj gx gy vx' vy := by
  refine ⟨h.ne, ?_, h.y⟩
  intro g hm
  rcases hg g hm with h1 | h1
  · exact h.x g h1
  · exact ⟨by omega, fun h2 => by have := hv g h2; omega⟩
end Go.Proofs.YtlkneapidmdpbaaGreatDoor

namespace Go.Proofs.YtlkneapidmdpbaaGreatDoor
open Go.RowKit

def bv (b : UInt8) : Value := .int .u8 (b.toNat : Int)
def KeptAt (w : World) (base : Nat) (v : Value) (l : List UInt8) : Prop := w.ownsRow base 5 1 v l.length (l.map bv)
theorem infoU8 : (Tryz.prog.info? 5).map (fun i => (i.zero, i.size, i.bytes)) = some (some (.int .u8 0), 1, 1) := by kernel_rfl

theorem add_at (g j : Nat) : (⟨g, 0, none⟩ : Addr).add j = ⟨g, j, none⟩ := by unfold Addr.add; split <;> simp_all
/-- a row's cells, and its beginnings -/
theorem KeptAt.view {w : World} {base : Nat} {v : Value} {l : List UInt8} (h : KeptAt w base v l) : ∃ (A : Option Addr) (cap : Nat), v = .slice A l.length cap ∧ l.length ≤ cap ∧ cap ≤ maxLen ∧
    (∀ j (hj : j < l.length), ∃ ad, A = some ad ∧ w.cell? (ad.add j) = some (bv l[j])) ∧ (∀ m, m ≤ l.length → KeptAt w base (.slice A m cap) (l.take m)) := by
  rcases h.2 with ⟨e1, e2⟩ | ⟨g, cap, cur, e1, e2, e3, e4, e5, e6, e7⟩
  · have hl : l = [] := List.length_eq_zero_iff.1 e2
    subst hl
    refine ⟨none, 0, e1, Nat.zero_le _, Nat.zero_le _, fun j hj => by simp at hj, fun m hm => ?_⟩
    obtain rfl : m = 0 := by simpa using hm
    exact World.ownsRow_nil _ _ _ _
  · refine ⟨some ⟨g, 0, none⟩, cap, e1, e4, e5, fun j hj => ⟨_, rfl, ?_⟩, fun m hm => ?_⟩
    · exact h.cells (g := g) (by rw [e1]; rfl) j _ (by simp [hj])
    · refine ⟨by simp, .inr ⟨g, cap, cur, by simp [Nat.min_eq_left hm], e2, e3, by simp; omega, e5, e6, ?_⟩⟩
      simp only [Nat.mul_one, List.length_take, List.map_take, Nat.min_eq_left hm] at e7 ⊢
      rw [← e7, List.take_take, Nat.min_eq_left hm]
theorem KeptAt.only {s : List Nat} {w w' : World} {base : Nat} {v : Value} {l : List UInt8} (h : KeptAt w base v l) (k : Only s w w') (hn : ∀ g ∈ ownL v, g ∉ s) : KeptAt w' base v l := k.owns h (fun g hg => hn g (mem_ownL.2 hg))
theorem KeptAt.old {w w' : World} {base : Nat} {v : Value} {l : List UInt8} (h : KeptAt w base v l) (k : Only [] w w') : KeptAt w' base v l := h.only k (by simp)
theorem KeptAt.nil (w : World) (base : Nat) : KeptAt w base (.slice none 0 0) [] := World.ownsRow_nil _ _ _ _
theorem KeptAt.slice {w : World} {base : Nat} {v : Value} {l : List UInt8} (h : KeptAt w base v l) : ∃ A cap, v = .slice A l.length cap ∧ l.length ≤ cap ∧ cap ≤ maxLen := by
  obtain ⟨A, cap, e, h1, h2, _⟩ := h.view
  exact ⟨A, cap, e, h1, h2⟩
/-- a row's cells, as a source: nil has no room -/
theorem KeptAt.source {w : World} {base : Nat} {v : Value} {l : List UInt8} (h : KeptAt w base v l) : ∃ A cap, v = .slice A l.length cap ∧ l.length ≤ cap ∧ cap ≤ maxLen ∧ (A = none → cap = 0) ∧ ∀ j (hj : j < l.length), ∃ ad, A = some ad ∧ w.cell? (ad.add j) = some (bv l[j]) := by
  obtain ⟨A, cap, rfl, h1, h2, h3, _⟩ := h.view
  refine ⟨A, cap, rfl, h1, h2, fun e => ?_, h3⟩
  subst e
  rcases h.2 with ⟨e1, _⟩ | ⟨g, cap', cur, e1, _⟩
  · simp at e1; exact e1.2
  · simp at e1
theorem KeptAt.own {w : World} {base : Nat} {v : Value} {l : List UInt8} (h : KeptAt w base v l) {g : Nat} (hg : g ∈ ownL v) : base ≤ g ∧ g < w.heap.size := World.ownsRow.lt h g (mem_ownL.1 hg)
/-- a row of bytes of one's own, turned to text -/
theorem KeptAt.conv {w : World} {base : Nat} {v : Value} {l : List UInt8} (h : KeptAt w base v l) : (convert 130 9 v).run Tryz.prog w = .ok (.string ⟨l.toArray⟩) w := by
  obtain ⟨A, cap, rfl, _, _, hc, _⟩ := h.view
  by_cases h0 : l = []
  · subst h0
    rw [run_convert_bytes_string w 130 9 5 A _ cap Tryz.underlying130 Tryz.underlying5 Tryz.underlying9]
    cases A with
    | none => rfl
    | some ad => rw [List.length_nil, run_bytesToString w ad 0 cap [] (by simpa using run_loadCells_list (P := Tryz.prog) w ad [] (by simp))]; rfl
  obtain ⟨ad, rfl, _⟩ := hc 0 (List.length_pos_iff.2 h0)
  exact run_convert_bytes_back w 130 9 5 ad cap l Tryz.underlying130 Tryz.underlying5 Tryz.underlying9 (fun j hj => by
    obtain ⟨ad', e, hcell⟩ := hc j hj
    injection e with e
    subst e
    exact hcell)

/-- a slice of bytes: what its cells hold; none of them in the blocks of f -/
def BArg (w : World) (f : List Nat) (A : Option Addr) (l : List UInt8) : Prop :=
  ∀ j (hj : j < l.length), ∃ ad, A = some ad ∧ ad.block < w.heap.size ∧ ad.block ∉ f ∧ w.cell? (ad.add j) = some (bv l[j])
theorem BArg.only {f s : List Nat} {w w' : World} {A : Option Addr} {l : List UInt8} (h : BArg w f A l) (k : Only s w w') (hs : ∀ x ∈ s, x ∈ f) : BArg w' f A l := by
  intro j hj
  obtain ⟨ad, e, h1, h2, h3⟩ := h j hj
  exact ⟨ad, e, Nat.lt_of_lt_of_le h1 k.size, h2, (k.cell (p := ad.add j) (by rw [block_add]; exact h1) (by rw [block_add]; exact fun hm => h2 (hs _ hm))).trans h3⟩

theorem BArg.mono {f f' : List Nat} {w : World} {A : Option Addr} {l : List UInt8} (h : BArg w f A l) (hs : ∀ x ∈ f', x ∈ f) : BArg w f' A l := by
  intro j hj
  obtain ⟨ad, e, h1, h2, h3⟩ := h j hj
  exact ⟨ad, e, h1, fun hm => h2 (hs _ hm), h3⟩
/-- the beginning of a slice of bytes, turned to text -/
theorem BArg.conv {f : List Nat} {w : World} {A : Option Addr} {l : List UInt8} (h : BArg w f A l) {n : Nat} (cap : Nat) (hn : n ≤ l.length) : (convert 130 9 (.slice A n cap)).run Tryz.prog w = .ok (.string ⟨(l.take n).toArray⟩) w := by
  by_cases h0 : n = 0
  · subst h0
    rw [run_convert_bytes_string w 130 9 5 A _ cap Tryz.underlying130 Tryz.underlying5 Tryz.underlying9]
    cases A with
    | none => rfl
    | some ad => rw [run_bytesToString w ad 0 cap [] (by simpa using run_loadCells_list (P := Tryz.prog) w ad [] (by simp))]; rfl
  obtain ⟨ad, rfl, _⟩ := h 0 (by omega)
  have hl : (l.take n).length = n := by rw [List.length_take]; omega
  have key := run_convert_bytes_back w 130 9 5 ad cap (l.take n) Tryz.underlying130 Tryz.underlying5 Tryz.underlying9 (fun j hj => by
    obtain ⟨ad', e, _, _, hcell⟩ := h j (by omega)
    injection e with e
    subst e
    rw [hcell, List.getElem_take]
    rfl)
  rw [hl] at key
  exact key
theorem ints_bytes (xs : List Int) (h : ∀ x ∈ xs, (Lit.int .u8 x).wf = true) : ∃ b : List UInt8, b.length = xs.length ∧ ∀ j (hj : j < b.length), xs[j]? = some (b[j].toNat : Int) := by
  refine ⟨xs.map (fun x => UInt8.ofNat x.toNat), by simp, fun j hj => ?_⟩
  have hj2 : j < xs.length := by simpa using hj
  have hw := h xs[j] (List.getElem_mem hj2)
  simp [Lit.wf, IntKind.min, IntKind.max, IntKind.signed, IntKind.bits] at hw
  rw [List.getElem?_eq_getElem hj2]
  simp
  omega
/-- a slice of bytes that came in -/
theorem IArg.bytes {w : World} {a : Option Addr} {c : Nat} {xs : List Int} (h : IArg .u8 w a c xs) : ∃ b : List UInt8, b.length = xs.length ∧ ∀ w' f, Only f w w' → (∀ x ∈ f, w.heap.size ≤ x) → BArg w' f a b := by
  obtain ⟨b, h1, h2⟩ := ints_bytes xs h.2.1
  refine ⟨b, h1, fun w' f ho hf j hj => ?_⟩
  obtain ⟨ad, e1, e2, e3⟩ := h.1 j _ (h2 j hj)
  have hn : ad.block ∉ f := fun hm => by have := hf _ hm; omega
  exact ⟨ad, e1, Nat.lt_of_lt_of_le e2 ho.size, hn, (ho.cell (p := ad.add j) (by rw [block_add]; exact e2) (by rw [block_add]; exact hn)).trans e3⟩

theorem map_splice {α β : Type} (f : α → β) (L : List α) (off : Nat) (cs : List α) : splice (L.map f) off (cs.map f) = (splice L off cs).map f := by
  simp [splice, List.map_take, List.map_drop]
/-- block gd holds these bytes, and no other cell -/
def RowIn (w : World) (gd : Nat) (D : List UInt8) : Prop := w.heap[gd]? = some (.cells (D.map bv).toArray 5 (0, 0))
theorem RowIn.lt {w : World} {gd : Nat} {D : List UInt8} (h : RowIn w gd D) : gd < w.heap.size := (Array.getElem?_eq_some_iff.1 h).1
theorem RowIn.only {f : List Nat} {w w' : World} {gd : Nat} {D : List UInt8} (h : RowIn w gd D) (o : Only f w w') (hg : gd ∉ f) : RowIn w' gd D := (o.block gd h.lt hg).trans h
theorem RowIn.set {w : World} {gd g o : Nat} {D : List UInt8} (h : RowIn w gd D) (hg : g ≠ gd) (u : Value) : RowIn (w.setCell ⟨g, o, none⟩ u) gd D := (Below.heap_setCell _ _ _ _ (by simpa using hg.symm)).trans h
theorem RowIn.cell {w : World} {gd : Nat} {D : List UInt8} (h : RowIn w gd D) {j : Nat} (hj : j < D.length) : w.cell? ⟨gd, j, none⟩ = some (bv D[j]) := by
  unfold RowIn at h
  simp [World.cell?, h, hj]
theorem RowIn.sub {w : World} {gd s u : Nat} {D X : List UInt8} (h : RowIn w gd D) (hX : X = (D.drop s).take u) : ∀ j (hj : j < X.length), w.cell? ((⟨gd, s, none⟩ : Addr).add j) = some (bv X[j]) := by
  subst hX
  intro j hj
  have hj2 : s + j < D.length := by simp at hj; omega
  have e : (⟨gd, s, none⟩ : Addr).add j = ⟨gd, s + j, none⟩ := by unfold Addr.add; split <;> simp_all
  rw [e, h.cell hj2]
  simp
set_option maxRecDepth 20000 in
/-- copy(d, s), d in a row of one's own that is known whole, s any bytes -/
theorem wpList_copy_bytes {ops : Array Oper} {rest : List Oper} {o : Oper} {a : Act} {Q : Exit → Act → World → Prop} {w : World} (hgd : o.guard = none) (d s : Operand)
    (ho : o.op = .call { callee := .builtin .copy, args := #[d, s], argTypes := #[130, 130] })
    (dp sp : Option Addr) (dLen dCap sLen sCap : Nat) (hd : a.eval d = .slice dp dLen dCap) (hs : a.eval s = .slice sp sLen sCap)
    (g off : Nat) (D : List UInt8) (hg : RowIn w g D) (b : List UInt8) (hn : b.length = Nat.min sLen dLen)
    (hpos : 0 < b.length → dp = some ⟨g, off, none⟩ ∧ ∃ ad, sp = some ad ∧ ∀ j (hj : j < b.length), w.cell? (ad.add j) = some (bv b[j]))
    (hfit : off + b.length ≤ D.length)
    (h : ∀ w', Hid (RowIn w' g (splice D off b)) → Hid (Only [g] w w') → Hid (w'.heap.size = w.heap.size) → wpList Tryz.prog ops Q rest (a.put o.dst (.int .i64 b.length)) w') :
    wpList Tryz.prog ops Q (o :: rest) a w := by
  by_cases h0 : b.length = 0
  · obtain rfl : b = [] := List.eq_nil_of_length_eq_zero h0
    refine wpList_copy_nothing hgd d s _ _ ho 5 Tryz.underlying130 (by kernel_rfl) dp sp dLen dCap sLen sCap hd hs (by simpa using hn.symm) ?_
    exact h w (show RowIn _ _ _ by simpa [splice] using hg) (Only.refl _ _) (show _ = _ from rfl)
  · obtain ⟨rfl, ad, rfl, hsrc⟩ := hpos (by omega)
    have key := wpList_copy_own (P := Tryz.prog) (w := w) (ops := ops) (rest := rest) (o := o) (a := a) (Q := Q) hgd d s _ _ ho 5 Tryz.underlying130 (by kernel_rfl) g off dLen dCap ad sLen sCap hd hs (D.map bv).toArray 5 hg (b.map bv) (by simpa using hn)
      (fun j v hj => by
        rw [List.getElem?_map] at hj
        obtain ⟨x, hx, rfl⟩ := Option.map_eq_some_iff.1 hj
        obtain ⟨hj', rfl⟩ := List.getElem?_eq_some_iff.1 hx
        exact hsrc j hj') (by simpa using hfit) (by intro v hv; obtain ⟨x, _, rfl⟩ := List.mem_map.1 hv; rfl)
    refine key ?_
    rw [List.length_map]
    have e : ((D.map bv).toArray.toList.take off ++ (b.map bv ++ (D.map bv).toArray.toList.drop (off + b.length))).toArray = ((splice D off b).map bv).toArray := by
      rw [← map_splice]; simp [splice]
    rw [e]
    refine h _ (show RowIn _ _ _ from setRow_heap w g _ _ 5 _ hg) ?_ (show _ = _ by simp [World.setRow])
    exact ⟨rfl, rfl, rfl, by simp [World.setRow], fun k _ hk => setRow_other w g k _ (by simpa using hk)⟩
set_option maxRecDepth 20000 in
/-- append(v, b...), v a row of one's own, b any bytes -/
theorem wpList_append_bytes {ops : Array Oper} {rest : List Oper} {o : Oper} {a : Act} {Q : Exit → Act → World → Prop} {w : World} (hgd : o.guard = none) (s x : Operand)
    (ho : o.op = .call { callee := .builtin .append, args := #[s, x], argTypes := #[130, 130] })
    (base : Nat) (v : Value) (l : List UInt8) (hs : a.eval s = v) (hown : KeptAt w base v l) (A : Option Addr) (n c : Nat) (b : List UInt8) (hx : a.eval x = .slice A n c) (hn : n = b.length)
    (hc : A = none → c = 0) (hcell : ∀ j (hj : j < b.length), ∃ ad, A = some ad ∧ w.cell? (ad.add j) = some (bv b[j]))
    (hsm : l.length + b.length ≤ 100000) (hbase : base ≤ w.heap.size)
    (h : ∀ v' w', Hid (KeptAt w' base v' (l ++ b)) → Hid (Only (ownL v) w w') → (∀ g ∈ ownL v', g ∈ ownL v ∨ g = w.heap.size) → wpList Tryz.prog ops Q rest (a.put o.dst v') w') : wpList Tryz.prog ops Q (o :: rest) a w := by
  obtain ⟨i0, hi, hz0, hz1, hz2⟩ := info_parts infoU8
  subst hn
  cases A with
  | none =>
    have : b = [] := by
      cases b with
      | nil => rfl
      | cons y r => obtain ⟨ad, e, _⟩ := hcell 0 (by simp); cases e
    subst this
    have hc0 := hc rfl
    subst hc0
    refine wpList_append_own_none hgd s x 130 ho base 5 i0 1 Tryz.underlying130 hi v _ _ hs hown hx ?_
    exact h v w (show KeptAt _ _ _ _ by simpa using hown) (Only.refl _ _) (fun g hg => .inl hg)
  | some ad =>
    have hnews : ∀ j u, (b.map bv)[j]? = some u → w.cell? (ad.add j) = some u := by
      intro j u hj
      rw [List.getElem?_map] at hj
      obtain ⟨y, hy, rfl⟩ := Option.map_eq_some_iff.1 hj
      obtain ⟨hj', rfl⟩ := List.getElem?_eq_some_iff.1 hy
      obtain ⟨ad', e, h1⟩ := hcell j hj'
      injection e with e
      subst e
      exact h1
    refine wpList_append_own_at w hgd s x 130 ho base 5 i0 (.int .u8 0) 1 1 Tryz.underlying130 hi hz0 hz1 hz2 rfl (by decide) v _ _ hs hown ad b.length c (b.map bv) hx (by simp) hnews (by intro u hu; obtain ⟨y, _, rfl⟩ := List.mem_map.1 hu; rfl) (by unfold maxLen; omega) (by omega) hbase ?_
    intro v' w' h1 h2 _ h4
    refine h v' w' ?_ ?_ ?_
    · show KeptAt _ _ _ _
      unfold KeptAt
      rw [List.length_append, List.map_append]
      exact h1
    · exact Only.of_grown_own h2 (fun g hg => mem_ownL.2 hg)
    · intro g hg
      have hg' := mem_ownL.1 hg
      rcases h4 with h4 | h4
      · exact .inl (mem_ownL.2 (by rw [← h4]; exact hg'))
      · right
        rw [h4] at hg'
        injection hg' with hg'
        exact hg'.symm
set_option maxRecDepth 20000 in
/-- make([]byte, n) -/
theorem wpList_make_bytes {ops : Array Oper} {rest : List Oper} {o : Oper} {a : Act} {Q : Exit → Act → World → Prop} {w : World} (hg : o.guard = none) (l c : Operand) (hop : o.op = Op.makeSlice 130 l c)
    (n : Nat) (L C : Int) (hl : a.eval l = .int .i64 L) (hc : a.eval c = .int .i64 C) (hL : L = (n : Int)) (hC : C = (n : Int)) (hn : n ≤ 100000)
    (h : ∀ w', Hid (RowIn w' w.heap.size (List.replicate n 0)) → Hid (Only [] w w') → Hid (w'.heap.size = w.heap.size + 1) → wpList Tryz.prog ops Q rest (a.put o.dst (.slice (some ⟨w.heap.size, 0, none⟩) n n)) w') :
    wpList Tryz.prog ops Q (o :: rest) a w := by
  obtain ⟨i0, hi, hz0, hz1, hz2⟩ := info_parts infoU8
  refine wpList_plain hg fun K hK => ?_
  have hrun := run_make (P := Tryz.prog) w 130 5 i0 (.int .u8 0) Tryz.underlying130 hi hz0 .i64 .i64 (n : Int) (n : Int) (by omega) (by omega) (by rw [hz2]; omega) (by omega)
  subst hL
  subst hC
  unfold Oper.wp
  simp [execOp, hop, hl, hc, hrun, Result.andThen]
  refine hK _ _ (h _ ?_ ((Only.refl _ _).alloc _) (show _ = _ by simp))
  show RowIn _ _ _
  unfold RowIn
  rw [heap_alloc_new]
  congr 2
  apply Array.ext'
  rw [hz1]
  simp [toList_madeCells_one, Value.cells, bv]
end Go.Proofs.YtlkneapidmdpbaaGreatDoor
