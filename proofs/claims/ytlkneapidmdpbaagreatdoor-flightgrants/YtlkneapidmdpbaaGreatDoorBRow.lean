/-
  Words on a cache in memory, the program's or the document's own: its head, its row of entries; an entry or a cell in a box. Conditions: those of each statement.
-/
import Derived.Test.YtlkneapidmdpbaaGreatDoorLRec
import Derived.Test.YtlkneapidmdpbaaGreatDoorBMath
namespace Go.Proofs.YtlkneapidmdpbaaGreatDoor
open Go.RowKit

def eCs (e : En) : List Value := [.string e.k.o, .string e.k.u, .bool e.k.c, .string e.m, .string e.h, .int .u64 (e.t : Int)]
def eE : Enc En := ⟨eCs, 6, fun _ => rfl, fun _ u hu => by simp [eCs] at hu; rcases hu with rfl | rfl | rfl | rfl | rfl | rfl <;> rfl, by decide⟩
def entV (e : En) : Value := .agg #[.string e.k.o, .string e.k.u, .bool e.k.c, .string e.m, .string e.h, .int .u64 (e.t : Int)]
def cellV (k : Cl) : Value := .agg #[.string k.o, .string k.u, .bool k.c]
/-- a row of entries of one's own -/
def EnRow (w : World) (v : Value) (l : List En) : Prop := ERow eE 64 w 0 v l
section
variable {w w' : World} {v : Value} {l : List En}
theorem EnRow.nil : EnRow w (.slice none 0 0) [] := ERow.nil
theorem EnRow.only {s : List Nat} (h : EnRow w v l) (k : Only s w w') (hn : ∀ g ∈ ownL v, g ∉ s) : EnRow w' v l := ERow.only h k hn
theorem EnRow.old (h : EnRow w v l) (k : Only [] w w') : EnRow w' v l := h.only k (by simp)
theorem EnRow.own (h : EnRow w v l) {g : Nat} (hg : g ∈ ownL v) : g < w.heap.size := (ERow.own h hg).2
theorem EnRow.slice (h : EnRow w v l) : ∃ A cap, v = .slice A l.length cap ∧ l.length ≤ cap ∧ cap ≤ maxLen := ERow.slice h
theorem EnRow.some_ (h : EnRow w v l) (h0 : 0 < l.length) : ∃ g cap, v = .slice (some ⟨g, 0, none⟩) l.length cap ∧ g < w.heap.size ∧ l.length ≤ cap ∧ cap ≤ maxLen := by
  obtain ⟨g, cap, h1, _, h2⟩ := ERow.some_ h h0
  exact ⟨g, cap, h1, h2⟩
/-- the cells of an entry at a place of a row -/
structure EnAt (w : World) (g k : Nat) (e : En) : Prop where
  c0 : w.cell? ⟨g, k * 6, none⟩ = some (.string e.k.o)
  c1 : w.cell? ⟨g, k * 6 + 1, none⟩ = some (.string e.k.u)
  c2 : w.cell? ⟨g, k * 6 + 2, none⟩ = some (.bool e.k.c)
  c3 : w.cell? ⟨g, k * 6 + 3, none⟩ = some (.string e.m)
  c4 : w.cell? ⟨g, k * 6 + 4, none⟩ = some (.string e.h)
  c5 : w.cell? ⟨g, k * 6 + 5, none⟩ = some (.int .u64 (e.t : Int))
theorem EnRow.el {g n cap : Nat} (h : EnRow w (.slice (some ⟨g, 0, none⟩) n cap) l) (hn : n = l.length) {k : Nat} (hk : k < l.length) : EnAt w g k (nthE l k) := by
  rw [nthE_eq hk]
  have h0 := ERow.el h hn hk (t := 0) (by decide)
  have h1 := ERow.el h hn hk (t := 1) (by decide)
  have h2 := ERow.el h hn hk (t := 2) (by decide)
  have h3 := ERow.el h hn hk (t := 3) (by decide)
  have h4 := ERow.el h hn hk (t := 4) (by decide)
  have h5 := ERow.el h hn hk (t := 5) (by decide)
  exact ⟨h0, h1, h2, h3, h4, h5⟩
/-- an entry in a box -/
structure EnBox (w : World) (B : Nat) (e : En) : Prop where
  c0 : w.cell? ⟨B, 0, none⟩ = some (.string e.k.o)
  c1 : w.cell? ⟨B, 1, none⟩ = some (.string e.k.u)
  c2 : w.cell? ⟨B, 2, none⟩ = some (.bool e.k.c)
  c3 : w.cell? ⟨B, 3, none⟩ = some (.string e.m)
  c4 : w.cell? ⟨B, 4, none⟩ = some (.string e.h)
  c5 : w.cell? ⟨B, 5, none⟩ = some (.int .u64 (e.t : Int))
theorem EnBox.lt {B : Nat} {e : En} (h : EnBox w B e) : B < w.heap.size := block_of_cell (a := ⟨B, 0, none⟩) h.c0
theorem EnBox.only {s : List Nat} {B : Nat} {e : En} (h : EnBox w B e) (o : Only s w w') (hs : B ∉ s) : EnBox w' B e :=
  ⟨(o.cell (p := ⟨B, 0, none⟩) h.lt hs).trans h.c0, (o.cell (p := ⟨B, 1, none⟩) h.lt hs).trans h.c1, (o.cell (p := ⟨B, 2, none⟩) h.lt hs).trans h.c2,
   (o.cell (p := ⟨B, 3, none⟩) h.lt hs).trans h.c3, (o.cell (p := ⟨B, 4, none⟩) h.lt hs).trans h.c4, (o.cell (p := ⟨B, 5, none⟩) h.lt hs).trans h.c5⟩
theorem EnBox.old {B : Nat} {e : En} (h : EnBox w B e) (o : Only [] w w') : EnBox w' B e := h.only o (by simp)
/-- a cell in a box -/
structure ClBox (w : World) (B : Nat) (k : Cl) : Prop where
  c0 : w.cell? ⟨B, 0, none⟩ = some (.string k.o)
  c1 : w.cell? ⟨B, 1, none⟩ = some (.string k.u)
  c2 : w.cell? ⟨B, 2, none⟩ = some (.bool k.c)
theorem ClBox.lt {B : Nat} {k : Cl} (h : ClBox w B k) : B < w.heap.size := block_of_cell (a := ⟨B, 0, none⟩) h.c0
theorem ClBox.only {s : List Nat} {B : Nat} {k : Cl} (h : ClBox w B k) (o : Only s w w') (hs : B ∉ s) : ClBox w' B k :=
  ⟨(o.cell (p := ⟨B, 0, none⟩) h.lt hs).trans h.c0, (o.cell (p := ⟨B, 1, none⟩) h.lt hs).trans h.c1, (o.cell (p := ⟨B, 2, none⟩) h.lt hs).trans h.c2⟩
theorem ClBox.old {B : Nat} {k : Cl} (h : ClBox w B k) (o : Only [] w w') : ClBox w' B k := h.only o (by simp)
end
theorem ClBox.new (w : World) (k : Cl) (t : TypeId) : ClBox (w.alloc (.cells #[.string k.o, .string k.u, .bool k.c] t)) w.heap.size k := ⟨by simp, by simp, by simp⟩
theorem EnBox.new (w : World) (e : En) (t : TypeId) : EnBox (w.alloc (.cells #[.string e.k.o, .string e.k.u, .bool e.k.c, .string e.m, .string e.h, .int .u64 (e.t : Int)] t)) w.heap.size e := ⟨by simp, by simp, by simp, by simp, by simp, by simp⟩
abbrev zEV : Value := .agg #[.string ⟨#[]⟩, .string ⟨#[]⟩, .bool false, .string ⟨#[]⟩, .string ⟨#[]⟩, .int .u64 0]
theorem infoEn : (Tryz.prog.info? 64).map (fun i => (i.zero, i.size, i.bytes)) = some (some zEV, 6, 80) := by kernel_rfl
theorem zeroEn : ∀ w, (zeroValue 64).run Tryz.prog w = .ok zEV w := fun w => by kernel_rfl
theorem eqE_cell (a b s h : ByteArray) (n k : Bool) (w : World) : (Op.equalIn 10000 45 (.agg #[.string a, .string b, .bool n]) (.agg #[.string s, .string h, .bool k])).run Tryz.prog w = .ok (cellB ⟨a, b, n⟩ ⟨s, h, k⟩) w := by
  unfold cellB tB
  cases h1 : a.toList == s.toList <;> cases h2 : b.toList == h.toList <;> cases h3 : n == k <;> simp [go_sem, h1, h2, h3]
theorem eqlE_cell (a b s h : ByteArray) (n k : Bool) (w : World) : (binOp .eql 45 (.agg #[.string a, .string b, .bool n]) (.agg #[.string s, .string h, .bool k])).run Tryz.prog w = .ok (.bool (cellB ⟨a, b, n⟩ ⟨s, h, k⟩)) w := by
  rw [run_eql_struct, eqE_cell]; rfl
theorem neqE_cell (a b s h : ByteArray) (n k : Bool) (w : World) : (binOp .neq 45 (.agg #[.string a, .string b, .bool n]) (.agg #[.string s, .string h, .bool k])).run Tryz.prog w = .ok (.bool (!cellB ⟨a, b, n⟩ ⟨s, h, k⟩)) w := by
  rw [run_neq_struct, eqE_cell]; rfl
/-- append(v, entry): v a row of one's own -/
theorem wpList_append_ent {ops : Array Oper} {rest : List Oper} {o : Oper} {a : Act} {Q : Exit → Act → World → Prop} {w : World} (hgd : o.guard = none) (s x : Operand)
    (ho : o.op = .call { callee := .builtin .append, args := #[s, x], argTypes := #[41, 41] })
    (v : Value) (l : List En) (hs : a.eval s = v) (hown : EnRow w v l) (B : Nat) (u : En) (hx : a.eval x = .slice (some ⟨B, 0, none⟩) 1 1) (hb : EnBox w B u) (hsm : l.length ≤ 100000)
    (h : ∀ g2 cap w', Hid (EnRow w' (.slice (some ⟨g2, 0, none⟩) (l.length + 1) cap) (l ++ [u])) → Hid (Only (ownL v) w w') → Hid (g2 ∈ ownL v ∨ g2 = w.heap.size) → wpList Tryz.prog ops Q rest (a.put o.dst (.slice (some ⟨g2, 0, none⟩) (l.length + 1) cap)) w') : wpList Tryz.prog ops Q (o :: rest) a w :=
  wpList_append_rec eE hgd s x _ 64 ho Tryz.underlying41 zEV 80 infoEn rfl 0 v l hs hown B u hx (fun j hj => by
    match j, hj with
    | 0, _ => exact hb.c0
    | 1, _ => exact hb.c1
    | 2, _ => exact hb.c2
    | 3, _ => exact hb.c3
    | 4, _ => exact hb.c4
    | 5, _ => exact hb.c5
    | j + 6, hj => exact absurd hj (by show ¬ j + 6 < 6; omega)) hsm (by omega) (Nat.zero_le _) h
/-- append(v, part..): v a row of one's own -/
theorem wpList_append_ents {ops : Array Oper} {rest : List Oper} {o : Oper} {a : Act} {Q : Exit → Act → World → Prop} {w : World} (hgd : o.guard = none) (s x : Operand)
    (ho : o.op = .call { callee := .builtin .append, args := #[s, x], argTypes := #[41, 41] })
    (v : Value) (l : List En) (hs : a.eval s = v) (hown : EnRow w v l) (xv : Value) (p : List En) (hx : a.eval x = xv) (hp : PartAt eE w xv p) (hsm : l.length + p.length ≤ 100000)
    (h : ∀ v' w', Hid (EnRow w' v' (l ++ p)) → Hid (Only (ownL v) w w') → Hid (∀ y ∈ ownL v', y ∈ ownL v ∨ y = w.heap.size) → wpList Tryz.prog ops Q rest (a.put o.dst v') w') : wpList Tryz.prog ops Q (o :: rest) a w :=
  wpList_append_part eE hgd s x _ 64 ho Tryz.underlying41 zEV 80 infoEn rfl 0 v l hs hown xv p hx hp hsm (by omega) (Nat.zero_le _) h

/-- what a value owns then, it owned, or it is new -/
def Grow (n : Nat) (v v' : Value) : Prop := ∀ x ∈ ownL v', x ∈ ownL v ∨ n ≤ x
theorem Grow.refl (n : Nat) (v : Value) : Grow n v v := fun _ h => .inl h
theorem Grow.trans {n m : Nat} {a b c : Value} (h : Grow n a b) (k : Grow m b c) (hm : n ≤ m) : Grow n a c := by
  intro x hx
  rcases k x hx with h1 | h1
  · exact h x h1
  · exact .inr (Nat.le_trans hm h1)
/-- at block g lies a cache for at most n entries -/
structure CaAt (w : World) (g n : Nat) (v : Value) (l : List En) : Prop where
  c0 : w.cell? ⟨g, 0, none⟩ = some (.int .i64 (n : Int))
  c1 : w.cell? ⟨g, 1, none⟩ = some v
  z1 : w.frozen? ⟨g, 1, none⟩ = false
  row : EnRow w v l
  ne : g ∉ ownL v
  n1 : 1 ≤ n
  n2 : n ≤ 64
  len : l.length ≤ n
section
variable {w w' : World} {g n : Nat} {v v' : Value} {l l' : List En}
theorem CaAt.lt (h : CaAt w g n v l) : g < w.heap.size := block_of_cell (a := ⟨g, 0, none⟩) h.c0
theorem CaAt.own (h : CaAt w g n v l) {x : Nat} (hx : x ∈ g :: ownL v) : x < w.heap.size := by
  rcases List.mem_cons.1 hx with rfl | h1
  · exact h.lt
  · exact h.row.own h1
theorem CaAt.only {s : List Nat} (h : CaAt w g n v l) (o : Only s w w') (hs : ∀ x ∈ g :: ownL v, x ∉ s) : CaAt w' g n v l :=
  ⟨(o.cell (p := ⟨g, 0, none⟩) h.lt (hs g (by simp))).trans h.c0, (o.cell (p := ⟨g, 1, none⟩) h.lt (hs g (by simp))).trans h.c1, (o.frozen (p := ⟨g, 1, none⟩) h.lt (hs g (by simp))).trans h.z1,
   h.row.only o (fun x hx => hs x (by simp [hx])), h.ne, h.n1, h.n2, h.len⟩
theorem CaAt.old (h : CaAt w g n v l) (o : Only [] w w') : CaAt w' g n v l := h.only o (by simp)
/-- its row is another one -/
theorem CaAt.turn (h : CaAt w g n v l) (o : Only (ownL v) w w') (hr : EnRow w' v' l') (hv : Grow w.heap.size v v') (hl : l'.length ≤ n) : CaAt (w'.setCell ⟨g, 1, none⟩ v') g n v' l' := by
  have hg : g ∉ ownL v' := fun hm => by rcases hv g hm with h1 | h1; exact h.ne h1; have := h.lt; omega
  have d1 : w'.cell? ⟨g, 1, none⟩ = some v := (o.cell (p := ⟨g, 1, none⟩) h.lt h.ne).trans h.c1
  have d0 : w'.cell? ⟨g, 0, none⟩ = some (.int .i64 (n : Int)) := (o.cell (p := ⟨g, 0, none⟩) h.lt h.ne).trans h.c0
  refine ⟨?_, World.cell?_setCell_same _ _ _ d1, ?_, ?_, hg, h.n1, h.n2, hl⟩
  · rw [World.cell?_setCell_other _ _ _ _ (by simp)]; exact d0
  · rw [World.frozen?_setCell]; exact (o.frozen (p := ⟨g, 1, none⟩) h.lt h.ne).trans h.z1
  · refine hr.only (s := [g]) ((Only.refl _ _).setCell (p := ⟨g, 1, none⟩) (by simp) _) ?_
    intro x hx hm
    simp at hm; subst hm; exact hg hx
/-- a step on the cache: what it is then, and what has turned -/
def CaStep (w w' : World) (g n : Nat) (v : Value) (l' : List En) : Prop := ∃ v', CaAt w' g n v' l' ∧ Only (g :: ownL v) w w' ∧ Grow w.heap.size v v'
theorem CaStep.next {w'' : World} {l'' : List En} (o : Only (g :: ownL v) w w') (hv : Grow w.heap.size v v') (k : CaStep w' w'' g n v' l'') : CaStep w w'' g n v l'' := by
  obtain ⟨a, p, q, r⟩ := k
  refine ⟨a, p, o.next q ?_, hv.trans r o.size⟩
  intro x hx
  rcases List.mem_cons.1 hx with rfl | h1
  · exact .inl (by simp)
  · rcases hv x h1 with h2 | h2; exact .inl (by simp [h2]); exact .inr h2
theorem CaStep.same (h : CaAt w g n v l) (o : Only [] w w') : CaStep w w' g n v l := ⟨v, h.old o, o.mono (by simp), Grow.refl _ _⟩
end
end Go.Proofs.YtlkneapidmdpbaaGreatDoor
