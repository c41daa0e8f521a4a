/-
  Words on a table of preflights in memory, the program's or the document's own: its head, its row of preflights, the row of members of each. Conditions: those of each statement.
-/
import Derived.Test.YtcljmdpnbfefbaaKInts
import Derived.Test.YtcljmdpnbfefbaaKPart
import Derived.Test.YtcljmdpnbfefbaaXMath
namespace Go.Proofs.Ytcljmdpnbfefbaa
open Go.RowKit

/-- a preflight as it lies in memory: where its members lie, how many have room -/
structure Px where
  p : Pv
  A : Option Addr
  c : Nat
abbrev Px.v (x : Px) : Value := .slice x.A x.p.i.length x.c
def pCs (x : Px) : List Value := [.int .i64 (x.p.n : Int), .string x.p.w.o, .string x.p.w.u, .bool x.p.w.c, .string x.p.w.m, .string x.p.w.s, .slice x.A x.p.i.length x.c]
def pE : Enc Px := ⟨pCs, 7, fun _ => rfl, fun _ u hu => by simp [pCs] at hu; rcases hu with rfl | rfl | rfl | rfl | rfl | rfl | rfl <;> rfl, by decide⟩
def pV (x : Px) : Value := .agg #[.int .i64 (x.p.n : Int), .string x.p.w.o, .string x.p.w.u, .bool x.p.w.c, .string x.p.w.m, .string x.p.w.s, .slice x.A x.p.i.length x.c]
def wV (w : Wt) : Value := .agg #[.string w.o, .string w.u, .bool w.c, .string w.m, .string w.s]
def zX : Px := ⟨zP, none, 0⟩
def nthX (l : List Px) (k : Nat) : Px := l.getD k zX
theorem nthX_eq {l : List Px} {k : Nat} (h : k < l.length) : nthX l k = l[k] := by simp [nthX, h]
theorem nthX_mem {l : List Px} {k : Nat} (h : k < l.length) : nthX l k ∈ l := by rw [nthX_eq h]; exact List.getElem_mem h
theorem nthX_p {l : List Px} {m : List Pv} (e : l.map Px.p = m) {k : Nat} : (nthX l k).p = nthP m k := by
  subst e
  by_cases h : k < l.length
  · rw [nthX_eq h, nthP_eq (by simpa using h)]; simp
  · simp [nthX, nthP, List.getD, List.getElem?_eq_none (Nat.le_of_not_lt h), zX]
/-- a row of preflights of one's own -/
def PRow (e : TypeId) (w : World) (v : Value) (l : List Px) : Prop := ERow pE e w 0 v l
section
variable {e : TypeId} {w w' : World} {v : Value} {l : List Px}
theorem PRow.nil : PRow e w (.slice none 0 0) [] := ERow.nil
theorem PRow.only {s : List Nat} (h : PRow e w v l) (k : Only s w w') (hn : ∀ g ∈ ownL v, g ∉ s) : PRow e w' v l := ERow.only h k hn
theorem PRow.old (h : PRow e w v l) (k : Only [] w w') : PRow e w' v l := h.only k (by simp)
theorem PRow.own (h : PRow e w v l) {g : Nat} (hg : g ∈ ownL v) : g < w.heap.size := (ERow.own h hg).2
theorem PRow.slice (h : PRow e w v l) : ∃ A cap, v = .slice A l.length cap ∧ l.length ≤ cap ∧ cap ≤ maxLen := ERow.slice h
theorem PRow.some_ (h : PRow e w v l) (h0 : 0 < l.length) : ∃ g cap, v = .slice (some ⟨g, 0, none⟩) l.length cap ∧ g < w.heap.size ∧ l.length ≤ cap ∧ cap ≤ maxLen := by
  obtain ⟨g, cap, h1, _, h2⟩ := ERow.some_ h h0
  exact ⟨g, cap, h1, h2⟩
/-- the cells of a preflight, from a cell on -/
structure PxAt (w : World) (g o : Nat) (x : Px) : Prop where
  c0 : w.cell? ⟨g, o, none⟩ = some (.int .i64 (x.p.n : Int))
  c1 : w.cell? ⟨g, o + 1, none⟩ = some (.string x.p.w.o)
  c2 : w.cell? ⟨g, o + 2, none⟩ = some (.string x.p.w.u)
  c3 : w.cell? ⟨g, o + 3, none⟩ = some (.bool x.p.w.c)
  c4 : w.cell? ⟨g, o + 4, none⟩ = some (.string x.p.w.m)
  c5 : w.cell? ⟨g, o + 5, none⟩ = some (.string x.p.w.s)
  c6 : w.cell? ⟨g, o + 6, none⟩ = some (.slice x.A x.p.i.length x.c)
theorem PRow.el {g n cap : Nat} (h : PRow e w (.slice (some ⟨g, 0, none⟩) n cap) l) (hn : n = l.length) {k : Nat} (hk : k < l.length) : PxAt w g (k * 7) (nthX l k) := by
  rw [nthX_eq hk]
  have h0 := ERow.el h hn hk (t := 0) (by decide)
  have h1 := ERow.el h hn hk (t := 1) (by decide)
  have h2 := ERow.el h hn hk (t := 2) (by decide)
  have h3 := ERow.el h hn hk (t := 3) (by decide)
  have h4 := ERow.el h hn hk (t := 4) (by decide)
  have h5 := ERow.el h hn hk (t := 5) (by decide)
  have h6 := ERow.el h hn hk (t := 6) (by decide)
  exact ⟨h0, h1, h2, h3, h4, h5, h6⟩
theorem PRow.thaw {g n cap : Nat} (h : PRow e w (.slice (some ⟨g, 0, none⟩) n cap) l) (hn : n = l.length) (j : Nat) : w.frozen? ⟨g, j, none⟩ = false := ERow.thaw h hn j
/-- a want in a box -/
structure WtAt (w : World) (B o : Nat) (k : Wt) : Prop where
  c0 : w.cell? ⟨B, o, none⟩ = some (.string k.o)
  c1 : w.cell? ⟨B, o + 1, none⟩ = some (.string k.u)
  c2 : w.cell? ⟨B, o + 2, none⟩ = some (.bool k.c)
  c3 : w.cell? ⟨B, o + 3, none⟩ = some (.string k.m)
  c4 : w.cell? ⟨B, o + 4, none⟩ = some (.string k.s)
theorem WtAt.lt {B o : Nat} {k : Wt} (h : WtAt w B o k) : B < w.heap.size := block_of_cell (a := ⟨B, o, none⟩) h.c0
theorem WtAt.only {s : List Nat} {B o : Nat} {k : Wt} (h : WtAt w B o k) (q : Only s w w') (hs : B ∉ s) : WtAt w' B o k :=
  ⟨(q.cell (p := ⟨B, o, none⟩) h.lt hs).trans h.c0, (q.cell (p := ⟨B, o + 1, none⟩) h.lt hs).trans h.c1, (q.cell (p := ⟨B, o + 2, none⟩) h.lt hs).trans h.c2,
   (q.cell (p := ⟨B, o + 3, none⟩) h.lt hs).trans h.c3, (q.cell (p := ⟨B, o + 4, none⟩) h.lt hs).trans h.c4⟩
theorem WtAt.old {B o : Nat} {k : Wt} (h : WtAt w B o k) (q : Only [] w w') : WtAt w' B o k := h.only q (by simp)
end
theorem WtAt.new (w : World) (k : Wt) (t : TypeId) : WtAt (w.alloc (.cells #[.string k.o, .string k.u, .bool k.c, .string k.m, .string k.s] t)) w.heap.size 0 k := ⟨by simp, by simp, by simp, by simp, by simp⟩
theorem PxAt.new (w : World) (x : Px) (t : TypeId) : PxAt (w.alloc (.cells #[.int .i64 (x.p.n : Int), .string x.p.w.o, .string x.p.w.u, .bool x.p.w.c, .string x.p.w.m, .string x.p.w.s, .slice x.A x.p.i.length x.c] t)) w.heap.size 0 x := ⟨by simp, by simp, by simp, by simp, by simp, by simp, by simp⟩
abbrev zPV : Value := .agg #[.int .i64 0, .string ⟨#[]⟩, .string ⟨#[]⟩, .bool false, .string ⟨#[]⟩, .string ⟨#[]⟩, .slice none 0 0]
theorem infoP : (Try.prog.info? 71).map (fun i => (i.zero, i.size, i.bytes)) = some (some zPV, 7, 104) := by kernel_rfl
theorem infoR : (Try.prog.info? 76).map (fun i => (i.zero, i.size, i.bytes)) = some (some zPV, 7, 104) := by kernel_rfl
theorem zeroP : ∀ w, (zeroValue 71).run Try.prog w = .ok zPV w := fun w => by kernel_rfl
/-- append(v, preflight): v a row of one's own -/
theorem wpList_append_pre {ops : Array Oper} {rest : List Oper} {o : Oper} {a : Act} {Q : Exit → Act → World → Prop} {w : World} (hgd : o.guard = none) (s x : Operand) (t e : TypeId)
    (ho : o.op = .call { callee := .builtin .append, args := #[s, x], argTypes := #[t, t] }) (ht : Try.prog.underlying t = some (.slice e))
    (hinfo : (Try.prog.info? e).map (fun i => (i.zero, i.size, i.bytes)) = some (some zPV, 7, 104))
    (v : Value) (l : List Px) (hs : a.eval s = v) (hown : PRow e w v l) (B : Nat) (u : Px) (hx : a.eval x = .slice (some ⟨B, 0, none⟩) 1 1) (hb : PxAt w B 0 u) (hsm : l.length ≤ 100000)
    (h : ∀ g2 cap w', Hid (PRow e w' (.slice (some ⟨g2, 0, none⟩) (l.length + 1) cap) (l ++ [u])) → Hid (Only (ownL v) w w') → Hid (g2 ∈ ownL v ∨ g2 = w.heap.size) → wpList Try.prog ops Q rest (a.put o.dst (.slice (some ⟨g2, 0, none⟩) (l.length + 1) cap)) w') : wpList Try.prog ops Q (o :: rest) a w :=
  wpList_append_rec pE hgd s x t e ho ht zPV 104 hinfo rfl 0 v l hs hown B u hx (fun j hj => by
    match j, hj with
    | 0, _ => exact hb.c0
    | 1, _ => exact hb.c1
    | 2, _ => exact hb.c2
    | 3, _ => exact hb.c3
    | 4, _ => exact hb.c4
    | 5, _ => exact hb.c5
    | 6, _ => exact hb.c6
    | j + 7, hj => exact absurd hj (by show ¬ j + 7 < 7; omega)) hsm (by omega) (Nat.zero_le _) h
/-- append(v, part..): v a row of one's own -/
theorem wpList_append_pres {ops : Array Oper} {rest : List Oper} {o : Oper} {a : Act} {Q : Exit → Act → World → Prop} {w : World} (hgd : o.guard = none) (s x : Operand) (t e : TypeId)
    (ho : o.op = .call { callee := .builtin .append, args := #[s, x], argTypes := #[t, t] }) (ht : Try.prog.underlying t = some (.slice e))
    (hinfo : (Try.prog.info? e).map (fun i => (i.zero, i.size, i.bytes)) = some (some zPV, 7, 104))
    (v : Value) (l : List Px) (hs : a.eval s = v) (hown : PRow e w v l) (xv : Value) (p : List Px) (hx : a.eval x = xv) (hp : PartAt pE w xv p) (hsm : l.length + p.length ≤ 100000)
    (h : ∀ v' w', Hid (PRow e w' v' (l ++ p)) → Hid (Only (ownL v) w w') → Hid (∀ y ∈ ownL v', y ∈ ownL v ∨ y = w.heap.size) → wpList Try.prog ops Q rest (a.put o.dst v') w') : wpList Try.prog ops Q (o :: rest) a w :=
  wpList_append_part pE hgd s x t e ho ht zPV 104 hinfo rfl 0 v l hs hown xv p hx hp hsm (by omega) (Nat.zero_le _) h
/-- append(v, numbers..): v a row of one's own -/
theorem wpList_append_ints {ops : Array Oper} {rest : List Oper} {o : Oper} {a : Act} {Q : Exit → Act → World → Prop} {w : World} (hgd : o.guard = none) (s x : Operand)
    (ho : o.op = .call { callee := .builtin .append, args := #[s, x], argTypes := #[42, 42] })
    (v : Value) (l : List Int) (hs : a.eval s = v) (hown : IRow w v l) (xv : Value) (p : List Int) (hx : a.eval x = xv) (hp : PartAt nE w xv p) (hsm : l.length + p.length ≤ 100000)
    (h : ∀ v' w', Hid (IRow w' v' (l ++ p)) → Hid (Only (ownL v) w w') → Hid (∀ y ∈ ownL v', y ∈ ownL v ∨ y = w.heap.size) → wpList Try.prog ops Q rest (a.put o.dst v') w') : wpList Try.prog ops Q (o :: rest) a w :=
  wpList_append_part nE hgd s x _ 3 ho Try.underlying42 (.int .i64 0) 8 infoI rfl 0 v l hs hown xv p hx hp hsm (by omega) (Nat.zero_le _) h

/-- what a value owns then, it owned, or it is new -/
def Grow (n : Nat) (v v' : Value) : Prop := ∀ x ∈ ownL v', x ∈ ownL v ∨ n ≤ x
theorem Grow.refl (n : Nat) (v : Value) : Grow n v v := fun _ h => .inl h
theorem own_one (v : Value) : (ownL v).Nodup := by unfold ownL; cases v.ownBlock <;> simp
/-- the blocks of all members -/
def feet (l : List Px) : List Nat := l.flatMap (fun x => ownL x.v)
theorem feet_cons (x : Px) (l : List Px) : feet (x :: l) = ownL x.v ++ feet l := rfl
theorem feet_append (l m : List Px) : feet (l ++ m) = feet l ++ feet m := by simp [feet]
theorem mem_feet {l : List Px} {y : Nat} : y ∈ feet l ↔ ∃ x ∈ l, y ∈ ownL x.v := by simp [feet]
theorem feet_nth {l : List Px} {k : Nat} (hk : k < l.length) {y : Nat} (h : y ∈ ownL (nthX l k).v) : y ∈ feet l := mem_feet.2 ⟨_, nthX_mem hk, h⟩
theorem feet_erase (l : List Px) : ∀ k, (feet (l.eraseIdx k)).Sublist (feet l) := by
  induction l with
  | nil => intro k; simp [feet]
  | cons x r ih => intro k; cases k with
    | zero => rw [List.eraseIdx_zero, feet_cons]; exact List.sublist_append_right _ _
    | succ k => rw [List.eraseIdx_cons_succ, feet_cons, feet_cons]; exact (ih k).append_left _
/-- members anew in blocks that they had, or new ones -/
theorem feet_set {n : Nat} {y : Px} : ∀ {l : List Px} {k : Nat} (_ : k < l.length), Grow n (nthX l k).v y.v → (∀ z ∈ feet l, z < n) → (feet l).Nodup → (feet (l.set k y)).Nodup ∧ ∀ z ∈ feet (l.set k y), z ∈ feet l ∨ n ≤ z
  | [], k, hk, _, _, _ => by simp at hk
  | x :: r, 0, _, hg, hl, hd => by
    rw [feet_cons] at hd hl
    rw [List.set_cons_zero, feet_cons, feet_cons]
    have hg' : Grow n x.v y.v := hg
    rw [List.nodup_append] at hd ⊢
    refine ⟨⟨own_one _, hd.2.1, fun a ha b hb => ?_⟩, fun z hz => ?_⟩
    · rintro rfl
      rcases hg' a ha with h1 | h1
      · exact hd.2.2 a h1 a hb rfl
      · have := hl a (by simp [hb]); omega
    · rcases List.mem_append.1 hz with h1 | h1
      · rcases hg' z h1 with h2 | h2; exact .inl (by simp [h2]); exact .inr h2
      · exact .inl (by simp [h1])
  | x :: r, k + 1, hk, hg, hl, hd => by
    rw [feet_cons] at hd hl
    rw [List.set_cons_succ, feet_cons, feet_cons]
    have e : nthX (x :: r) (k + 1) = nthX r k := by simp [nthX]
    rw [e] at hg
    rw [List.nodup_append] at hd ⊢
    obtain ⟨h1, h2⟩ := feet_set (l := r) (k := k) (by simpa using hk) hg (fun z hz => hl z (by simp [hz])) hd.2.1
    refine ⟨⟨hd.1, h1, fun a ha b hb => ?_⟩, fun z hz => ?_⟩
    · rintro rfl
      rcases h2 a hb with h3 | h3
      · exact hd.2.2 a ha a h3 rfl
      · have := hl a (by simp [ha]); omega
    · rcases List.mem_append.1 hz with h3 | h3
      · exact .inl (by simp [h3])
      · rcases h2 z h3 with h4 | h4; exact .inl (by simp [h4]); exact .inr h4
/-- members of two preflights lie apart -/
theorem feet_apart : ∀ {l : List Px} {j k : Nat} (_ : (feet l).Nodup) (_ : j < l.length) (_ : k < l.length) (_ : j ≠ k) {z : Nat}, z ∈ ownL (nthX l j).v → z ∉ ownL (nthX l k).v
  | [], _, _, _, hj, _, _, _, _ => by simp at hj
  | x :: r, 0, 0, _, _, _, hn, _, _ => absurd rfl hn
  | x :: r, 0, k + 1, hd, _, hk, _, z, hz => fun hm => by
    rw [feet_cons, List.nodup_append] at hd
    have e : nthX (x :: r) (k + 1) = nthX r k := by simp [nthX]
    rw [e] at hm
    exact hd.2.2 z hz z (feet_nth (by simpa using hk) hm) rfl
  | x :: r, j + 1, 0, hd, hj, _, _, z, hz => fun hm => by
    rw [feet_cons, List.nodup_append] at hd
    have e : nthX (x :: r) (j + 1) = nthX r j := by simp [nthX]
    rw [e] at hz
    exact hd.2.2 z hm z (feet_nth (by simpa using hj) hz) rfl
  | x :: r, j + 1, k + 1, hd, hj, hk, hn, z, hz => by
    rw [feet_cons, List.nodup_append] at hd
    have e1 : nthX (x :: r) (j + 1) = nthX r j := by simp [nthX]
    have e2 : nthX (x :: r) (k + 1) = nthX r k := by simp [nthX]
    rw [e1] at hz
    rw [e2]
    exact feet_apart hd.2.1 (by simpa using hj) (by simpa using hk) (by omega) hz
theorem ecs_member {y : Px} : ∀ {l : List Px} {k : Nat} (_ : k < l.length) (_ : y.p.n = (nthX l k).p.n) (_ : y.p.w = (nthX l k).p.w), (ecs pE l).set (k * 7 + 6) y.v = ecs pE (l.set k y)
  | [], _, hk, _, _ => by simp at hk
  | x :: r, 0, _, h1, h2 => by
    rw [List.set_cons_zero, ecs_cons, ecs_cons]
    have h1' : y.p.n = x.p.n := h1
    have h2' : y.p.w = x.p.w := h2
    show (pCs x ++ ecs pE r).set 6 y.v = pCs y ++ ecs pE r
    unfold pCs
    rw [h1', h2']
    rfl
  | x :: r, k + 1, hk, h1, h2 => by
    rw [List.set_cons_succ, ecs_cons, ecs_cons, List.set_append_right _ _ (by rw [pE.len]; show 7 ≤ _; omega), pE.len]
    have e : nthX (x :: r) (k + 1) = nthX r k := by simp [nthX]
    rw [e] at h1 h2
    rw [show (k + 1) * 7 + 6 - pE.n = k * 7 + 6 by show _ - 7 = _; omega, ecs_member (by simpa using hk) h1 h2]
/-- all blocks of a table -/
def foot (g : Nat) (v : Value) (l : List Px) : List Nat := g :: (ownL v ++ feet l)
theorem mem_foot {g y : Nat} {v : Value} {l : List Px} : y ∈ foot g v l ↔ y = g ∨ y ∈ ownL v ∨ y ∈ feet l := by simp [foot]
theorem foot_nodup {g : Nat} {v : Value} {l : List Px} : (foot g v l).Nodup ↔ g ∉ ownL v ∧ g ∉ feet l ∧ (∀ y ∈ ownL v, y ∉ feet l) ∧ (feet l).Nodup := by
  unfold foot
  rw [List.nodup_cons, List.nodup_append]
  constructor
  · rintro ⟨h1, _, h2, h3⟩
    exact ⟨fun h => h1 (by simp [h]), fun h => h1 (by simp [h]), fun y hy hf => h3 y hy y hf rfl, h2⟩
  · rintro ⟨h1, h2, h3, h4⟩
    exact ⟨fun h => by rcases List.mem_append.1 h with h5 | h5; exact h1 h5; exact h2 h5, own_one _, h4, fun a ha b hb e => by subst e; exact h3 a ha hb⟩
/-- at block g lies a table: the number given last and d, its row -/
structure ShAt (e : TypeId) (d : Nat) (w : World) (g : Nat) (v : Value) (last : Nat) (l : List Px) : Prop where
  c0 : w.cell? ⟨g, 0, none⟩ = some (.int .i64 ((last + d : Nat) : Int))
  c1 : w.cell? ⟨g, 1, none⟩ = some v
  z0 : w.frozen? ⟨g, 0, none⟩ = false
  z1 : w.frozen? ⟨g, 1, none⟩ = false
  row : PRow e w v l
  ids : ∀ x ∈ l, IRow w x.v x.p.i
  nd : (foot g v l).Nodup
section
variable {e : TypeId} {d g last : Nat} {w w' : World} {v v' : Value} {l l' : List Px}
theorem ShAt.lt (h : ShAt e d w g v last l) : g < w.heap.size := block_of_cell (a := ⟨g, 0, none⟩) h.c0
theorem ShAt.feetLt (h : ShAt e d w g v last l) {y : Nat} (hy : y ∈ feet l) : y < w.heap.size := by
  obtain ⟨x, hx, hy⟩ := mem_feet.1 hy
  exact (h.ids x hx).own hy
theorem ShAt.own (h : ShAt e d w g v last l) {y : Nat} (hy : y ∈ foot g v l) : y < w.heap.size := by
  rcases mem_foot.1 hy with rfl | h1 | h1
  · exact h.lt
  · exact h.row.own h1
  · exact h.feetLt h1
theorem ShAt.only {s : List Nat} (h : ShAt e d w g v last l) (o : Only s w w') (hs : ∀ y ∈ foot g v l, y ∉ s) : ShAt e d w' g v last l := by
  have hg : g ∉ s := hs g (mem_foot.2 (.inl rfl))
  exact ⟨(o.cell (p := ⟨g, 0, none⟩) h.lt hg).trans h.c0, (o.cell (p := ⟨g, 1, none⟩) h.lt hg).trans h.c1, (o.frozen (p := ⟨g, 0, none⟩) h.lt hg).trans h.z0, (o.frozen (p := ⟨g, 1, none⟩) h.lt hg).trans h.z1,
    h.row.only o (fun y hy => hs y (mem_foot.2 (.inr (.inl hy)))), fun x hx => (h.ids x hx).only o (fun y hy => hs y (mem_foot.2 (.inr (.inr (mem_feet.2 ⟨x, hx, hy⟩))))), h.nd⟩
theorem ShAt.old (h : ShAt e d w g v last l) (o : Only [] w w') : ShAt e d w' g v last l := h.only o (by simp)
/-- a step on the table: what it is then, and what has turned -/
def ShStep (e : TypeId) (d : Nat) (w w' : World) (g : Nat) (f : List Nat) (s : Sv) : Prop :=
  ∃ v' l', ShAt e d w' g v' s.last l' ∧ l'.map Px.p = s.l ∧ Only f w w' ∧ ∀ y ∈ foot g v' l', y ∈ f ∨ w.heap.size ≤ y
theorem ShStep.same (h : ShAt e d w g v last l) (o : Only [] w w') {s : Sv} (h1 : s.last = last) (h2 : l.map Px.p = s.l) : ShStep e d w w' g (foot g v l) s := by
  subst h1
  exact ⟨v, l, h.old o, h2, o.mono (by simp), fun y hy => .inl hy⟩
/-- behind calls that turned nothing old -/
theorem ShStep.past {w1 : World} {f : List Nat} {s : Sv} (o : Only [] w w1) (h : ShStep e d w1 w' g f s) : ShStep e d w w' g f s := by
  obtain ⟨v', l', h1, h2, h3, h4⟩ := h
  exact ⟨v', l', h1, h2, (o.mono (by simp)).trans h3, fun y hy => (h4 y hy).imp id (Nat.le_trans o.size)⟩
/-- members anew: the row's cell is laid -/
theorem ShAt.members {gv n cap k : Nat} {y : Px} (h : ShAt e d w g (.slice (some ⟨gv, 0, none⟩) n cap) last l) (hn : n = l.length) (hk : k < l.length) (o : Only (ownL (nthX l k).v) w w') (hr : IRow w' y.v y.p.i) (hg : Grow w.heap.size (nthX l k).v y.v)
    (hpn : y.p.n = (nthX l k).p.n) (hpw : y.p.w = (nthX l k).p.w) :
    ShAt e d (w'.setCell ⟨gv, k * 7 + 6, none⟩ y.v) g (.slice (some ⟨gv, 0, none⟩) n cap) last (l.set k y) ∧ Only (foot g (.slice (some ⟨gv, 0, none⟩) n cap) l) w (w'.setCell ⟨gv, k * 7 + 6, none⟩ y.v) ∧
      ∀ z ∈ foot g (.slice (some ⟨gv, 0, none⟩) n cap) (l.set k y), z ∈ foot g (.slice (some ⟨gv, 0, none⟩) n cap) l ∨ w.heap.size ≤ z := by
  obtain ⟨d1, d2, d3, d4⟩ := foot_nodup.1 h.nd
  have hgv : gv ∈ ownL (.slice (some ⟨gv, 0, none⟩) n cap) := by simp [ownL, Value.ownBlock]
  have hov : ownL (.slice (some ⟨gv, 0, none⟩) n cap) = [gv] := by simp [ownL, Value.ownBlock]
  have hfe : ∀ z ∈ ownL (nthX l k).v, z ∈ feet l := fun z hz => feet_nth hk hz
  have hgo : g ∉ ownL (nthX l k).v := fun hm => d2 (hfe g hm)
  have hvo : gv ∉ ownL (nthX l k).v := fun hm => d3 gv hgv (hfe gv hm)
  have hne : g ≠ gv := fun e => d1 (by rw [e]; exact hgv)
  obtain ⟨e1, e2⟩ := feet_set hk hg (fun z hz => h.feetLt hz) d4
  have hoW : Only (foot g (.slice (some ⟨gv, 0, none⟩) n cap) l) w (w'.setCell ⟨gv, k * 7 + 6, none⟩ y.v) :=
    Only.setCell (o.mono (fun z hz => mem_foot.2 (.inr (.inr (hfe z hz))))) (p := ⟨gv, k * 7 + 6, none⟩) (mem_foot.2 (.inr (.inl hgv))) _
  have hrow : PRow e w' (.slice (some ⟨gv, 0, none⟩) n cap) l := h.row.only o (by rw [hov]; simpa using hvo)
  have hset : Only [gv] w' (w'.setCell ⟨gv, k * 7 + 6, none⟩ y.v) := (Only.refl _ _).setCell (p := ⟨gv, k * 7 + 6, none⟩) (by simp) _
  have hgs : g ∉ [gv] := by simpa using hne
  have hg' : g < w'.heap.size := Nat.lt_of_lt_of_le h.lt o.size
  refine ⟨⟨?_, ?_, ?_, ?_, ?_, ?_, ?_⟩, hoW, ?_⟩
  · exact (hset.cell (p := ⟨g, 0, none⟩) hg' hgs).trans ((o.cell (p := ⟨g, 0, none⟩) h.lt hgo).trans h.c0)
  · exact (hset.cell (p := ⟨g, 1, none⟩) hg' hgs).trans ((o.cell (p := ⟨g, 1, none⟩) h.lt hgo).trans h.c1)
  · exact (hset.frozen (p := ⟨g, 0, none⟩) hg' hgs).trans ((o.frozen (p := ⟨g, 0, none⟩) h.lt hgo).trans h.z0)
  · exact (hset.frozen (p := ⟨g, 1, none⟩) hg' hgs).trans ((o.frozen (p := ⟨g, 1, none⟩) h.lt hgo).trans h.z1)
  · have h1 := (World.ownsRow.stored (show w'.ownsRow 0 e 7 (.slice (some ⟨gv, 0, none⟩) l.length cap) l.length (ecs pE l) by subst hn; exact hrow) (k * 7 + 6) y.v).1
    rw [ecs_member hk hpn hpw] at h1
    subst hn
    show ERow _ _ _ _ _ _
    unfold ERow
    rw [List.length_set]
    exact h1
  · intro x hx
    have hgr : gv ∉ ownL y.v := fun hm => by
      rcases hg gv hm with h1 | h1
      · exact hvo h1
      · have := h.row.own hgv; omega
    obtain ⟨j, hj, hxj⟩ := List.mem_iff_getElem.1 hx
    rw [List.length_set] at hj
    rw [List.getElem_set] at hxj
    by_cases hjk : k = j
    case neg =>
      rw [if_neg hjk] at hxj
      have h1 : x ∈ l := by rw [← hxj]; exact List.getElem_mem hj
      refine ((h.ids x h1).only o (fun z hz hm => ?_)).only hset ?_
      · rw [← hxj, ← nthX_eq hj] at hz
        exact feet_apart d4 hj hk (fun e => hjk e.symm) hz hm
      · intro z hz hm
        simp at hm; subst hm
        exact d3 z hgv (mem_feet.2 ⟨x, h1, hz⟩)
    case pos =>
      rw [if_pos hjk] at hxj
      subst hxj
      exact hr.only hset (by intro z hz hm; simp at hm; subst hm; exact hgr hz)
  · rw [foot_nodup]
    refine ⟨d1, fun hm => ?_, fun z hz hm => ?_, e1⟩
    · rcases e2 g hm with h1 | h1
      · exact d2 h1
      · have := h.lt; omega
    · rcases e2 z hm with h1 | h1
      · exact d3 z hz h1
      · have := h.row.own hz; omega
  · intro z hz
    rcases mem_foot.1 hz with h1 | h1 | h1
    · exact .inl (mem_foot.2 (.inl h1))
    · exact .inl (mem_foot.2 (.inr (.inl h1)))
    · rcases e2 z h1 with h2 | h2
      · exact .inl (mem_foot.2 (.inr (.inr h2)))
      · exact .inr h2
end
end Go.Proofs.Ytcljmdpnbfefbaa
