/-
  Words on a pool in memory: rows of connections (a number, a key, a time each), the program's or the document's own; the program's pool with its table. Conditions: those of each statement.
-/
import Derived.Test.YtbnmldfiheffoaaQMath
import Derived.Test.YtbnmldfiheffoaaNRow
import Derived.Test.YtbnmldfiheffoaaNKeys
import Derived.Test.YtbnmldfiheffoaaNUse2
namespace Go.Proofs.Ytbnmldfiheffoaa
open Go.RowKit

def ccs (c : Cn) : List Value := [.int .i64 (c.n : Int), .string c.k, .int .u64 (c.u : Int)]
def cE : Enc Cn := ⟨ccs, 3, fun _ => rfl, fun _ u hu => by simp [ccs] at hu; rcases hu with rfl | rfl | rfl <;> rfl, by decide⟩
/-- a row of connections of either type -/
def CRow (e : TypeId) (w : World) (v : Value) (l : List Cn) : Prop := ERow cE e w 0 v l
section
variable {e : TypeId} {w : World} {v : Value} {l : List Cn}
theorem CRow.nil : CRow e w (.slice none 0 0) [] := ERow.nil
theorem CRow.only {s : List Nat} {w' : World} (h : CRow e w v l) (k : Only s w w') (hn : ∀ g ∈ ownL v, g ∉ s) : CRow e w' v l := ERow.only h k hn
theorem CRow.old {w' : World} (h : CRow e w v l) (k : Only [] w w') : CRow e w' v l := h.only k (by simp)
theorem CRow.own (h : CRow e w v l) {g : Nat} (hg : g ∈ ownL v) : g < w.heap.size := (ERow.own h hg).2
theorem CRow.slice (h : CRow e w v l) : ∃ A cap, v = .slice A l.length cap ∧ l.length ≤ cap ∧ cap ≤ maxLen := ERow.slice h
theorem CRow.some_ (h : CRow e w v l) (h0 : 0 < l.length) : ∃ g cap, v = .slice (some ⟨g, 0, none⟩) l.length cap ∧ g < w.heap.size ∧ l.length ≤ cap ∧ cap ≤ maxLen := by
  obtain ⟨g, cap, h1, _, h2⟩ := ERow.some_ h h0
  exact ⟨g, cap, h1, h2⟩
/-- the cells of a connection at a place -/
structure ClAt (w : World) (g k : Nat) (a : Cn) : Prop where
  c0 : w.cell? ⟨g, k * 3, none⟩ = some (.int .i64 (a.n : Int))
  c1 : w.cell? ⟨g, k * 3 + 1, none⟩ = some (.string a.k)
  c2 : w.cell? ⟨g, k * 3 + 2, none⟩ = some (.int .u64 (a.u : Int))
theorem CRow.el {g n cap : Nat} (h : CRow e w (.slice (some ⟨g, 0, none⟩) n cap) l) (hn : n = l.length) {k : Nat} (hk : k < l.length) : ClAt w g k (nthC l k) := by
  rw [nthC_eq hk]
  have h0 := ERow.el h hn hk (t := 0) (by decide)
  have h1 := ERow.el h hn hk (t := 1) (by decide)
  have h2 := ERow.el h hn hk (t := 2) (by decide)
  exact ⟨h0, h1, h2⟩
end
theorem infoC : (Try.prog.info? 83).map (fun i => (i.zero, i.size, i.bytes)) = some (some (.agg #[.int .i64 0, .string ⟨#[]⟩, .int .u64 0]), 3, 32) := by kernel_rfl
theorem infoCR : (Try.prog.info? 80).map (fun i => (i.zero, i.size, i.bytes)) = some (some (.agg #[.int .i64 0, .string ⟨#[]⟩, .int .u64 0]), 3, 32) := by kernel_rfl
/-- append(v, connection): v a row of one's own -/
theorem wpList_append_conn {ops : Array Oper} {rest : List Oper} {o : Oper} {a : Act} {Q : Exit → Act → World → Prop} {w : World} (hgd : o.guard = none) (s x : Operand) (t e : TypeId)
    (ho : o.op = .call { callee := .builtin .append, args := #[s, x], argTypes := #[t, t] }) (ht : Try.prog.underlying t = some (.slice e))
    (hinfo : (Try.prog.info? e).map (fun i => (i.zero, i.size, i.bytes)) = some (some (.agg #[.int .i64 0, .string ⟨#[]⟩, .int .u64 0]), 3, 32))
    (v : Value) (l : List Cn) (hs : a.eval s = v) (hown : CRow e w v l) (B : Nat) (u : Cn) (hx : a.eval x = .slice (some ⟨B, 0, none⟩) 1 1)
    (h0 : w.cell? ⟨B, 0, none⟩ = some (.int .i64 (u.n : Int))) (h1 : w.cell? ⟨B, 1, none⟩ = some (.string u.k)) (h2 : w.cell? ⟨B, 2, none⟩ = some (.int .u64 (u.u : Int))) (hsm : l.length ≤ 100000)
    (h : ∀ g2 cap w', Hid (CRow e w' (.slice (some ⟨g2, 0, none⟩) (l.length + 1) cap) (l ++ [u])) → Hid (Only (ownL v) w w') → Hid (g2 ∈ ownL v ∨ g2 = w.heap.size) → wpList Try.prog ops Q rest (a.put o.dst (.slice (some ⟨g2, 0, none⟩) (l.length + 1) cap)) w') : wpList Try.prog ops Q (o :: rest) a w :=
  wpList_append_rec cE hgd s x t e ho ht _ 32 hinfo rfl 0 v l hs hown B u hx (fun j hj => by
    match j, hj with
    | 0, _ => exact h0
    | 1, _ => exact h1
    | 2, _ => exact h2
    | j + 3, hj => exact absurd hj (by show ¬ j + 3 < 3; omega)) hsm (by omega) (Nat.zero_le _) h

/-- a pool's head: for how many, how long one is kept, the next number, its table, its rows -/
structure PoHead (w : World) (g T K L gt : Nat) (vb vi : Value) : Prop where
  c0 : w.cell? ⟨g, 0, none⟩ = some (.int .i64 (T : Int))
  c1 : w.cell? ⟨g, 1, none⟩ = some (.int .u64 (K : Int))
  c2 : w.cell? ⟨g, 2, none⟩ = some (.int .i64 ((L + 1 : Nat) : Int))
  c3 : w.cell? ⟨g, 3, none⟩ = some (.pointer (some ⟨gt, 0, none⟩))
  c4 : w.cell? ⟨g, 4, none⟩ = some vb
  c5 : w.cell? ⟨g, 5, none⟩ = some vi
  z2 : w.frozen? ⟨g, 2, none⟩ = false
  z4 : w.frozen? ⟨g, 4, none⟩ = false
  z5 : w.frozen? ⟨g, 5, none⟩ = false
section
variable {w w' : World} {g T K L gt : Nat} {vb vi : Value}
theorem PoHead.lt (h : PoHead w g T K L gt vb vi) : g < w.heap.size := block_of_cell (a := ⟨g, 0, none⟩) h.c0
theorem PoHead.only {f : List Nat} (h : PoHead w g T K L gt vb vi) (o : Only f w w') (hg : g ∉ f) : PoHead w' g T K L gt vb vi :=
  ⟨(o.cell (p := ⟨g, 0, none⟩) h.lt hg).trans h.c0, (o.cell (p := ⟨g, 1, none⟩) h.lt hg).trans h.c1, (o.cell (p := ⟨g, 2, none⟩) h.lt hg).trans h.c2, (o.cell (p := ⟨g, 3, none⟩) h.lt hg).trans h.c3,
   (o.cell (p := ⟨g, 4, none⟩) h.lt hg).trans h.c4, (o.cell (p := ⟨g, 5, none⟩) h.lt hg).trans h.c5,
   (o.frozen (p := ⟨g, 2, none⟩) h.lt hg).trans h.z2, (o.frozen (p := ⟨g, 4, none⟩) h.lt hg).trans h.z4, (o.frozen (p := ⟨g, 5, none⟩) h.lt hg).trans h.z5⟩
theorem PoHead.set2 (h : PoHead w g T K L gt vb vi) (L' : Nat) : PoHead (w.setCell ⟨g, 2, none⟩ (.int .i64 ((L' + 1 : Nat) : Int))) g T K L' gt vb vi := by
  refine ⟨?_, ?_, World.cell?_setCell_same _ _ _ h.c2, ?_, ?_, ?_, ?_, ?_, ?_⟩
  all_goals first | (rw [World.cell?_setCell_other _ _ _ _ (by simp)]; first | exact h.c0 | exact h.c1 | exact h.c3 | exact h.c4 | exact h.c5) | (rw [World.frozen?_setCell]; first | exact h.z2 | exact h.z4 | exact h.z5)
theorem PoHead.set4 (h : PoHead w g T K L gt vb vi) (v' : Value) : PoHead (w.setCell ⟨g, 4, none⟩ v') g T K L gt v' vi := by
  refine ⟨?_, ?_, ?_, ?_, World.cell?_setCell_same _ _ _ h.c4, ?_, ?_, ?_, ?_⟩
  all_goals first | (rw [World.cell?_setCell_other _ _ _ _ (by simp)]; first | exact h.c0 | exact h.c1 | exact h.c2 | exact h.c3 | exact h.c5) | (rw [World.frozen?_setCell]; first | exact h.z2 | exact h.z4 | exact h.z5)
theorem PoHead.set5 (h : PoHead w g T K L gt vb vi) (v' : Value) : PoHead (w.setCell ⟨g, 5, none⟩ v') g T K L gt vb v' := by
  refine ⟨?_, ?_, ?_, ?_, ?_, World.cell?_setCell_same _ _ _ h.c5, ?_, ?_, ?_⟩
  all_goals first | (rw [World.cell?_setCell_other _ _ _ _ (by simp)]; first | exact h.c0 | exact h.c1 | exact h.c2 | exact h.c3 | exact h.c4) | (rw [World.frozen?_setCell]; first | exact h.z2 | exact h.z4 | exact h.z5)
end
/-- its blocks are apart -/
structure Apt (g gt : Nat) (vt vb vi : Value) : Prop where
  a1 : g ≠ gt
  a2 : g ∉ ownL vt
  a3 : g ∉ ownL vb
  a4 : g ∉ ownL vi
  b1 : gt ∉ ownL vt
  b2 : gt ∉ ownL vb
  b3 : gt ∉ ownL vi
  c1 : ∀ x ∈ ownL vt, x ∉ ownL vb
  c2 : ∀ x ∈ ownL vt, x ∉ ownL vi
  c3 : ∀ x ∈ ownL vb, x ∉ ownL vi
/-- all its blocks -/
def footP (g gt : Nat) (vt vb vi : Value) : List Nat := g :: gt :: (ownL vt ++ (ownL vb ++ ownL vi))
theorem mem_footP {g gt x : Nat} {vt vb vi : Value} : x ∈ footP g gt vt vb vi ↔ x = g ∨ x = gt ∨ x ∈ ownL vt ∨ x ∈ ownL vb ∨ x ∈ ownL vi := by simp [footP]
/-- blocks of a row anew: its old one, or a new one -/
def Grow (n : Nat) (v v' : Value) : Prop := ∀ x ∈ ownL v', x ∈ ownL v ∨ n ≤ x
theorem Grow.refl (n : Nat) (v : Value) : Grow n v v := fun _ h => .inl h
theorem Grow.trans {n m : Nat} {a b c : Value} (h : Grow n a b) (k : Grow m b c) (hm : n ≤ m) : Grow n a c := fun x hx => by
  rcases k x hx with h1 | h1
  · exact h x h1
  · exact .inr (Nat.le_trans hm h1)
section
variable {g gt n : Nat} {vt vb vi v' : Value}
theorem Apt.setT (h : Apt g gt vt vb vi) (hv : Grow n vt v') (l1 : g < n) (l2 : gt < n) (l4 : ∀ x ∈ ownL vb, x < n) (l5 : ∀ x ∈ ownL vi, x < n) : Apt g gt v' vb vi := by
  refine ⟨h.a1, fun hx => ?_, h.a3, h.a4, fun hx => ?_, h.b2, h.b3, fun x hx hy => ?_, fun x hx hy => ?_, h.c3⟩
  · rcases hv _ hx with h1 | h1; exact h.a2 h1; omega
  · rcases hv _ hx with h1 | h1; exact h.b1 h1; omega
  · rcases hv _ hx with h1 | h1; exact h.c1 x h1 hy; have := l4 x hy; omega
  · rcases hv _ hx with h1 | h1; exact h.c2 x h1 hy; have := l5 x hy; omega
theorem Apt.setB (h : Apt g gt vt vb vi) (hv : Grow n vb v') (l1 : g < n) (l2 : gt < n) (l3 : ∀ x ∈ ownL vt, x < n) (l5 : ∀ x ∈ ownL vi, x < n) : Apt g gt vt v' vi := by
  refine ⟨h.a1, h.a2, fun hx => ?_, h.a4, h.b1, fun hx => ?_, h.b3, fun x hx hy => ?_, h.c2, fun x hx hy => ?_⟩
  · rcases hv _ hx with h1 | h1; exact h.a3 h1; omega
  · rcases hv _ hx with h1 | h1; exact h.b2 h1; omega
  · rcases hv _ hy with h1 | h1; exact h.c1 x hx h1; have := l3 x hx; omega
  · rcases hv _ hx with h1 | h1; exact h.c3 x h1 hy; have := l5 x hy; omega
theorem Apt.setI (h : Apt g gt vt vb vi) (hv : Grow n vi v') (l1 : g < n) (l2 : gt < n) (l3 : ∀ x ∈ ownL vt, x < n) (l4 : ∀ x ∈ ownL vb, x < n) : Apt g gt vt vb v' := by
  refine ⟨h.a1, h.a2, h.a3, fun hx => ?_, h.b1, h.b2, fun hx => ?_, h.c1, fun x hx hy => ?_, fun x hx hy => ?_⟩
  · rcases hv _ hx with h1 | h1; exact h.a4 h1; omega
  · rcases hv _ hx with h1 | h1; exact h.b3 h1; omega
  · rcases hv _ hy with h1 | h1; exact h.c2 x hx h1; have := l3 x hx; omega
  · rcases hv _ hy with h1 | h1; exact h.c3 x hx h1; have := l4 x hx; omega
end
/-- at block g lies a pool, its table at gt -/
structure PoAt (w : World) (g gt : Nat) (vt vb vi : Value) (s : Pv) : Prop where
  hd : PoHead w g s.t s.keep s.last gt vb vi
  tb : TbAt 106 w gt 32 vt s.h
  rb : CRow 83 w vb s.b
  ri : CRow 83 w vi s.i
  ap : Apt g gt vt vb vi
section
variable {w w' : World} {g gt : Nat} {vt vb vi v' : Value} {s : Pv}
theorem PoAt.ot (h : PoAt w g gt vt vb vi s) : ∀ x ∈ ownL vt, x < w.heap.size := fun _ hx => (h.tb.own hx).2
theorem PoAt.ob (h : PoAt w g gt vt vb vi s) : ∀ x ∈ ownL vb, x < w.heap.size := fun _ hx => h.rb.own hx
theorem PoAt.oi (h : PoAt w g gt vt vb vi s) : ∀ x ∈ ownL vi, x < w.heap.size := fun _ hx => h.ri.own hx
theorem PoAt.lt (h : PoAt w g gt vt vb vi s) {x : Nat} (hx : x ∈ footP g gt vt vb vi) : x < w.heap.size := by
  rcases mem_footP.1 hx with rfl | rfl | h1 | h1 | h1
  · exact h.hd.lt
  · exact h.tb.head.lt
  · exact h.ot x h1
  · exact h.ob x h1
  · exact h.oi x h1
theorem PoAt.only {f : List Nat} (h : PoAt w g gt vt vb vi s) (o : Only f w w') (hf : ∀ x ∈ footP g gt vt vb vi, x ∉ f) : PoAt w' g gt vt vb vi s :=
  ⟨h.hd.only o (hf _ (mem_footP.2 (by simp))), h.tb.only o (hf _ (mem_footP.2 (by simp))) (fun x hx => hf _ (mem_footP.2 (by simp [hx]))), h.rb.only o (fun x hx => hf _ (mem_footP.2 (by simp [hx]))),
   h.ri.only o (fun x hx => hf _ (mem_footP.2 (by simp [hx]))), h.ap⟩
theorem PoAt.old (h : PoAt w g gt vt vb vi s) (o : Only [] w w') : PoAt w' g gt vt vb vi s := h.only o (by simp)
/-- the table has turned -/
theorem PoAt.turnT (h : PoAt w g gt vt vb vi s) (o : Only (gt :: ownL vt) w w') {l : List Ho} (t : TbAt 106 w' gt 32 v' l) (hv : Grow w.heap.size vt v') : PoAt w' g gt v' vb vi { s with h := l } := by
  have h1 := h.ap
  refine ⟨h.hd.only o ?_, t, h.rb.only o ?_, h.ri.only o ?_, h1.setT hv h.hd.lt h.tb.head.lt h.ob h.oi⟩
  · intro hm; rcases List.mem_cons.1 hm with e | e; exact h1.a1 e; exact h1.a2 e
  · intro x hx hm; rcases List.mem_cons.1 hm with e | e; subst e; exact h1.b2 hx; exact h1.c1 x e hx
  · intro x hx hm; rcases List.mem_cons.1 hm with e | e; subst e; exact h1.b3 hx; exact h1.c2 x e hx
/-- the row of those in use has turned -/
theorem PoAt.turnB (h : PoAt w g gt vt vb vi s) (o : Only (g :: ownL vb) w w') {l : List Cn} (d : PoHead w' g s.t s.keep s.last gt v' vi) (r : CRow 83 w' v' l) (hv : Grow w.heap.size vb v') : PoAt w' g gt vt v' vi { s with b := l } := by
  have h1 := h.ap
  refine ⟨d, h.tb.only o ?_ ?_, r, h.ri.only o ?_, h1.setB hv h.hd.lt h.tb.head.lt h.ot h.oi⟩
  · intro hm; rcases List.mem_cons.1 hm with e | e; exact h1.a1 e.symm; exact h1.b2 e
  · intro x hx hm; rcases List.mem_cons.1 hm with e | e; subst e; exact h1.a2 hx; exact h1.c1 x hx e
  · intro x hx hm; rcases List.mem_cons.1 hm with e | e; subst e; exact h1.a4 hx; exact h1.c3 x e hx
/-- the row of the idle ones has turned -/
theorem PoAt.turnI (h : PoAt w g gt vt vb vi s) (o : Only (g :: ownL vi) w w') {l : List Cn} (d : PoHead w' g s.t s.keep s.last gt vb v') (r : CRow 83 w' v' l) (hv : Grow w.heap.size vi v') : PoAt w' g gt vt vb v' { s with i := l } := by
  have h1 := h.ap
  refine ⟨d, h.tb.only o ?_ ?_, h.rb.only o ?_, r, h1.setI hv h.hd.lt h.tb.head.lt h.ot h.ob⟩
  · intro hm; rcases List.mem_cons.1 hm with e | e; exact h1.a1 e.symm; exact h1.b3 e
  · intro x hx hm; rcases List.mem_cons.1 hm with e | e; subst e; exact h1.a2 hx; exact h1.c2 x hx e
  · intro x hx hm; rcases List.mem_cons.1 hm with e | e; subst e; exact h1.a3 hx; exact h1.c3 x hx e
/-- the next number has turned -/
theorem PoAt.turnL (h : PoAt w g gt vt vb vi s) (L : Nat) (o : Only [g] w w') (d : PoHead w' g s.t s.keep L gt vb vi) : PoAt w' g gt vt vb vi { s with last := L } := by
  have h1 := h.ap
  refine ⟨d, h.tb.only o ?_ ?_, h.rb.only o ?_, h.ri.only o ?_, h1⟩
  · intro hm; simp at hm; exact h1.a1 hm.symm
  · intro x hx hm; simp at hm; subst hm; exact h1.a2 hx
  · intro x hx hm; simp at hm; subst hm; exact h1.a3 hx
  · intro x hx hm; simp at hm; subst hm; exact h1.a4 hx
/-- a step on the pool: what it is then, and what has turned -/
def PoStep (w w' : World) (g gt : Nat) (vt vb vi : Value) (s' : Pv) : Prop :=
  ∃ vt' vb' vi', PoAt w' g gt vt' vb' vi' s' ∧ Only (footP g gt vt vb vi) w w' ∧ Grow w.heap.size vt vt' ∧ Grow w.heap.size vb vb' ∧ Grow w.heap.size vi vi'
theorem PoStep.next {w'' : World} {s'' : Pv} {vt' vb' vi' : Value} (o : Only (footP g gt vt vb vi) w w') (gt_ : Grow w.heap.size vt vt') (gb : Grow w.heap.size vb vb') (gi : Grow w.heap.size vi vi')
    (k : PoStep w' w'' g gt vt' vb' vi' s'') : PoStep w w'' g gt vt vb vi s'' := by
  obtain ⟨a, b, c, p, q, r1, r2, r3⟩ := k
  refine ⟨a, b, c, p, o.next q ?_, gt_.trans r1 o.size, gb.trans r2 o.size, gi.trans r3 o.size⟩
  intro x hx
  rcases mem_footP.1 hx with rfl | rfl | h1 | h1 | h1
  · exact .inl (mem_footP.2 (by simp))
  · exact .inl (mem_footP.2 (by simp))
  · rcases gt_ x h1 with h2 | h2; exact .inl (mem_footP.2 (by simp [h2])); exact .inr h2
  · rcases gb x h1 with h2 | h2; exact .inl (mem_footP.2 (by simp [h2])); exact .inr h2
  · rcases gi x h1 with h2 | h2; exact .inl (mem_footP.2 (by simp [h2])); exact .inr h2
end
end Go.Proofs.Ytbnmldfiheffoaa
