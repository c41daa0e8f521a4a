/-
  The document's own pool in memory: its head, its table, its rows of connections. Conditions: those of each statement.
-/
import Derived.Test.YtbnmldfiheffoaaQRow
import Derived.Test.YtbnmldfiheffoaaNRef3
import Derived.Test.YtbnmldfiheffoaaKPart
namespace Go.Proofs.Ytbnmldfiheffoaa
open Go.RowKit

/-- the head of the document's own pool -/
structure RpHead (w : World) (g T K L gt : Nat) (vb vi : Value) : Prop where
  c0 : w.cell? ⟨g, 0, none⟩ = some (.int .i64 (T : Int))
  c1 : w.cell? ⟨g, 1, none⟩ = some (.int .i64 (L : Int))
  c2 : w.cell? ⟨g, 2, none⟩ = some (.int .u64 (K : Int))
  c3 : w.cell? ⟨g, 3, none⟩ = some vb
  c4 : w.cell? ⟨g, 4, none⟩ = some vi
  c5 : w.cell? ⟨g, 5, none⟩ = some (.pointer (some ⟨gt, 0, none⟩))
  z1 : w.frozen? ⟨g, 1, none⟩ = false
  z3 : w.frozen? ⟨g, 3, none⟩ = false
  z4 : w.frozen? ⟨g, 4, none⟩ = false
section
variable {w w' : World} {g T K L gt : Nat} {vb vi : Value}
theorem RpHead.lt (h : RpHead w g T K L gt vb vi) : g < w.heap.size := block_of_cell (a := ⟨g, 0, none⟩) h.c0
theorem RpHead.only {f : List Nat} (h : RpHead w g T K L gt vb vi) (o : Only f w w') (hg : g ∉ f) : RpHead w' g T K L gt vb vi :=
  ⟨(o.cell (p := ⟨g, 0, none⟩) h.lt hg).trans h.c0, (o.cell (p := ⟨g, 1, none⟩) h.lt hg).trans h.c1, (o.cell (p := ⟨g, 2, none⟩) h.lt hg).trans h.c2, (o.cell (p := ⟨g, 3, none⟩) h.lt hg).trans h.c3,
   (o.cell (p := ⟨g, 4, none⟩) h.lt hg).trans h.c4, (o.cell (p := ⟨g, 5, none⟩) h.lt hg).trans h.c5,
   (o.frozen (p := ⟨g, 1, none⟩) h.lt hg).trans h.z1, (o.frozen (p := ⟨g, 3, none⟩) h.lt hg).trans h.z3, (o.frozen (p := ⟨g, 4, none⟩) h.lt hg).trans h.z4⟩
theorem RpHead.setL (h : RpHead w g T K L gt vb vi) (L' : Nat) : RpHead (w.setCell ⟨g, 1, none⟩ (.int .i64 (L' : Int))) g T K L' gt vb vi := by
  refine ⟨?_, World.cell?_setCell_same _ _ _ h.c1, ?_, ?_, ?_, ?_, ?_, ?_, ?_⟩
  all_goals first | (rw [World.cell?_setCell_other _ _ _ _ (by simp)]; first | exact h.c0 | exact h.c2 | exact h.c3 | exact h.c4 | exact h.c5) | (rw [World.frozen?_setCell]; first | exact h.z1 | exact h.z3 | exact h.z4)
theorem RpHead.setB (h : RpHead w g T K L gt vb vi) (v' : Value) : RpHead (w.setCell ⟨g, 3, none⟩ v') g T K L gt v' vi := by
  refine ⟨?_, ?_, ?_, World.cell?_setCell_same _ _ _ h.c3, ?_, ?_, ?_, ?_, ?_⟩
  all_goals first | (rw [World.cell?_setCell_other _ _ _ _ (by simp)]; first | exact h.c0 | exact h.c1 | exact h.c2 | exact h.c4 | exact h.c5) | (rw [World.frozen?_setCell]; first | exact h.z1 | exact h.z3 | exact h.z4)
theorem RpHead.setI (h : RpHead w g T K L gt vb vi) (v' : Value) : RpHead (w.setCell ⟨g, 4, none⟩ v') g T K L gt vb v' := by
  refine ⟨?_, ?_, ?_, ?_, World.cell?_setCell_same _ _ _ h.c4, ?_, ?_, ?_, ?_⟩
  all_goals first | (rw [World.cell?_setCell_other _ _ _ _ (by simp)]; first | exact h.c0 | exact h.c1 | exact h.c2 | exact h.c3 | exact h.c5) | (rw [World.frozen?_setCell]; first | exact h.z1 | exact h.z3 | exact h.z4)
end
/-- at block g lies the document's own pool, its table at gt -/
structure RpAt (w : World) (g gt : Nat) (vt vb vi : Value) (s : Pv) : Prop where
  hd : RpHead w g s.t s.keep s.last gt vb vi
  tb : TbAt 102 w gt 32 vt s.h
  rb : CRow 80 w vb s.b
  ri : CRow 80 w vi s.i
  ap : Apt g gt vt vb vi
section
variable {w w' : World} {g gt : Nat} {vt vb vi v' : Value} {s : Pv}
theorem RpAt.ot (h : RpAt w g gt vt vb vi s) : ∀ x ∈ ownL vt, x < w.heap.size := fun _ hx => (h.tb.own hx).2
theorem RpAt.ob (h : RpAt w g gt vt vb vi s) : ∀ x ∈ ownL vb, x < w.heap.size := fun _ hx => h.rb.own hx
theorem RpAt.oi (h : RpAt w g gt vt vb vi s) : ∀ x ∈ ownL vi, x < w.heap.size := fun _ hx => h.ri.own hx
theorem RpAt.lt (h : RpAt w g gt vt vb vi s) {x : Nat} (hx : x ∈ footP g gt vt vb vi) : x < w.heap.size := by
  rcases mem_footP.1 hx with rfl | rfl | h1 | h1 | h1
  · exact h.hd.lt
  · exact h.tb.head.lt
  · exact h.ot x h1
  · exact h.ob x h1
  · exact h.oi x h1
theorem RpAt.only {f : List Nat} (h : RpAt w g gt vt vb vi s) (o : Only f w w') (hf : ∀ x ∈ footP g gt vt vb vi, x ∉ f) : RpAt w' g gt vt vb vi s :=
  ⟨h.hd.only o (hf _ (mem_footP.2 (by simp))), h.tb.only o (hf _ (mem_footP.2 (by simp))) (fun x hx => hf _ (mem_footP.2 (by simp [hx]))), h.rb.only o (fun x hx => hf _ (mem_footP.2 (by simp [hx]))),
   h.ri.only o (fun x hx => hf _ (mem_footP.2 (by simp [hx]))), h.ap⟩
theorem RpAt.old (h : RpAt w g gt vt vb vi s) (o : Only [] w w') : RpAt w' g gt vt vb vi s := h.only o (by simp)
/-- the table has turned -/
theorem RpAt.turnT (h : RpAt w g gt vt vb vi s) (o : Only (gt :: ownL vt) w w') {l : List Ho} (t : TbAt 102 w' gt 32 v' l) (hv : Grow w.heap.size vt v') : RpAt w' g gt v' vb vi { s with h := l } := by
  have h1 := h.ap
  refine ⟨h.hd.only o ?_, t, h.rb.only o ?_, h.ri.only o ?_, h1.setT hv h.hd.lt h.tb.head.lt h.ob h.oi⟩
  · intro hm; rcases List.mem_cons.1 hm with e | e; exact h1.a1 e; exact h1.a2 e
  · intro x hx hm; rcases List.mem_cons.1 hm with e | e; subst e; exact h1.b2 hx; exact h1.c1 x e hx
  · intro x hx hm; rcases List.mem_cons.1 hm with e | e; subst e; exact h1.b3 hx; exact h1.c2 x e hx
/-- the row of those in use has turned -/
theorem RpAt.turnB (h : RpAt w g gt vt vb vi s) (o : Only (g :: ownL vb) w w') {l : List Cn} (d : RpHead w' g s.t s.keep s.last gt v' vi) (r : CRow 80 w' v' l) (hv : Grow w.heap.size vb v') : RpAt w' g gt vt v' vi { s with b := l } := by
  have h1 := h.ap
  refine ⟨d, h.tb.only o ?_ ?_, r, h.ri.only o ?_, h1.setB hv h.hd.lt h.tb.head.lt h.ot h.oi⟩
  · intro hm; rcases List.mem_cons.1 hm with e | e; exact h1.a1 e.symm; exact h1.b2 e
  · intro x hx hm; rcases List.mem_cons.1 hm with e | e; subst e; exact h1.a2 hx; exact h1.c1 x hx e
  · intro x hx hm; rcases List.mem_cons.1 hm with e | e; subst e; exact h1.a4 hx; exact h1.c3 x e hx
/-- the row of the idle ones has turned -/
theorem RpAt.turnI (h : RpAt w g gt vt vb vi s) (o : Only (g :: ownL vi) w w') {l : List Cn} (d : RpHead w' g s.t s.keep s.last gt vb v') (r : CRow 80 w' v' l) (hv : Grow w.heap.size vi v') : RpAt w' g gt vt vb v' { s with i := l } := by
  have h1 := h.ap
  refine ⟨d, h.tb.only o ?_ ?_, h.rb.only o ?_, r, h1.setI hv h.hd.lt h.tb.head.lt h.ot h.ob⟩
  · intro hm; rcases List.mem_cons.1 hm with e | e; exact h1.a1 e.symm; exact h1.b3 e
  · intro x hx hm; rcases List.mem_cons.1 hm with e | e; subst e; exact h1.a2 hx; exact h1.c2 x hx e
  · intro x hx hm; rcases List.mem_cons.1 hm with e | e; subst e; exact h1.a3 hx; exact h1.c3 x hx e
/-- the next number has turned -/
theorem RpAt.turnL (h : RpAt w g gt vt vb vi s) (L : Nat) (o : Only [g] w w') (d : RpHead w' g s.t s.keep L gt vb vi) : RpAt w' g gt vt vb vi { s with last := L } := by
  have h1 := h.ap
  refine ⟨d, h.tb.only o ?_ ?_, h.rb.only o ?_, h.ri.only o ?_, h1⟩
  · intro hm; simp at hm; exact h1.a1 hm.symm
  · intro x hx hm; simp at hm; subst hm; exact h1.a2 hx
  · intro x hx hm; simp at hm; subst hm; exact h1.a3 hx
  · intro x hx hm; simp at hm; subst hm; exact h1.a4 hx
/-- a step on the pool: what it is then, and what has turned -/
def RpStep (w w' : World) (g gt : Nat) (vt vb vi : Value) (s' : Pv) : Prop :=
  ∃ vt' vb' vi', RpAt w' g gt vt' vb' vi' s' ∧ Only (footP g gt vt vb vi) w w' ∧ Grow w.heap.size vt vt' ∧ Grow w.heap.size vb vb' ∧ Grow w.heap.size vi vi'
theorem RpStep.next {w'' : World} {s'' : Pv} {vt' vb' vi' : Value} (o : Only (footP g gt vt vb vi) w w') (gt_ : Grow w.heap.size vt vt') (gb : Grow w.heap.size vb vb') (gi : Grow w.heap.size vi vi')
    (k : RpStep w' w'' g gt vt' vb' vi' s'') : RpStep w w'' g gt vt vb vi s'' := by
  obtain ⟨a, b, c, p, q, r1, r2, r3⟩ := k
  refine ⟨a, b, c, p, o.next q ?_, gt_.trans r1 o.size, gb.trans r2 o.size, gi.trans r3 o.size⟩
  intro x hx
  rcases mem_footP.1 hx with rfl | rfl | h1 | h1 | h1
  · exact .inl (mem_footP.2 (by simp))
  · exact .inl (mem_footP.2 (by simp))
  · rcases gt_ x h1 with h2 | h2; exact .inl (mem_footP.2 (by simp [h2])); exact .inr h2
  · rcases gb x h1 with h2 | h2; exact .inl (mem_footP.2 (by simp [h2])); exact .inr h2
  · rcases gi x h1 with h2 | h2; exact .inl (mem_footP.2 (by simp [h2])); exact .inr h2
end
end Go.Proofs.Ytbnmldfiheffoaa
