/-
  Words for rows of texts: a row of the call's own kept over other calls, read as texts, appended to another one; and the contract of the statements' helper Texts at equal rows. Conditions: those of each statement.
-/
import Derived.Test.YtfamllkmmiajoaaDoorOAwake
import Derived.Laws.AppendOwnNone
namespace Go.Proofs.YtfamllkmmiajoaaDoor
open Go.RowKit

theorem ownsRow_base {w : World} {b b' : Nat} {e : TypeId} {size : Nat} {v : Value} {n : Nat} {xs : List Value} (h : w.ownsRow b e size v n xs) (hb : b' ≤ b) : w.ownsRow b' e size v n xs := by
  obtain ⟨h1, h2⟩ := h
  refine ⟨h1, ?_⟩
  rcases h2 with h2 | ⟨g, cap, cur, e1, e2, e3⟩
  · exact .inl h2
  · exact .inr ⟨g, cap, cur, e1, Nat.le_trans hb e2, e3⟩
theorem ownsRow_below {w w' : World} {b : Nat} {e : TypeId} {size : Nat} {v : Value} {n : Nat} {xs : List Value} (h : w.ownsRow b e size v n xs) (hb : Below w.heap.size w w') : w'.ownsRow b e size v n xs := by
  obtain ⟨h1, h2⟩ := h
  refine ⟨h1, ?_⟩
  rcases h2 with h2 | ⟨g, cap, cur, e1, e2, e3, e4⟩
  · exact .inl h2
  · have hlt : g < w.heap.size := by
      rcases Nat.lt_or_ge g w.heap.size with h | h
      · exact h
      · rw [Array.getElem?_eq_none h] at e3; cases e3
    exact .inr ⟨g, cap, cur, e1, e2, (hb.block g hlt).trans e3, e4⟩
theorem ownsRow_drewN {w : World} {b : Nat} {e : TypeId} {size : Nat} {v : Value} {n : Nat} {xs : List Value} (h : w.ownsRow b e size v n xs) (k : Nat) : (w.drewN k).ownsRow b e size v n xs := h

/-- a text's bytes as a text -/
def mk (l : List UInt8) : ByteArray := ⟨l.toArray⟩
theorem mk_data (l : List UInt8) : (mk l).data.toList = l := by simp [mk]
theorem mk_size (l : List UInt8) : (mk l).size = l.length := by show l.toArray.size = _; simp
theorem mk_eq (s : ByteArray) : mk s.data.toList = s := Lib.mk_data s
theorem mk_append (a b : List UInt8) : mk a ++ mk b = mk (a ++ b) := by
  apply WideShapes.bytes_inj
  rw [mk_data]
  simp [mk]
theorem sv_mk (l : List UInt8) : sv l = .string (mk l) := rfl

/-- a row of the call's own, read as texts -/
theorem srow_of {w : World} {b : Nat} {v : Value} {xs : List (List UInt8)} (h : w.ownsRow b 9 1 v xs.length (xs.map sv)) :
    ∃ A c, v = .slice A xs.length c ∧ SRow w w.heap.size A (xs.map mk) := by
  rcases h.2 with ⟨e1, e2⟩ | ⟨g, cap, cur, e1, _, e3, _⟩
  · refine ⟨none, 0, by rw [e1, e2], ?_⟩
    have : xs = [] := List.length_eq_zero_iff.1 e2
    subst this
    intro j x hj; simp at hj
  · refine ⟨_, cap, e1, ?_⟩
    intro j x hj
    have hlt : g < w.heap.size := by
      rcases Nat.lt_or_ge g w.heap.size with h | h
      · exact h
      · rw [Array.getElem?_eq_none h] at e3; cases e3
    refine ⟨_, rfl, hlt, ?_⟩
    have hc := h.cells (g := g) (by rw [e1]; rfl) j (.string x) (by
      rw [List.getElem?_map] at hj ⊢
      cases hx : xs[j]? with
      | none => rw [hx] at hj; cases hj
      | some y => rw [hx] at hj; simp at hj; subst hj; rfl)
    exact hc

section
variable {P : Program} {w : World}
/-- append(x, y...) of two rows of the call's own -/
theorem wpList_append_own_own {ops : Array Oper} {rest : List Oper} {o : Oper} {a : Act} {Q : Exit → Act → World → Prop} (hgd : o.guard = none) (s x : Operand) (t : TypeId)
    (ho : o.op = .call { callee := .builtin .append, args := #[s, x], argTypes := #[t, t] })
    (base : Nat) (e : TypeId) (i : TypeInfo) (z : Value) (size bytes : Nat) (ht : P.underlying t = some (.slice e)) (hi : P.info? e = some i) (hz : i.zero = some z)
    (hsize : i.size = size) (hby : i.bytes = bytes) (hzs : z.cells.size = size) (hsz : 0 < size)
    (v : Value) (n : Nat) (xs : List Value) (hs : a.eval s = v) (hown : w.ownsRow base e size v n xs)
    (v2 : Value) (base2 m : Nat) (ys : List Value) (hx : a.eval x = v2) (hown2 : w.ownsRow base2 e size v2 m ys) (h1 : ∀ u ∈ ys, u.oneCell' = true)
    (h63 : n + m ≤ maxLen) (hbytes : (n + m) * bytes ≤ 140737488355328) (hbase : base ≤ w.heap.size)
    (h : ∀ v' w', w'.ownsRow base e size v' (n + m) (xs ++ ys) → w.grownBy w' v.ownBlock → wpList P ops Q rest (a.put o.dst v') w') : wpList P ops Q (o :: rest) a w := by
  rcases hown2.2 with ⟨e1, e2⟩ | ⟨g, cap, cur, e1, _⟩
  · have hy : ys = [] := List.length_eq_zero_iff.1 (by rw [hown2.1, e2]; simp)
    subst e2 hy
    refine wpList_append_own_none hgd s x t ho base e i size ht hi v n xs hs hown (hx.trans e1) ?_
    exact h v w (by simpa using hown) ⟨rfl, rfl, rfl, Nat.le_refl _, fun _ _ _ => rfl⟩
  · refine wpList_append_own w hgd s x t ho base e i z size bytes ht hi hz hsize hby hzs hsz v n xs hs hown ⟨g, 0, none⟩ m cap ys (hx.trans e1) hown2.1 (hown2.cells (g := g) (by rw [e1]; rfl)) h1 h63 hbytes hbase ?_
    intro v' w' h1 h2 _
    exact h v' w' h1 h2
end

end Go.Proofs.YtfamllkmmiajoaaDoor
