/-
  Rows of records of one's own: an append of a part of another row. They speak of any kind of record. No conditions beyond those of each statement.
-/
import Derived.Test.YtcljmdpnbfefbaaKRec
namespace Go.Proofs.Ytcljmdpnbfefbaa
open Go.RowKit

section
variable {α : Type} {E : Enc α} {e : TypeId} {w : World} {base : Nat} {v : Value} {l : List α}
/-- append of no row at all -/
theorem run_append_none {P : Program} (t ty e : TypeId) (i : TypeInfo) (ht : P.underlying t = some (.slice e)) (hi : P.info? e = some i) (A : Option Addr) (n c : Nat) (hnc : n ≤ c) (w : World) :
    (Builtin.append_ #[t, t] ty #[.slice A n c, .slice none 0 0]).run P w = .ok (.slice A n c) w := by
  cases A <;> simp [Builtin.append_, run_underlying ht, sizeOf, typeInfo, hi, Builtin.lenOf, Builtin.firstCells, hnc, storeCells]
/-- records that lie where a slice says -/
def PartAt (E : Enc α) (w : World) (x : Value) (p : List α) : Prop :=
  (x = .slice none 0 0 ∧ p = []) ∨ ∃ ad c, x = .slice (some ad) p.length c ∧ ∀ j u, (ecs E p)[j]? = some u → w.cell? (ad.add j) = some u
theorem ERow.part (h : ERow E e w base v l) : PartAt E w v l := by
  rcases h.form with ⟨rfl, rfl⟩ | ⟨g, cap, rfl, _⟩
  · exact .inl ⟨rfl, rfl⟩
  · exact .inr ⟨_, cap, rfl, fun j u hu => World.ownsRow.cells h (g := g) rfl j u hu⟩
theorem ERow.partTake {g cap k : Nat} (h : ERow E e w base (.slice (some ⟨g, 0, none⟩) l.length cap) l) (hk : k ≤ l.length) : PartAt E w (.slice (some ⟨g, 0, none⟩) k cap) (l.take k) := by
  have h1 := (h.cut k hk).part
  exact h1
theorem ERow.partDrop {g cap k : Nat} {A : Addr} (h : ERow E e w base (.slice (some ⟨g, 0, none⟩) l.length cap) l) (hk : k ≤ l.length) (hA : (if cap = k then (some (⟨g, 0, none⟩ : Addr)) else some ⟨g, k * E.n, none⟩) = some A) : PartAt E w (.slice (some A) (l.length - k) (cap - k)) (l.drop k) := by
  refine .inr ⟨A, cap - k, by rw [List.length_drop], fun j u hu => ?_⟩
  by_cases hc : cap = k
  · rcases h.form with ⟨h0, _⟩ | ⟨g2, c2, h0, _, _, h1, _⟩
    · simp at h0
    · injection h0 with _ _ h0
      subst h0
      rw [List.drop_eq_nil_of_le (by omega)] at hu
      simp [ecs] at hu
  · rw [if_neg hc] at hA
    injection hA with hA
    subst hA
    have h2 := World.ownsRow.cells h (g := g) rfl (k * E.n + j) u (by rw [← List.getElem?_drop, ecs_drop]; exact hu)
    have e : (⟨g, k * E.n, none⟩ : Addr).add j = (⟨g, 0, none⟩ : Addr).add (k * E.n + j) := by unfold Addr.add; split <;> split <;> simp_all
    rw [e]; exact h2
/-- append(v, part..): v a row of one's own -/
theorem wpList_append_part (E : Enc α) {ops : Array Oper} {rest : List Oper} {o : Oper} {a : Act} {Q : Exit → Act → World → Prop} {w : World} (hgd : o.guard = none) (s x : Operand) (t e : TypeId)
    (ho : o.op = .call { callee := .builtin .append, args := #[s, x], argTypes := #[t, t] }) (ht : Try.prog.underlying t = some (.slice e)) (z : Value) (bytes : Nat)
    (hinfo : (Try.prog.info? e).map (fun i => (i.zero, i.size, i.bytes)) = some (some z, E.n, bytes)) (hz : z.cells.size = E.n)
    (base : Nat) (v : Value) (l : List α) (hs : a.eval s = v) (hown : ERow E e w base v l) (xv : Value) (p : List α) (hx : a.eval x = xv) (hp : PartAt E w xv p)
    (hsm : l.length + p.length ≤ 100000) (hby : bytes ≤ 1000) (hbase : base ≤ w.heap.size)
    (h : ∀ v' w', Hid (ERow E e w' base v' (l ++ p)) → Hid (Only (ownL v) w w') → Hid (∀ y ∈ ownL v', y ∈ ownL v ∨ y = w.heap.size) → wpList Try.prog ops Q rest (a.put o.dst v') w') : wpList Try.prog ops Q (o :: rest) a w := by
  obtain ⟨i0, hi, hz0, hz1, hz2⟩ := rec_info hinfo
  rcases hp with ⟨rfl, rfl⟩ | ⟨ad, c, rfl, hc⟩
  · obtain ⟨A, cap, rfl, h1, _⟩ := hown.slice
    refine wpList_plain hgd fun K hK => ?_
    have hr := run_append_none (P := Try.prog) t o.type e i0 ht hi A l.length cap h1 w
    unfold Oper.wp execOp
    simp only [ho, resolve, invoke, builtin, Sem.run_bind, Sem.run_pure, Result.andThen_ok, List.map_toArray, List.map_cons, List.map_nil, hs, hx, hr]
    exact hK _ _ (h _ w (by rw [List.append_nil]; exact hown) (Only.refl _ _) (fun y hy => .inl hy))
  · refine wpList_append_own_at w hgd s x t ho base e i0 z E.n bytes ht hi hz0 hz1 hz2 hz E.pos v l.length (ecs E l) hs hown ad p.length c (ecs E p) hx (ecs_len E p) hc (ecs_one E p) (by unfold maxLen; omega) ?_ hbase ?_
    · have : (l.length + p.length) * bytes ≤ 100000 * 1000 := Nat.mul_le_mul hsm hby
      omega
    · intro v' w' hr hg _ hat
      refine h v' w' ?_ ?_ ?_
      · show ERow _ _ _ _ _ _
        unfold ERow
        rw [List.length_append, ecs_append]
        exact hr
      · exact Only.of_grown_own hg (fun y hy => mem_ownL.2 hy)
      · intro y hy
        have h2 := mem_ownL.1 hy
        rcases hat with h3 | h3
        · exact .inl (mem_ownL.2 (h3 ▸ h2))
        · exact .inr (Option.some.inj (h3.symm.trans h2)).symm
end
end Go.Proofs.Ytcljmdpnbfefbaa
