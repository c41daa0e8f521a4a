/-
  Rows of records of one's own, in memory: any kind of record that lies in a fixed number of cells. They speak of any program. No conditions beyond those of each statement.
-/
import Derived.Test.YtcljmdpnbfefbaaKBase
import Derived.Test.YtcljmdpnbfefbaaKOnly
import Derived.Deep.AppendLies
import Derived.Laws.IdiomCopy
import Derived.Laws.CopyOwn
import Derived.Maps.AppendAt
import Derived.OwnWalk
import Derived.ArgAppend
namespace Go.Proofs.Ytcljmdpnbfefbaa
open Go.RowKit

/-- how a record lies in cells -/
structure Enc (α : Type) where
  c : α → List Value
  n : Nat
  len : ∀ a, (c a).length = n
  one : ∀ a, ∀ u ∈ c a, u.oneCell' = true
  pos : 0 < n
section
variable {α : Type} (E : Enc α)
def ecs (l : List α) : List Value := l.flatMap E.c
theorem ecs_nil : ecs E [] = [] := rfl
theorem ecs_cons (a : α) (l : List α) : ecs E (a :: l) = E.c a ++ ecs E l := rfl
theorem ecs_append (l m : List α) : ecs E (l ++ m) = ecs E l ++ ecs E m := by simp [ecs]
theorem ecs_len (l : List α) : (ecs E l).length = l.length * E.n := by
  induction l with
  | nil => simp [ecs]
  | cons h r ih => rw [ecs_cons, List.length_append, ih, E.len, List.length_cons, Nat.succ_mul]; omega
theorem ecs_one (l : List α) : ∀ u ∈ ecs E l, u.oneCell' = true := by
  intro u hu
  unfold ecs at hu
  rw [List.mem_flatMap] at hu
  obtain ⟨a, _, h⟩ := hu
  exact E.one a u h
theorem ecs_take : ∀ (l : List α) (k : Nat), (ecs E l).take (k * E.n) = ecs E (l.take k)
  | [], k => by simp [ecs]
  | x :: r, 0 => by simp [ecs]
  | x :: r, k + 1 => by
    rw [ecs_cons, List.take_succ_cons, ecs_cons, ← ecs_take r k, Nat.succ_mul, Nat.add_comm, List.take_append, E.len, List.take_of_length_le (by rw [E.len]; omega)]
    congr 2; omega
theorem ecs_drop : ∀ (l : List α) (k : Nat), (ecs E l).drop (k * E.n) = ecs E (l.drop k)
  | [], k => by simp [ecs]
  | x :: r, 0 => by simp
  | x :: r, k + 1 => by
    rw [ecs_cons, List.drop_succ_cons, ← ecs_drop r k, Nat.succ_mul, Nat.add_comm, List.drop_append, E.len, List.drop_eq_nil_of_le (by rw [E.len]; omega), List.nil_append]
    congr 1; omega
theorem ecs_at (l : List α) (j t : Nat) (hj : j < l.length) (ht : t < E.n) : (ecs E l)[j * E.n + t]? = (E.c l[j])[t]? := by
  have h1 : (ecs E l)[j * E.n + t]? = ((ecs E l).drop (j * E.n))[t]? := by rw [List.getElem?_drop]
  rw [h1, ecs_drop, List.drop_eq_getElem_cons hj, ecs_cons, List.getElem?_append_left (by rw [E.len]; exact ht)]
theorem ecs_splice (l m : List α) (k : Nat) (_h : k + m.length ≤ l.length) : splice (ecs E l) (k * E.n) (ecs E m) = ecs E (l.take k ++ m ++ l.drop (k + m.length)) := by
  unfold splice
  rw [ecs_take, ecs_append, ecs_append, ecs_len, ← Nat.add_mul, ecs_drop, List.append_assoc]
/-- a row of records of one's own, from block base on, of type e -/
def ERow (e : TypeId) (w : World) (base : Nat) (v : Value) (l : List α) : Prop := w.ownsRow base e E.n v l.length (ecs E l)
variable {E} {e : TypeId} {w : World} {base : Nat} {v : Value} {l : List α}
theorem ERow.nil : ERow E e w base (.slice none 0 0) [] := World.ownsRow_nil _ _ _ _
theorem ERow.only {s : List Nat} {w' : World} (h : ERow E e w base v l) (k : Only s w w') (hn : ∀ g ∈ ownL v, g ∉ s) : ERow E e w' base v l := k.owns h (fun g hg => hn g (mem_ownL.2 hg))
theorem ERow.form (h : ERow E e w base v l) : (v = .slice none 0 0 ∧ l = []) ∨ ∃ g cap, v = .slice (some ⟨g, 0, none⟩) l.length cap ∧ base ≤ g ∧ g < w.heap.size ∧ l.length ≤ cap ∧ cap ≤ maxLen := by
  rcases h.2 with ⟨h1, h2⟩ | ⟨g, cap, cur, e1, e2, e3, e4, e5, _⟩
  · exact .inl ⟨h1, List.length_eq_zero_iff.1 h2⟩
  · exact .inr ⟨g, cap, e1, e2, (Array.getElem?_eq_some_iff.1 e3).1, e4, e5⟩
theorem ERow.slice (h : ERow E e w base v l) : ∃ A cap, v = .slice A l.length cap ∧ l.length ≤ cap ∧ cap ≤ maxLen := by
  rcases h.form with ⟨rfl, rfl⟩ | ⟨g, cap, rfl, _, _, h1, h2⟩
  · exact ⟨none, 0, rfl, Nat.le_refl _, Nat.zero_le _⟩
  · exact ⟨_, cap, rfl, h1, h2⟩
theorem ERow.some_ (h : ERow E e w base v l) (h0 : 0 < l.length) : ∃ g cap, v = .slice (some ⟨g, 0, none⟩) l.length cap ∧ base ≤ g ∧ g < w.heap.size ∧ l.length ≤ cap ∧ cap ≤ maxLen := by
  rcases h.form with ⟨_, rfl⟩ | h
  · simp at h0
  · exact h
theorem ERow.own (h : ERow E e w base v l) {g : Nat} (hg : g ∈ ownL v) : base ≤ g ∧ g < w.heap.size := World.ownsRow.lt h g (mem_ownL.1 hg)
theorem ERow.low (h : ERow E e w base v l) {b : Nat} (hb : ∀ g ∈ ownL v, b ≤ g) : ERow E e w b v l := by
  refine ⟨h.1, ?_⟩
  rcases h.2 with h2 | ⟨g, cap, cur, e1, e2, e3⟩
  · exact .inl h2
  · exact .inr ⟨g, cap, cur, e1, hb g (by rw [e1]; simp [ownL, Value.ownBlock]), e3⟩
theorem ERow.el {g n cap : Nat} (h : ERow E e w base (.slice (some ⟨g, 0, none⟩) n cap) l) (hn : n = l.length) {k t : Nat} (hk : k < l.length) (ht : t < E.n) : w.cell? ⟨g, k * E.n + t, none⟩ = (E.c l[k])[t]? := by
  subst hn
  unfold ERow at h
  have hb : k * E.n + t < l.length * E.n := by
    have h1 : (k + 1) * E.n ≤ l.length * E.n := Nat.mul_le_mul_right _ hk
    rw [Nat.succ_mul] at h1; omega
  rw [h.cellAt (k * E.n + t) hb, ecs_at E l k t hk ht]
theorem ERow.thaw {g n cap : Nat} (h : ERow E e w base (.slice (some ⟨g, 0, none⟩) n cap) l) (hn : n = l.length) (j : Nat) : w.frozen? ⟨g, j, none⟩ = false := by
  subst hn
  exact World.ownsRow.frozenAt h j
theorem ERow.isC {g n cap : Nat} (h : ERow E e w base (.slice (some ⟨g, 0, none⟩) n cap) l) (hn : n = l.length) (j : Nat) (hj : j < n * E.n) : (w.cell? ⟨g, j, none⟩).isSome = true ∧ w.frozen? ⟨g, j, none⟩ = false := by
  subst hn
  refine ⟨?_, h.thaw rfl j⟩
  unfold ERow at h
  rw [h.cellAt j hj, List.getElem?_eq_getElem (by rw [ecs_len]; omega)]
  rfl
theorem rec_setL {β : Type} : ∀ (vs : List β) (xs : List β) (o : Nat), o + vs.length ≤ xs.length → (vs.zipIdx o).foldl (fun acc p => acc.set p.2 p.1) xs = splice xs o vs
  | [], xs, o, _ => by simp [splice]
  | v :: r, xs, o, h => by
    have h' : o + (r.length + 1) ≤ xs.length := by simpa using h
    rw [List.zipIdx_cons, List.foldl_cons, rec_setL r _ (o + 1) (by rw [List.length_set]; omega)]
    have e1 : o < xs.length := by omega
    unfold splice
    rw [List.take_set, List.drop_set, if_pos (by omega), List.take_succ_eq_append_getElem e1, List.set_append_right _ _ (by simp; omega)]
    simp only [List.length_take, List.length_cons]
    rw [Nat.min_eq_left (by omega), Nat.sub_self]
    simp
    congr 1
    omega
/-- several cells of a row are laid anew -/
theorem rec_cells {g cap N sz : Nat} : ∀ (vs : List Value) (o : Nat) (w : World) (xs : List Value), w.ownsRow base e sz (.slice (some ⟨g, 0, none⟩) N cap) N xs → o + vs.length ≤ xs.length →
    (w.setCells g o vs).ownsRow base e sz (.slice (some ⟨g, 0, none⟩) N cap) N (splice xs o vs)
  | [], o, w, xs, h, _ => by simpa [splice, World.setCells] using h
  | v :: r, o, w, xs, h, hl => by
    rw [← rec_setL (v :: r) xs o hl, List.zipIdx_cons, List.foldl_cons, rec_setL r _ (o + 1) (by rw [List.length_set]; simp at hl; omega)]
    show ((w.setCell ⟨g, o, none⟩ v).setCells g (o + 1) r).ownsRow _ _ _ _ _ _
    exact rec_cells r (o + 1) _ _ (h.stored o v).1 (by rw [List.length_set]; simp at hl; omega)
theorem Only.cells {s : List Nat} {g : Nat} (hg : g ∈ s) {a : World} : ∀ (vs : List Value) (o : Nat) (w : World), Only s a w → Only s a (w.setCells g o vs)
  | [], _, _, h => h
  | v :: r, o, _, h => Only.cells hg r (o + 1) _ (h.setCell (p := ⟨g, o, none⟩) hg v)
/-- a row of which so many are the first -/
theorem rec_cut {g cap N : Nat} {l : List α} {r : List Value} (h : w.ownsRow base e E.n (.slice (some ⟨g, 0, none⟩) N cap) N (ecs E l ++ r)) (hm : l.length ≤ N) : ERow E e w base (.slice (some ⟨g, 0, none⟩) l.length cap) l := by
  rcases h.2 with ⟨h', _⟩ | ⟨g', cap', cur, h', hb, hg, hnc, hcm, hcs, htake⟩
  · simp at h'
  · simp only [Value.slice.injEq, Option.some.injEq, Addr.mk.injEq, and_true, true_and] at h'
    obtain ⟨rfl, rfl⟩ := h'
    refine ⟨ecs_len E l, .inr ⟨g, cap, cur, rfl, hb, hg, by omega, hcm, hcs, ?_⟩⟩
    have h1 := congrArg (List.take (l.length * E.n)) htake
    rw [List.take_take, Nat.min_eq_left (Nat.mul_le_mul_right _ hm), List.take_append_of_le_length (by rw [ecs_len]; omega), List.take_of_length_le (l := ecs E l) (by rw [ecs_len]; omega)] at h1
    exact h1
theorem ERow.cut {g cap : Nat} {l : List α} (h : ERow E e w base (.slice (some ⟨g, 0, none⟩) l.length cap) l) (m : Nat) (hm : m ≤ l.length) : ERow E e w base (.slice (some ⟨g, 0, none⟩) m cap) (l.take m) := by
  have hl : (l.take m).length = m := by simp; omega
  have h1 : w.ownsRow base e E.n (.slice (some ⟨g, 0, none⟩) l.length cap) l.length (ecs E (l.take m) ++ ecs E (l.drop m)) := by
    rw [← ecs_append, List.take_append_drop]; exact h
  have h2 := rec_cut h1 (by omega)
  rw [hl] at h2
  exact h2
/-- some records of a row are laid anew -/
theorem ERow.laid {g n cap : Nat} {l : List α} (h : ERow E e w base (.slice (some ⟨g, 0, none⟩) n cap) l) (hn : n = l.length) (m : List α) (k : Nat) (hk : k + m.length ≤ l.length) :
    ERow E e (w.setCells g (k * E.n) (ecs E m)) base (.slice (some ⟨g, 0, none⟩) n cap) (l.take k ++ m ++ l.drop (k + m.length)) := by
  subst hn
  have hx : k * E.n + (ecs E m).length ≤ (ecs E l).length := by rw [ecs_len, ecs_len, ← Nat.add_mul]; exact Nat.mul_le_mul_right _ hk
  have h1 := rec_cells (ecs E m) (k * E.n) w _ h hx
  rw [ecs_splice E l m k hk] at h1
  have e1 : (l.take k ++ m ++ l.drop (k + m.length)).length = l.length := by simp; omega
  unfold ERow
  rw [e1]
  exact h1
/-- a row of which the k-th is taken out, and the last place laid anew -/
theorem ERow.del {g cap k : Nat} {l : List α} (h : ERow E e w base (.slice (some ⟨g, 0, none⟩) l.length cap) l) (hk : k < l.length) (zr : α) :
    ERow E e ((w.setCells g (k * E.n) (ecs E (l.drop (k + 1)))).setCells g ((l.length - 1) * E.n) (ecs E (List.replicate 1 zr))) base (.slice (some ⟨g, 0, none⟩) (l.length - 1) cap) (l.eraseIdx k) := by
  have h1 := ERow.laid h rfl (l.drop (k + 1)) k (by rw [List.length_drop]; omega)
  have e1 : (l.drop (k + 1)).length = l.length - (k + 1) := List.length_drop ..
  obtain ⟨l1, hl1⟩ : ∃ l1, l1 = l.take k ++ l.drop (k + 1) ++ l.drop (k + (l.drop (k + 1)).length) := ⟨_, rfl⟩
  rw [← hl1] at h1
  have e2 : l1.length = l.length := by rw [hl1]; simp; omega
  have e3 : l1.take (l.length - 1) = l.eraseIdx k := by
    rw [hl1, List.eraseIdx_eq_take_drop_succ, List.take_append_of_le_length (by simp; omega), List.take_of_length_le (by simp; omega)]
  have h2 := ERow.laid h1 e2.symm (List.replicate 1 zr) (l.length - 1) (by simp; omega)
  obtain ⟨l2, hl2⟩ : ∃ l2, l2 = l1.take (l.length - 1) ++ List.replicate 1 zr ++ l1.drop (l.length - 1 + (List.replicate 1 zr).length) := ⟨_, rfl⟩
  rw [← hl2] at h2
  have e4 : l.length = l2.length := by rw [hl2]; simp; omega
  have e5 : l2.take (l.length - 1) = l.eraseIdx k := by
    rw [hl2, List.append_assoc, List.take_append_of_le_length (by simp; omega), List.take_take, Nat.min_self, e3]
  have h3 : ERow E e ((w.setCells g (k * E.n) (ecs E (l.drop (k + 1)))).setCells g ((l.length - 1) * E.n) (ecs E (List.replicate 1 zr))) base (.slice (some ⟨g, 0, none⟩) l2.length cap) l2 := by rw [← e4]; exact h2
  have h4 := ERow.cut h3 (l.length - 1) (by omega)
  rw [e5] at h4
  exact h4
theorem ERow.pushed {l : List α} {a : α} {n : Nat} (hn : n = l.length) (h : w.ownsRow base e E.n v (n + 1) (ecs E l ++ E.c a)) : ERow E e w base v (l ++ [a]) := by
  subst hn
  unfold ERow
  rw [List.length_append, ecs_append, show ecs E [a] = E.c a by simp [ecs]]
  exact h
/-- clear on the last records of a row -/
theorem clear_rec (E : Enc α) (b o m c : Nat) (t e ty : TypeId) (z : Value) (zr : α) (ht : Try.prog.underlying t = some (.slice e)) (hz : ∀ w, (zeroValue e).run Try.prog w = .ok z w) (hzc : z.cells.toList = E.c zr) (w : World)
    (hc : ∀ j, j < m * E.n → (w.cell? ⟨b, o + j, none⟩).isSome = true) (hf : ∀ j, j < m * E.n → w.frozen? ⟨b, o + j, none⟩ = false) :
    (Builtin.clear_ #[t] ty #[.slice (some ⟨b, o, none⟩) m c]).run Try.prog w = .ok (.tuple #[]) (w.setCells b o (ecs E (List.replicate m zr))) := by
  have hsz : z.cells.size = E.n := by rw [← Array.length_toList, hzc, E.len]
  have hl : (ecs E (List.replicate m zr)).length = m * E.n := by rw [ecs_len, List.length_replicate]
  have hzz : (Builtin.zeroCells z.cells m).toList = ecs E (List.replicate m zr) := by
    apply List.ext_getElem?
    intro j
    by_cases hj : j < m * E.n
    · have hp : 0 < E.n := E.pos
      have h1 : j / E.n < m := Nat.div_lt_of_lt_mul (by rw [Nat.mul_comm]; exact hj)
      have h2 := ecs_at E (List.replicate m zr) (j / E.n) (j % E.n) (by rw [List.length_replicate]; exact h1) (Nat.mod_lt _ hp)
      rw [Nat.mul_comm, Nat.div_add_mod] at h2
      rw [h2, List.getElem_replicate, ← hzc]
      have h3 : j % E.n < z.cells.size := by rw [hsz]; exact Nat.mod_lt _ hp
      have h4 : j < m * z.cells.size := by rw [hsz]; exact hj
      simp only [Builtin.zeroCells, hsz, Array.getElem?_toList, Array.getElem?_map, Array.getElem?_range, hj, if_true, Option.map_some, Array.getElem?_eq_getElem h3]
      exact congrArg some (getElem!_pos z.cells (j % E.n) h3)
    · rw [List.getElem?_eq_none (by rw [Array.length_toList, size_zeroCells, hsz]; omega), List.getElem?_eq_none (by rw [hl]; omega)]
  cases m with
  | zero => simp [Builtin.clear_, run_underlying ht, ecs, World.setCells]
  | succ m =>
    have hst := run_storeCells_cells (P := Try.prog) b o (ecs E (List.replicate (m + 1) zr)) 0 w (by rw [hl]; simpa using hc) (by rw [hl]; simpa using hf) (fun v hv => ecs_one E _ v hv)
    simp only [Nat.add_zero] at hst
    simp [Builtin.clear_, run_underlying ht, hz, hzz, hst]
/-- append where there is room, outside a region that draws: the new cells lie in a block -/
theorem wpList_append_room_at {P : Program} (w : World) {ops : Array Oper} {rest : List Oper} {o : Oper} {a : Act} {Q : Exit → Act → World → Prop}
    (hg : o.guard = none) (s x : Operand) (t : TypeId) (hop : o.op = Op.call { callee := Callee.builtin Builtin.append, args := #[s, x], argTypes := #[t, t] })
    (e : TypeId) (i : TypeInfo) (ht : P.underlying t = some (.slice e)) (hi : P.info? e = some i)
    (b off n cap : Nat) (hs : a.eval s = .slice (some ⟨b, off, none⟩) n cap) (ad : Addr) (m c : Nat) (news : List Value) (hx : a.eval x = .slice (some ad) m c)
    (hn : news.length = m * i.size) (hc : ∀ j u, news[j]? = some u → w.cell? (ad.add j) = some u) (h1c : ∀ u ∈ news, u.oneCell' = true)
    (hroom : n + m ≤ cap) (hsp : ∀ j, j < news.length → (w.cell? ⟨b, off + n * i.size + j, none⟩).isSome = true ∧ w.frozen? ⟨b, off + n * i.size + j, none⟩ = false)
    (hK : wpList P ops Q rest (a.put o.dst (.slice (some ⟨b, off, none⟩) (n + m) cap)) (w.setCells b (off + n * i.size) news)) :
    wpList P ops Q (o :: rest) a w := by
  refine wpList_plain hg fun K hK' => ?_
  have hrun := run_append_room_cells (P := P) w t o.type e i ht hi b off n cap ad m c news hn hc h1c hroom (fun j hj => (hsp j hj).1) (fun j hj => (hsp j hj).2)
  unfold Oper.wp
  simp [execOp, hop, resolve, invoke, builtin, hs, hx, hrun, Result.andThen]
  exact hK' _ _ hK
theorem rec_info {i : Option TypeInfo} {z : Value} {n b : Nat} (h : i.map (fun i => (i.zero, i.size, i.bytes)) = some (some z, n, b)) : ∃ j, i = some j ∧ j.zero = some z ∧ j.size = n ∧ j.bytes = b := by
  cases i with
  | none => cases h
  | some j => simp at h; exact ⟨j, rfl, h.1, h.2.1, h.2.2⟩
/-- append(v, record): v a row of one's own -/
theorem wpList_append_rec (E : Enc α) {ops : Array Oper} {rest : List Oper} {o : Oper} {a : Act} {Q : Exit → Act → World → Prop} {w : World} (hgd : o.guard = none) (s x : Operand) (t e : TypeId)
    (ho : o.op = .call { callee := .builtin .append, args := #[s, x], argTypes := #[t, t] }) (ht : Try.prog.underlying t = some (.slice e)) (z : Value) (bytes : Nat)
    (hinfo : (Try.prog.info? e).map (fun i => (i.zero, i.size, i.bytes)) = some (some z, E.n, bytes)) (hz : z.cells.size = E.n)
    (base : Nat) (v : Value) (l : List α) (hs : a.eval s = v) (hown : ERow E e w base v l) (B : Nat) (u : α) (hx : a.eval x = .slice (some ⟨B, 0, none⟩) 1 1)
    (hc : ∀ j, j < E.n → w.cell? ⟨B, j, none⟩ = (E.c u)[j]?) (hsm : l.length ≤ 100000) (hby : bytes ≤ 1000) (hbase : base ≤ w.heap.size)
    (h : ∀ g2 cap w', Hid (ERow E e w' base (.slice (some ⟨g2, 0, none⟩) (l.length + 1) cap) (l ++ [u])) → Hid (Only (ownL v) w w') → Hid (g2 ∈ ownL v ∨ g2 = w.heap.size) → wpList Try.prog ops Q rest (a.put o.dst (.slice (some ⟨g2, 0, none⟩) (l.length + 1) cap)) w') : wpList Try.prog ops Q (o :: rest) a w := by
  obtain ⟨i0, hi, hz0, hz1, hz2⟩ := rec_info hinfo
  refine wpList_append_lies w hgd s x t ho base e i0 z E.n bytes ht hi hz0 hz1 hz2 hz E.pos v _ _ hs hown ⟨B, 0, none⟩ 1 1 (E.c u) hx (by rw [E.len]; omega) ?_ (E.one u) (by decide) (by unfold maxLen; omega) ?_ hbase w.heap.size rfl ?_
  · intro j y hj
    have e1 : (⟨B, 0, none⟩ : Addr).add j = ⟨B, j, none⟩ := by unfold Addr.add; split <;> simp_all
    rw [e1]
    have hl := (List.getElem?_eq_some_iff.1 hj).1
    rw [E.len] at hl
    rw [hc j hl]; exact hj
  · have : (l.length + 1) * bytes ≤ 100001 * 1000 := Nat.mul_le_mul (by omega) hby
    omega
  intro g2 cap w' hr hg hat _
  refine h g2 cap w' ?_ ?_ ?_
  · exact ERow.pushed rfl hr
  · exact Only.of_grown_own hg (fun y hy => mem_ownL.2 hy)
  · rcases hat with h | h
    · exact .inl (mem_ownL.2 h)
    · exact .inr h
end
end Go.Proofs.Ytcljmdpnbfefbaa
