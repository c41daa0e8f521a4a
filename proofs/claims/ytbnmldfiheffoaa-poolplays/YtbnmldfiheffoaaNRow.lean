/-
  Words on rows of hosts in memory (a text and a number each), the program's or the document's own; a table in memory. Conditions: those of each statement.
-/
import Derived.Test.YtbnmldfiheffoaaNMath
import Derived.Test.YtbnmldfiheffoaaKOnly
import Derived.Laws.IdiomCopy
import Derived.Laws.CopyOwn
import Derived.Maps.AppendAt
import Derived.OwnWalk
namespace Go.Proofs.Ytbnmldfiheffoaa
open Go.RowKit

/-- the cells of hosts -/
def ucs (l : List Ho) : List Value := l.flatMap (fun a => [.string a.1, .int .i64 (a.2 : Int)])
theorem ucs_cons (a : Ho) (l : List Ho) : ucs (a :: l) = .string a.1 :: .int .i64 (a.2 : Int) :: ucs l := rfl
theorem ucs_append (l m : List Ho) : ucs (l ++ m) = ucs l ++ ucs m := by simp [ucs]
theorem ucs_len (l : List Ho) : (ucs l).length = l.length * 2 := by
  induction l with
  | nil => rfl
  | cons h r ih => rw [ucs_cons, List.length_cons, List.length_cons, ih, List.length_cons]; omega
theorem ucs_at : ∀ (l : List Ho) (j : Nat) (_ : j < l.length), (ucs l)[j * 2]? = some (.string (nthH l j).1) ∧ (ucs l)[j * 2 + 1]? = some (.int .i64 ((nthH l j).2 : Int))
  | h :: r, 0, _ => ⟨rfl, rfl⟩
  | h :: r, j + 1, hj => by
    have := ucs_at r j (by simpa using hj)
    rw [ucs_cons, show (j + 1) * 2 = j * 2 + 1 + 1 by omega]
    simpa [nthH] using this
theorem ucs_set1 : ∀ (l : List Ho) (k : Nat) (n : Nat), (ucs l).set (k * 2 + 1) (.int .i64 (n : Int)) = ucs (l.set k ((nthH l k).1, n))
  | [], _, _ => rfl
  | x :: r, 0, n => rfl
  | x :: r, k + 1, n => by
    rw [ucs_cons, show (k + 1) * 2 + 1 = k * 2 + 1 + 1 + 1 by omega]
    simp only [List.set_cons_succ]
    rw [ucs_set1 r k n, ucs_cons]
    simp [nthH]
theorem ucs_take : ∀ (l : List Ho) (k : Nat), (ucs l).take (k * 2) = ucs (l.take k)
  | [], k => by simp [ucs]
  | x :: r, 0 => by simp [ucs]
  | x :: r, k + 1 => by
    rw [ucs_cons, show (k + 1) * 2 = k * 2 + 1 + 1 by omega, List.take_succ_cons, List.take_succ_cons, ucs_take r k, List.take_succ_cons, ucs_cons]
theorem ucs_drop : ∀ (l : List Ho) (k : Nat), (ucs l).drop (k * 2) = ucs (l.drop k)
  | [], k => by simp [ucs]
  | x :: r, 0 => by simp
  | x :: r, k + 1 => by
    rw [ucs_cons, show (k + 1) * 2 = k * 2 + 1 + 1 by omega, List.drop_succ_cons, List.drop_succ_cons, ucs_drop r k, List.drop_succ_cons]
theorem ucs_one (l : List Ho) : ∀ u ∈ ucs l, u.oneCell' = true := by
  intro u hu
  unfold ucs at hu
  rw [List.mem_flatMap] at hu
  obtain ⟨a, _, h⟩ := hu
  simp at h
  rcases h with rfl | rfl <;> rfl
/-- a row of hosts of one's own -/
def URow (e : TypeId) (w : World) (base : Nat) (v : Value) (l : List Ho) : Prop := w.ownsRow base e 2 v l.length (ucs l)
theorem URow.nil (e : TypeId) (w : World) (base : Nat) : URow e w base (.slice none 0 0) [] := World.ownsRow_nil _ _ _ _
theorem URow.only {e : TypeId} {s : List Nat} {w w' : World} {base : Nat} {v : Value} {l : List Ho} (h : URow e w base v l) (k : Only s w w') (hn : ∀ g ∈ ownL v, g ∉ s) : URow e w' base v l := k.owns h (fun g hg => hn g (mem_ownL.2 hg))
theorem URow.form {e : TypeId} {w : World} {base : Nat} {v : Value} {l : List Ho} (h : URow e w base v l) : (v = .slice none 0 0 ∧ l = []) ∨ ∃ g cap, v = .slice (some ⟨g, 0, none⟩) l.length cap ∧ base ≤ g ∧ g < w.heap.size ∧ l.length ≤ cap ∧ cap ≤ maxLen := by
  rcases h.2 with ⟨h1, h2⟩ | ⟨g, cap, cur, e1, e2, e3, e4, e5, _⟩
  · exact .inl ⟨h1, List.length_eq_zero_iff.1 h2⟩
  · exact .inr ⟨g, cap, e1, e2, (Array.getElem?_eq_some_iff.1 e3).1, e4, e5⟩
theorem URow.slice {e : TypeId} {w : World} {base : Nat} {v : Value} {l : List Ho} (h : URow e w base v l) : ∃ A cap, v = .slice A l.length cap ∧ l.length ≤ cap ∧ cap ≤ maxLen := by
  rcases h.form with ⟨rfl, rfl⟩ | ⟨g, cap, rfl, _, _, h1, h2⟩
  · exact ⟨none, 0, rfl, Nat.le_refl _, Nat.zero_le _⟩
  · exact ⟨_, cap, rfl, h1, h2⟩
theorem URow.some_ {e : TypeId} {w : World} {base : Nat} {v : Value} {l : List Ho} (h : URow e w base v l) (h0 : 0 < l.length) : ∃ g cap, v = .slice (some ⟨g, 0, none⟩) l.length cap ∧ base ≤ g ∧ g < w.heap.size ∧ l.length ≤ cap ∧ cap ≤ maxLen := by
  rcases h.form with ⟨_, rfl⟩ | h
  · simp at h0
  · exact h
/-- the cells of a host at a place -/
def UlAt (w : World) (g k : Nat) (a : Ho) : Prop := w.cell? ⟨g, k * 2, none⟩ = some (.string a.1) ∧ w.cell? ⟨g, k * 2 + 1, none⟩ = some (.int .i64 (a.2 : Int))
theorem URow.el {e : TypeId} {w : World} {base g n cap : Nat} {l : List Ho} (h : URow e w base (.slice (some ⟨g, 0, none⟩) n cap) l) (hn : n = l.length) {k : Nat} (hk : k < l.length) : UlAt w g k (nthH l k) := by
  subst hn
  unfold URow at h
  obtain ⟨c1, c2⟩ := ucs_at l k hk
  exact ⟨(h.cellAt (k * 2) (by omega)).trans c1, (h.cellAt (k * 2 + 1) (by omega)).trans c2⟩
theorem URow.thaw {e : TypeId} {w : World} {base g n cap : Nat} {l : List Ho} (h : URow e w base (.slice (some ⟨g, 0, none⟩) n cap) l) (hn : n = l.length) (j : Nat) : w.frozen? ⟨g, j, none⟩ = false := by
  subst hn
  exact World.ownsRow.frozenAt h j
theorem URow.set1 {e : TypeId} {w : World} {base g n cap : Nat} {l : List Ho} (h : URow e w base (.slice (some ⟨g, 0, none⟩) n cap) l) (hn : n = l.length) (k m : Nat) :
    URow e (w.setCell ⟨g, k * 2 + 1, none⟩ (.int .i64 (m : Int))) base (.slice (some ⟨g, 0, none⟩) n cap) (l.set k ((nthH l k).1, m)) := by
  subst hn
  unfold URow at h ⊢
  rw [List.length_set, ← ucs_set1]
  exact (h.stored (k * 2 + 1) (.int .i64 (m : Int))).1
theorem URow.setBelow {e : TypeId} {w : World} {gw : Nat} {v : Value} {l : List Ho} (h : URow e w (gw + 1) v l) (o : Nat) (u : Value) : URow e (w.setCell ⟨gw, o, none⟩ u) (gw + 1) v l := ownsRow_setCell_below h (a := ⟨gw, o, none⟩) (by simp) u
theorem URow.pushed {e : TypeId} {w : World} {base : Nat} {v : Value} {l : List Ho} {a1 : ByteArray} {a2 : Nat} {n : Nat} (hn : n = l.length) (h : w.ownsRow base e 2 v (n + 1) (ucs l ++ [.string a1, .int .i64 (a2 : Int)])) : URow e w base v (l ++ [(a1, a2)]) := by
  subst hn
  unfold URow
  rw [List.length_append, ucs_append]
  exact h
/-- a row of which so many are the first -/
theorem row_cut {e : TypeId} {w : World} {base g cap N : Nat} {l : List Ho} {r : List Value} (h : w.ownsRow base e 2 (.slice (some ⟨g, 0, none⟩) N cap) N (ucs l ++ r)) (hm : l.length ≤ N) : URow e w base (.slice (some ⟨g, 0, none⟩) l.length cap) l := by
  rcases h.2 with ⟨h', _⟩ | ⟨g', cap', cur, h', hb, hg, hnc, hcm, hcs, htake⟩
  · simp at h'
  · simp only [Value.slice.injEq, Option.some.injEq, Addr.mk.injEq, and_true, true_and] at h'
    obtain ⟨rfl, rfl⟩ := h'
    refine ⟨ucs_len l, .inr ⟨g, cap, cur, rfl, hb, hg, by omega, hcm, hcs, ?_⟩⟩
    have h1 := congrArg (List.take (l.length * 2)) htake
    rw [List.take_take, Nat.min_eq_left (by omega), List.take_append_of_le_length (by rw [ucs_len]; omega), List.take_of_length_le (l := ucs l) (by rw [ucs_len]; omega)] at h1
    exact h1
theorem URow.cut {e : TypeId} {w : World} {base g cap : Nat} {l : List Ho} (h : URow e w base (.slice (some ⟨g, 0, none⟩) l.length cap) l) (m : Nat) (hm : m ≤ l.length) : URow e w base (.slice (some ⟨g, 0, none⟩) m cap) (l.take m) := by
  have hl : (l.take m).length = m := by simp; omega
  have h1 : w.ownsRow base e 2 (.slice (some ⟨g, 0, none⟩) l.length cap) l.length (ucs (l.take m) ++ ucs (l.drop m)) := by
    rw [← ucs_append, List.take_append_drop]; exact h
  have h2 := row_cut h1 (by omega)
  rw [hl] at h2
  exact h2
theorem setL_splice {α : Type} : ∀ (vs : List α) (xs : List α) (o : Nat), o + vs.length ≤ xs.length → (vs.zipIdx o).foldl (fun acc p => acc.set p.2 p.1) xs = splice xs o vs
  | [], xs, o, _ => by simp [splice]
  | v :: r, xs, o, h => by
    have h' : o + (r.length + 1) ≤ xs.length := by simpa using h
    rw [List.zipIdx_cons, List.foldl_cons, setL_splice r _ (o + 1) (by rw [List.length_set]; omega)]
    have e1 : o < xs.length := by omega
    unfold splice
    rw [List.take_set, List.drop_set, if_pos (by omega), List.take_succ_eq_append_getElem e1, List.set_append_right _ _ (by simp; omega)]
    simp only [List.length_take, List.length_cons]
    rw [Nat.min_eq_left (by omega), Nat.sub_self]
    simp
    congr 1
    omega
/-- several cells of a row are laid anew -/
theorem row_cells {e : TypeId} {base g cap N sz : Nat} : ∀ (vs : List Value) (o : Nat) (w : World) (xs : List Value), w.ownsRow base e sz (.slice (some ⟨g, 0, none⟩) N cap) N xs →
    (w.setCells g o vs).ownsRow base e sz (.slice (some ⟨g, 0, none⟩) N cap) N ((vs.zipIdx o).foldl (fun acc p => acc.set p.2 p.1) xs)
  | [], _, _, _, h => h
  | v :: r, o, w, xs, h => by
    rw [List.zipIdx_cons, List.foldl_cons]
    show ((w.setCell ⟨g, o, none⟩ v).setCells g (o + 1) r).ownsRow _ _ _ _ _ _
    exact row_cells r (o + 1) _ _ (h.stored o v).1
theorem Only.setCells {s : List Nat} {g : Nat} (hg : g ∈ s) {a : World} : ∀ (vs : List Value) (o : Nat) (w : World), Only s a w → Only s a (w.setCells g o vs)
  | [], _, _, h => h
  | v :: r, o, _, h => Only.setCells hg r (o + 1) _ (h.setCell (p := ⟨g, o, none⟩) hg v)
/-- the head of a table: for how many, its row told by v -/
structure TbHead (w : World) (g M : Nat) (v : Value) : Prop where
  c0 : w.cell? ⟨g, 0, none⟩ = some (.int .i64 (M : Int))
  c1 : w.cell? ⟨g, 1, none⟩ = some v
  z1 : w.frozen? ⟨g, 1, none⟩ = false
theorem TbHead.lt {w : World} {g M : Nat} {v : Value} (h : TbHead w g M v) : g < w.heap.size := block_of_cell (a := ⟨g, 0, none⟩) h.c0
theorem TbHead.only {f : List Nat} {w w' : World} {g M : Nat} {v : Value} (h : TbHead w g M v) (o : Only f w w') (hg : g ∉ f) : TbHead w' g M v :=
  ⟨(o.cell (p := ⟨g, 0, none⟩) h.lt hg).trans h.c0, (o.cell (p := ⟨g, 1, none⟩) h.lt hg).trans h.c1, (o.frozen (p := ⟨g, 1, none⟩) h.lt hg).trans h.z1⟩
theorem TbHead.set1 {w : World} {g M : Nat} {v : Value} (h : TbHead w g M v) (v' : Value) : TbHead (w.setCell ⟨g, 1, none⟩ v') g M v' :=
  ⟨by rw [World.cell?_setCell_other _ _ _ _ (by simp)]; exact h.c0, World.cell?_setCell_same _ _ _ h.c1, by rw [World.frozen?_setCell]; exact h.z1⟩
/-- at block g lies a table, its hosts of type e -/
structure TbAt (e : TypeId) (w : World) (g M : Nat) (v : Value) (l : List Ho) : Prop where
  head : TbHead w g M v
  row : URow e w (g + 1) v l
  ok : HoOk M l
theorem TbAt.own {e : TypeId} {w : World} {g M : Nat} {v : Value} {l : List Ho} (h : TbAt e w g M v l) {x : Nat} (hx : x ∈ ownL v) : g < x ∧ x < w.heap.size := by
  have := World.ownsRow.lt h.row x (mem_ownL.1 hx); omega
theorem TbAt.only {e : TypeId} {f : List Nat} {w w' : World} {g M : Nat} {v : Value} {l : List Ho} (h : TbAt e w g M v l) (o : Only f w w') (hg : g ∉ f) (hv : ∀ x ∈ ownL v, x ∉ f) : TbAt e w' g M v l := ⟨h.head.only o hg, h.row.only o hv, h.ok⟩
theorem TbAt.old {e : TypeId} {w w' : World} {g M : Nat} {v : Value} {l : List Ho} (h : TbAt e w g M v l) (o : Only [] w w') : TbAt e w' g M v l := h.only o (by simp) (by simp)
theorem info_partsU {i : Option TypeInfo} {z : Value} {n b : Nat} (h : i.map (fun i => (i.zero, i.size, i.bytes)) = some (some z, n, b)) : ∃ j, i = some j ∧ j.zero = some z ∧ j.size = n ∧ j.bytes = b := by
  cases i with
  | none => cases h
  | some j => simp at h; exact ⟨j, rfl, h.1, h.2.1, h.2.2⟩
theorem infoU : (Try.prog.info? 106).map (fun i => (i.zero, i.size, i.bytes)) = some (some (.agg #[.string ⟨#[]⟩, .int .i64 0]), 2, 24) := by kernel_rfl
theorem infoUR : (Try.prog.info? 102).map (fun i => (i.zero, i.size, i.bytes)) = some (some (.agg #[.string ⟨#[]⟩, .int .i64 0]), 2, 24) := by kernel_rfl
theorem HoOk.erase {M : Nat} {l : List Ho} (h : HoOk M l) (k : Nat) : HoOk M (l.eraseIdx k) :=
  ⟨h.m1, h.m2, Nat.le_trans (List.length_eraseIdx_le _ _) h.len, fun _ hx => h.six _ (List.mem_of_mem_eraseIdx hx)⟩
/-- append(v, host): v a row of one's own -/
theorem wpList_append_host {ops : Array Oper} {rest : List Oper} {o : Oper} {a : Act} {Q : Exit → Act → World → Prop} {w : World} (hgd : o.guard = none) (s x : Operand) (t e : TypeId)
    (ho : o.op = .call { callee := .builtin .append, args := #[s, x], argTypes := #[t, t] }) (ht : Try.prog.underlying t = some (.slice e))
    (hinfo : (Try.prog.info? e).map (fun i => (i.zero, i.size, i.bytes)) = some (some (.agg #[.string ⟨#[]⟩, .int .i64 0]), 2, 24))
    (base : Nat) (v : Value) (l : List Ho) (hs : a.eval s = v) (hown : URow e w base v l) (B : Nat) (x1 : ByteArray) (x2 : Nat) (hx : a.eval x = .slice (some ⟨B, 0, none⟩) 1 1)
    (h0 : w.cell? ⟨B, 0, none⟩ = some (.string x1)) (h1 : w.cell? ⟨B, 1, none⟩ = some (.int .i64 (x2 : Int))) (hsm : l.length ≤ 100000) (hbase : base ≤ w.heap.size)
    (h : ∀ g2 cap w', Hid (URow e w' base (.slice (some ⟨g2, 0, none⟩) (l.length + 1) cap) (l ++ [(x1, x2)])) → Hid (Only (ownL v) w w') → Hid (g2 ∈ ownL v ∨ g2 = w.heap.size) → wpList Try.prog ops Q rest (a.put o.dst (.slice (some ⟨g2, 0, none⟩) (l.length + 1) cap)) w') : wpList Try.prog ops Q (o :: rest) a w := by
  obtain ⟨i0, hi, hz0, hz1, hz2⟩ := info_partsU hinfo
  refine wpList_append_lies w hgd s x t ho base e i0 (.agg #[.string ⟨#[]⟩, .int .i64 0]) 2 24 ht hi hz0 hz1 hz2 rfl (by decide) v _ _ hs hown ⟨B, 0, none⟩ 1 1 [.string x1, .int .i64 (x2 : Int)] hx rfl ?_ (by intro u hu; simp at hu; rcases hu with rfl | rfl <;> rfl) (by decide) (by unfold maxLen; omega) (by omega) hbase w.heap.size rfl ?_
  · intro j u hj
    have e1 : (⟨B, 0, none⟩ : Addr).add j = ⟨B, j, none⟩ := by unfold Addr.add; split <;> simp_all
    rw [e1]
    match j, hj with
    | 0, hj => simp at hj; rw [← hj]; exact h0
    | 1, hj => simp at hj; rw [← hj]; exact h1
  intro g2 cap w' hr hg hat _
  refine h g2 cap w' ?_ ?_ ?_
  · exact URow.pushed rfl hr
  · exact Only.of_grown_own hg (fun y hy => mem_ownL.2 hy)
  · rcases hat with h | h
    · exact .inl (mem_ownL.2 h)
    · exact .inr h
/-- a row of texts of one's own -/
def TOwn (w : World) (base : Nat) (v : Value) (l : List ByteArray) : Prop := w.ownsRow base 9 1 v l.length (l.map Value.string)
theorem TOwn.nil (w : World) (base : Nat) : TOwn w base (.slice none 0 0) [] := World.ownsRow_nil _ _ _ _
theorem TOwn.only {s : List Nat} {w w' : World} {base : Nat} {v : Value} {l : List ByteArray} (h : TOwn w base v l) (k : Only s w w') (hn : ∀ g ∈ ownL v, g ∉ s) : TOwn w' base v l := k.owns h (fun g hg => hn g (mem_ownL.2 hg))
theorem TOwn.own {w : World} {base : Nat} {v : Value} {l : List ByteArray} (h : TOwn w base v l) {g : Nat} (hg : g ∈ ownL v) : base ≤ g ∧ g < w.heap.size := World.ownsRow.lt h g (mem_ownL.1 hg)
theorem TOwn.view {w : World} {base : Nat} {v : Value} {l : List ByteArray} (h : TOwn w base v l) : ∃ A cap, v = .slice A l.length cap ∧ l.length ≤ cap ∧ cap ≤ maxLen ∧ SRow w w.heap.size A l := by
  rcases h.2 with ⟨h1, h2⟩ | ⟨g, cap, cur, e1, e2, e3, e4, e5, _⟩
  · obtain rfl : l = [] := List.length_eq_zero_iff.1 h2
    exact ⟨none, 0, h1, Nat.le_refl _, Nat.zero_le _, fun j x hj => by simp at hj⟩
  · refine ⟨_, cap, e1, e4, e5, fun j x hj => ⟨_, rfl, (Array.getElem?_eq_some_iff.1 e3).1, ?_⟩⟩
    unfold TOwn at h
    exact World.ownsRow.cells h (g := g) (by rw [e1]; rfl) j _ (by rw [List.getElem?_map, hj]; rfl)
theorem infoSt : (Try.prog.info? 9).map (fun i => (i.zero, i.size, i.bytes)) = some (some (.string ⟨#[]⟩), 1, 16) := by kernel_rfl
/-- append(v, text): v a row of one's own -/
theorem wpList_append_text1 {ops : Array Oper} {rest : List Oper} {o : Oper} {a : Act} {Q : Exit → Act → World → Prop} {w : World} (hgd : o.guard = none) (s x : Operand)
    (ho : o.op = .call { callee := .builtin .append, args := #[s, x], argTypes := #[57, 57] })
    (base : Nat) (v : Value) (l : List ByteArray) (hs : a.eval s = v) (hown : TOwn w base v l) (B : Nat) (x1 : ByteArray) (hx : a.eval x = .slice (some ⟨B, 0, none⟩) 1 1)
    (h0 : w.cell? ⟨B, 0, none⟩ = some (.string x1)) (hsm : l.length ≤ 100000) (hbase : base ≤ w.heap.size)
    (h : ∀ v' w', Hid (TOwn w' base v' (l ++ [x1])) → Hid (Only (ownL v) w w') → wpList Try.prog ops Q rest (a.put o.dst v') w') : wpList Try.prog ops Q (o :: rest) a w := by
  obtain ⟨i0, hi, hz0, hz1, hz2⟩ := info_partsU infoSt
  refine wpList_append_lies w hgd s x 57 ho base 9 i0 (.string ⟨#[]⟩) 1 16 Try.underlying57 hi hz0 hz1 hz2 rfl (by decide) v _ _ hs hown ⟨B, 0, none⟩ 1 1 [.string x1] hx rfl ?_ (by intro u hu; simp at hu; subst hu; rfl) (by decide) (by unfold maxLen; omega) (by omega) hbase w.heap.size rfl ?_
  · intro j u hj
    match j, hj with
    | 0, hj => simp at hj; rw [← hj]; exact h0
  intro g2 cap w' hr hg _ _
  refine h _ w' ?_ ?_
  · show TOwn _ _ _ _
    unfold TOwn
    rw [List.length_append, List.map_append]
    exact hr
  · exact Only.of_grown_own hg (fun y hy => mem_ownL.2 hy)
end Go.Proofs.Ytbnmldfiheffoaa
