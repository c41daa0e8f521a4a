/-
  Words that the walks of layer 6's statements share: what is too great, what is small, rows made of rows. Conditions: those of each statement.
-/
import Derived.Test.YtinpfkbplflecaaDAwake
namespace Go.Proofs.Ytinpfkbplflecaa
open Go.RowKit

theorem great_each : ∀ (xs : List (ByteArray × ByteArray)) (n : Nat), greatGo n xs = false → ∀ x ∈ xs, x.1.size ≤ 100 ∧ x.2.size ≤ 5000
  | [], _, _, x, hx => by simp at hx
  | y :: r, n, h, x, hx => by
    rw [greatGo] at h
    split at h
    · cases h
    · rename_i hy
      simp at hy
      rcases List.mem_cons.1 hx with rfl | hx
      · omega
      · exact great_each r _ h x hx
def greatB (xs : List (ByteArray × ByteArray)) : Bool := decide (40 < xs.length) || greatGo 0 xs
def Bd (l : List Hd) (n a b : Nat) : Prop := l.length ≤ n ∧ ∀ h ∈ l, h.1.length ≤ a ∧ h.2.length ≤ b
theorem great_bd {xs : List (ByteArray × ByteArray)} (h : greatB xs = false) : Bd (xs.map hd) 40 100 5000 := by
  unfold greatB at h
  obtain ⟨h1, h2⟩ := Bool.or_eq_false_iff.1 h
  refine ⟨by simpa using of_decide_eq_false h1, fun g hg => ?_⟩
  obtain ⟨x, hx, rfl⟩ := List.mem_map.1 hg
  exact great_each xs 0 h2 x hx
theorem Bd.sm {l : List Hd} {n a b : Nat} (h : Bd l n a b) (hn : n ≤ 1000) (ha : a ≤ 100000) (hb : b ≤ 100000) : Sm l :=
  ⟨Nat.le_trans h.1 hn, fun g hg => ⟨Nat.le_trans (h.2 g hg).1 ha, Nat.le_trans (h.2 g hg).2 hb⟩⟩
theorem Bd.norm {l : List Hd} {n a b : Nat} (h : Bd l n a b) : Bd (normL l) n a b := by
  refine ⟨by simpa [normL] using h.1, fun g hg => ?_⟩
  obtain ⟨x, hx, rfl⟩ := List.mem_map.1 hg
  have := h.2 x hx
  exact ⟨by simpa [normH, Lk.lower_len] using this.1, Nat.le_trans (Lk.trim_len _) this.2⟩
theorem setR_mem (nm v : List UInt8) : ∀ (f : Bool) (l : List Hd) (g : Hd), g ∈ setR nm v f l → ∃ x ∈ l, g.1 = x.1 ∧ (g.2 = x.2 ∨ g.2 = v)
  | _, [], g, hg => by simp [setR] at hg
  | f, h :: r, g, hg => by
    rw [setR] at hg
    split at hg
    · split at hg
      · obtain ⟨x, hx, k⟩ := setR_mem nm v true r g hg
        exact ⟨x, List.mem_cons_of_mem _ hx, k⟩
      · rcases List.mem_cons.1 hg with rfl | hg
        · exact ⟨h, by simp, rfl, .inr rfl⟩
        · obtain ⟨x, hx, k⟩ := setR_mem nm v true r g hg
          exact ⟨x, List.mem_cons_of_mem _ hx, k⟩
    · rcases List.mem_cons.1 hg with rfl | hg
      · exact ⟨_, by simp, rfl, .inl rfl⟩
      · obtain ⟨x, hx, k⟩ := setR_mem nm v f r g hg
        exact ⟨x, List.mem_cons_of_mem _ hx, k⟩
theorem Bd.set {l : List Hd} {n a b : Nat} (h : Bd l n a b) {nm v : List UInt8} {a' b' : Nat} (ha : a ≤ a') (hb : b ≤ b') (h1 : nm.length ≤ a') (h2 : v.length ≤ b') : Bd (setH l nm v) (n + 1) a' b' := by
  refine ⟨Nat.le_trans (set_len l nm v) (by have := h.1; omega), fun g hg => ?_⟩
  unfold setH at hg
  rcases List.mem_append.1 hg with hg | hg
  · obtain ⟨x, hx, e1, e2⟩ := setR_mem nm v false l g hg
    have := h.2 x hx
    rcases e2 with e2 | e2
    · rw [e1, e2]; omega
    · rw [e1, e2]; omega
  · split at hg
    · simp at hg
    · obtain rfl : g = (nm, v) := by simpa using hg
      exact ⟨h1, h2⟩
theorem map_hd_mkp (l : List Hd) : (l.map mkp).map hd = l := by
  rw [List.map_map]
  conv => rhs; rw [← List.map_id l]
  apply List.map_congr_left
  intro x _
  exact hd_mkp x
theorem map_len (l : List Hd) : l.length = (l.map mkp).length := by simp
/-- a row of the call's own, as a row -/
theorem HdRow.row {w : World} {base : Nat} {v : Value} {l : List Hd} (h : HdRow w base v l) : ∃ (A : Option Addr) (n cap : Nat) (ys : List (ByteArray × ByteArray)), v = .slice A n cap ∧ n = ys.length ∧ ys.map hd = l ∧ n ≤ cap ∧ PRow w w.heap.size A ys := by
  obtain ⟨A, cap, e, h1, _, hp⟩ := h.prow
  exact ⟨A, l.length, cap, l.map mkp, e, map_len l, map_hd_mkp l, h1, hp⟩
theorem SRow.three_at (w : World) (x y z : ByteArray) (t : TypeId) (g : Nat) (hg : g = w.heap.size) : SRow (w.alloc (.cells #[.string x, .string y, .string z] t)) (g + 1) (some ⟨g, 0, none⟩) [x, y, z] := by
  subst hg
  intro j u hj
  match j, hj with
  | 0, hj => simp at hj; subst hj; exact ⟨_, rfl, by simp, by simp [Addr.add]⟩
  | 1, hj => simp at hj; subst hj; exact ⟨_, rfl, by simp, by simp [Addr.add]⟩
  | 2, hj => simp at hj; subst hj; exact ⟨_, rfl, by simp, by simp [Addr.add]⟩
theorem row_alike {xs ys : List (ByteArray × ByteArray)} (h : xs.map hd = ys.map hd) : xs = ys := by
  have : ∀ l : List (ByteArray × ByteArray), (l.map hd).map mkp = l := by
    intro l
    rw [List.map_map]
    conv => rhs; rw [← List.map_id l]
    apply List.map_congr_left
    intro x _
    exact mkp_hd x
  rw [← this xs, h, this]
theorem trow_row {w : World} {base : Nat} {v : Value} {l : List (List UInt8)} (h : sown w base v l) : ∃ (A : Option Addr) (n cap : Nat), v = .slice A n cap ∧ n = (l.map mk).length ∧ SRow w w.heap.size A (l.map mk) := by
  obtain ⟨A, c, e, _, hs⟩ := trow_of h
  exact ⟨A, _, c, e, by simp, hs⟩

theorem row_none {w : World} {B : Nat} {xs : List (ByteArray × ByteArray)} (h : PRow w B none xs) : xs = [] := by
  cases xs with
  | nil => rfl
  | cons x r =>
    obtain ⟨ad, e, _⟩ := h 0 x rfl
    cases e
/-- append(x, y...), x a row of the call's own, y any row of headers, nil or not -/
theorem wpList_append_heads {ops : Array Oper} {rest : List Oper} {o : Oper} {a : Act} {Q : Exit → Act → World → Prop} {w : World} (hgd : o.guard = none) (s x : Operand)
    (ho : o.op = .call { callee := .builtin .append, args := #[s, x], argTypes := #[22, 22] })
    (base : Nat) (v : Value) (l : List Hd) (hs : a.eval s = v) (hown : HdRow w base v l) (A : Option Addr) (c B : Nat) (xs : List (ByteArray × ByteArray)) (hx : a.eval x = .slice A xs.length c) (hp : PRow w B A xs) (hc : A = none → c = 0)
    (hsm : l.length + xs.length ≤ 1000) (hbase : base ≤ w.heap.size)
    (h : ∀ v' w', HdRow w' base v' (l ++ xs.map hd) → w.grownBy w' v.ownBlock → wpList Try.prog ops Q rest (a.put o.dst v') w') : wpList Try.prog ops Q (o :: rest) a w := by
  obtain ⟨i0, hi, hz0, hz1, hz2⟩ := info_parts infoH
  cases A with
  | none =>
    have := row_none hp
    subst this
    have hc0 := hc rfl
    subst hc0
    refine wpList_append_own_none hgd s x 22 ho base 41 i0 2 Try.underlying22 hi v _ _ hs hown hx ?_
    exact h v w (by simpa using hown) ⟨rfl, rfl, rfl, Nat.le_refl _, fun _ _ _ => rfl⟩
  | some ad =>
    refine wpList_append_own w hgd s x 22 ho base 41 i0 (.agg #[.string ⟨#[]⟩, .string ⟨#[]⟩]) 2 32 Try.underlying22 hi hz0 hz1 hz2 rfl (by decide) v _ _ hs hown ad xs.length c (hcs (xs.map hd)) hx (by rw [hcs_len]; simp) hp.cells (hcs_one _) (by unfold maxLen; omega) (by omega) hbase ?_
    intro v' w' h1 h2 _
    refine h v' w' ?_ h2
    unfold HdRow
    rw [hcs_append, List.length_append, List.length_map]
    exact h1
end Go.Proofs.Ytinpfkbplflecaa
