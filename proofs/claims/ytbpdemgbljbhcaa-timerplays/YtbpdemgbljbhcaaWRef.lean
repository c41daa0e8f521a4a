/-
  The document's own timers in memory, and the contracts of its New, Arm, Cancel, first, Next and Due over this seat's program. Conditions: at most 500 timers are armed.
-/
import Derived.Test.YtbpdemgbljbhcaaWLawStages
namespace Go.Proofs.Ytbpdemgbljbhcaa
open Go.RowKit

/-- the cells of the document's timers: number, tag, time -/
def tcs (l : List Al) : List Value := l.flatMap (fun a => [.int .i64 a.2.1, .int .i64 a.2.2, .int .u64 a.1])
theorem tcs_cons (a : Al) (l : List Al) : tcs (a :: l) = .int .i64 a.2.1 :: .int .i64 a.2.2 :: .int .u64 a.1 :: tcs l := rfl
theorem tcs_append (l m : List Al) : tcs (l ++ m) = tcs l ++ tcs m := by simp [tcs]
theorem tcs_len (l : List Al) : (tcs l).length = l.length * 3 := by
  induction l with
  | nil => rfl
  | cons h r ih => rw [tcs_cons, List.length_cons, List.length_cons, List.length_cons, ih, List.length_cons]; omega
theorem tcs_at : ∀ (l : List Al) (j : Nat) (_ : j < l.length), (tcs l)[j * 3]? = some (.int .i64 (nth l j).2.1) ∧ (tcs l)[j * 3 + 1]? = some (.int .i64 (nth l j).2.2) ∧ (tcs l)[j * 3 + 2]? = some (.int .u64 (nth l j).1)
  | h :: r, 0, _ => ⟨rfl, rfl, rfl⟩
  | h :: r, j + 1, hj => by
    have := tcs_at r j (by simpa using hj)
    rw [tcs_cons, show (j + 1) * 3 = j * 3 + 1 + 1 + 1 by omega]
    simpa [nth] using this
theorem tcs_take : ∀ (l : List Al) (k : Nat), (tcs l).take (k * 3) = tcs (l.take k)
  | [], k => by simp [tcs]
  | x :: r, 0 => by simp [tcs]
  | x :: r, k + 1 => by
    rw [tcs_cons, show (k + 1) * 3 = k * 3 + 1 + 1 + 1 by omega, List.take_succ_cons, List.take_succ_cons, List.take_succ_cons, tcs_take r k, List.take_succ_cons, tcs_cons]
theorem tcs_drop : ∀ (l : List Al) (k : Nat), (tcs l).drop (k * 3) = tcs (l.drop k)
  | [], k => by simp [tcs]
  | x :: r, 0 => by simp
  | x :: r, k + 1 => by
    rw [tcs_cons, show (k + 1) * 3 = k * 3 + 1 + 1 + 1 by omega, List.drop_succ_cons, List.drop_succ_cons, List.drop_succ_cons, tcs_drop r k, List.drop_succ_cons]
theorem tcs_one (l : List Al) : ∀ u ∈ tcs l, u.oneCell' = true := by
  intro u hu
  unfold tcs at hu
  rw [List.mem_flatMap] at hu
  obtain ⟨a, _, h⟩ := hu
  simp at h
  rcases h with rfl | rfl | rfl <;> rfl
/-- a row of the document's timers of one's own -/
def XRow (w : World) (base : Nat) (v : Value) (l : List Al) : Prop := w.ownsRow base 68 3 v l.length (tcs l)
theorem XRow.nil (w : World) (base : Nat) : XRow w base (.slice none 0 0) [] := World.ownsRow_nil _ _ _ _
theorem XRow.only {s : List Nat} {w w' : World} {base : Nat} {v : Value} {l : List Al} (h : XRow w base v l) (k : Only s w w') (hn : ∀ g ∈ ownL v, g ∉ s) : XRow w' base v l := k.owns h (fun g hg => hn g (mem_ownL.2 hg))
theorem XRow.form {w : World} {base : Nat} {v : Value} {l : List Al} (h : XRow w base v l) : (v = .slice none 0 0 ∧ l = []) ∨ ∃ g cap, v = .slice (some ⟨g, 0, none⟩) l.length cap ∧ base ≤ g ∧ g < w.heap.size ∧ l.length ≤ cap ∧ cap ≤ maxLen := by
  rcases h.2 with ⟨h1, h2⟩ | ⟨g, cap, cur, e1, e2, e3, e4, e5, _⟩
  · exact .inl ⟨h1, List.length_eq_zero_iff.1 h2⟩
  · exact .inr ⟨g, cap, e1, e2, (Array.getElem?_eq_some_iff.1 e3).1, e4, e5⟩
theorem XRow.slice {w : World} {base : Nat} {v : Value} {l : List Al} (h : XRow w base v l) : ∃ A cap, v = .slice A l.length cap ∧ l.length ≤ cap ∧ cap ≤ maxLen := by
  rcases h.form with ⟨rfl, rfl⟩ | ⟨g, cap, rfl, _, _, h1, h2⟩
  · exact ⟨none, 0, rfl, Nat.le_refl _, Nat.zero_le _⟩
  · exact ⟨_, cap, rfl, h1, h2⟩
theorem XRow.some_ {w : World} {base : Nat} {v : Value} {l : List Al} (h : XRow w base v l) (h0 : 0 < l.length) : ∃ g cap, v = .slice (some ⟨g, 0, none⟩) l.length cap ∧ base ≤ g ∧ g < w.heap.size ∧ l.length ≤ cap ∧ cap ≤ maxLen := by
  rcases h.form with ⟨_, rfl⟩ | h
  · simp at h0
  · exact h
/-- the cells of a timer at a place -/
def XlAt (w : World) (g k : Nat) (a : Al) : Prop := w.cell? ⟨g, k * 3, none⟩ = some (.int .i64 a.2.1) ∧ w.cell? ⟨g, k * 3 + 1, none⟩ = some (.int .i64 a.2.2) ∧ w.cell? ⟨g, k * 3 + 2, none⟩ = some (.int .u64 a.1)
theorem XRow.el {w : World} {base g n cap : Nat} {l : List Al} (h : XRow w base (.slice (some ⟨g, 0, none⟩) n cap) l) (hn : n = l.length) {k : Nat} (hk : k < l.length) : XlAt w g k (nth l k) := by
  subst hn
  unfold XRow at h
  obtain ⟨c1, c2, c3⟩ := tcs_at l k hk
  exact ⟨(h.cellAt (k * 3) (by omega)).trans c1, (h.cellAt (k * 3 + 1) (by omega)).trans c2, (h.cellAt (k * 3 + 2) (by omega)).trans c3⟩
theorem XRow.cut {w : World} {base g cap : Nat} {l : List Al} (h : XRow w base (.slice (some ⟨g, 0, none⟩) l.length cap) l) (m : Nat) (hm : m ≤ l.length) : XRow w base (.slice (some ⟨g, 0, none⟩) m cap) (l.take m) := by
  rcases h.2 with ⟨h', _⟩ | ⟨g', cap', cur, h', hb, hg, hnc, hcm, hcs, htake⟩
  · simp at h'
  · simp only [Value.slice.injEq, Option.some.injEq, Addr.mk.injEq, and_true, true_and] at h'
    obtain ⟨rfl, rfl⟩ := h'
    have hl : (l.take m).length = m := by simp; omega
    unfold XRow
    rw [hl]
    refine ⟨by rw [tcs_len, hl], .inr ⟨g, cap, cur, rfl, hb, hg, by omega, hcm, hcs, ?_⟩⟩
    rw [← tcs_take, ← htake, List.take_take]
    congr 1
    omega
theorem XRow.setBelow {w : World} {gw : Nat} {v : Value} {l : List Al} (h : XRow w (gw + 1) v l) (o : Nat) (u : Value) : XRow (w.setCell ⟨gw, o, none⟩ u) (gw + 1) v l := ownsRow_setCell_below h (a := ⟨gw, o, none⟩) (by simp) u
theorem XRow.pushed {w : World} {base : Nat} {v : Value} {l : List Al} {a1 a2 a3 : Int} {n : Nat} (hn : n = l.length) (h : w.ownsRow base 68 3 v (n + 1) (tcs l ++ [.int .i64 a2, .int .i64 a3, .int .u64 a1])) : XRow w base v (l ++ [(a1, a2, a3)]) := by
  subst hn
  unfold XRow
  rw [List.length_append, tcs_append]
  exact h
theorem infoX : (Try.prog.info? 68).map (fun i => (i.zero, i.size, i.bytes)) = some (some (.agg #[.int .i64 0, .int .i64 0, .int .u64 0]), 3, 24) := by kernel_rfl
/-- at block gr lie the document's own timers: of so many, the number that was given last; these are armed, in this order -/
structure RAt (w : World) (gr : Nat) (most last : Int) (v : Value) (s : List Al) : Prop where
  head : WHead w gr most last v
  row : XRow w (gr + 1) v s
theorem RAt.own {w : World} {gr : Nat} {most last : Int} {v : Value} {s : List Al} (h : RAt w gr most last v s) {g : Nat} (hg : g ∈ ownL v) : gr < g ∧ g < w.heap.size := by
  have := World.ownsRow.lt h.row g (mem_ownL.1 hg); omega
theorem RAt.only {w w' : World} {gr : Nat} {most last : Int} {v : Value} {s : List Al} {f : List Nat} (h : RAt w gr most last v s) (o : Only f w w') (hg : gr ∉ f) (hv : ∀ g ∈ ownL v, g ∉ f) : RAt w' gr most last v s := ⟨h.head.only o hg, h.row.only o hv⟩
theorem RAt.old {w w' : World} {gr : Nat} {most last : Int} {v : Value} {s : List Al} (h : RAt w gr most last v s) (o : Only [] w w') : RAt w' gr most last v s := h.only o (by simp) (by simp)

set_option maxHeartbeats 800000 in
theorem rNew_any (n : Int) (w : World) :
    Calls Try.prog 10 #[.int .i64 n] w fun e w' => e = .returned (.pointer (some ⟨w.heap.size, 0, none⟩)) ∧ RAt w' w.heap.size (clampM n) 0 (.slice none 0 0) [] ∧ Only [] w w' ∧ w'.heap.size = w.heap.size + 1 := by
  obtain ⟨m, hm⟩ : ∃ m, m = clampM n := ⟨_, rfl⟩
  rw [← hm]
  obtain ⟨W, hW⟩ : ∃ W, W = w.alloc (.cells #[.int .i64 m, .int .i64 0, .slice none 0 0] 43) := ⟨_, rfl⟩
  have HH : Hid (WHead W w.heap.size m 0 (.slice none 0 0)) := by show WHead _ _ _ _ _; rw [hW]; exact ⟨by simp, by simp, by simp, by simp, by simp⟩
  have HO : Hid (Only [] w W) := by show Only _ _ _; rw [hW]; exact (Only.refl _ _).alloc _
  have HS : Hid (W.heap.size = w.heap.size + 1) := by show _ = _; rw [hW]; simp
  unfold clampM at hm
  by_cases h1 : n < 1
  · rw [if_pos h1] at hm
    subst hm
    go_enter Try.func10, Try.ntmps10
    go_wp2_with fail
    rw [← hW]
    clear hW
    go_wp2
    go_ret
    exact ⟨rfl, ⟨HH.out, XRow.nil _ _⟩, HO.out, HS.out⟩
  rw [if_neg h1] at hm
  by_cases h2 : 256 < n
  · rw [if_pos h2] at hm
    subst hm
    have h3 : ¬ n ≤ 256 := by omega
    go_enter Try.func10, Try.ntmps10
    go_wp2_with fail
    rw [← hW]
    clear hW
    go_wp2
    go_ret
    exact ⟨rfl, ⟨HH.out, XRow.nil _ _⟩, HO.out, HS.out⟩
  · rw [if_neg h2] at hm
    subst hm
    have h3 : m ≤ 256 := by omega
    go_enter Try.func10, Try.ntmps10
    go_wp2_with fail
    rw [← hW]
    clear hW
    go_wp2
    go_ret
    exact ⟨rfl, ⟨HH.out, XRow.nil _ _⟩, HO.out, HS.out⟩
end Go.Proofs.Ytbpdemgbljbhcaa
