/-
  Words on a row of alarms in memory, on what a call may turn, and the contract of alarm.before over this seat's program. Conditions: those of each statement.
-/
import Derived.Test.YtbpdemgbljbhcaaWMath
import Derived.Test.YtbpdemgbljbhcaaKMix
import Derived.Deep.AppendLies
namespace Go.Proofs.Ytbpdemgbljbhcaa
open Go.RowKit

/-- but for the blocks of s nothing that was there has turned -/
structure Only (s : List Nat) (w w' : World) : Prop where
  os : w'.os = w.os
  tape : w'.tape = w.tape
  output : w'.output = w.output
  size : w.heap.size ≤ w'.heap.size
  block : ∀ k, k < w.heap.size → k ∉ s → w'.heap[k]? = w.heap[k]?
theorem Only.refl (s : List Nat) (w : World) : Only s w w := ⟨rfl, rfl, rfl, Nat.le_refl _, fun _ _ _ => rfl⟩
theorem Only.next {s s' : List Nat} {a b c : World} (h : Only s a b) (k : Only s' b c) (hs : ∀ x ∈ s', x ∈ s ∨ a.heap.size ≤ x) : Only s a c :=
  ⟨k.os.trans h.os, k.tape.trans h.tape, k.output.trans h.output, Nat.le_trans h.size k.size, fun i hi hn => (k.block i (Nat.lt_of_lt_of_le hi h.size) (fun hm => by rcases hs i hm with h1 | h1; exact hn h1; omega)).trans (h.block i hi hn)⟩
theorem Only.trans {s : List Nat} {a b c : World} (h : Only s a b) (k : Only s b c) : Only s a c := h.next k fun _ hx => .inl hx
theorem Only.mono {s s' : List Nat} {a b : World} (h : Only s a b) (hs : ∀ x ∈ s, x ∈ s') : Only s' a b := ⟨h.os, h.tape, h.output, h.size, fun i hi hn => h.block i hi fun hm => hn (hs i hm)⟩
theorem Only.alloc {s : List Nat} {a w : World} (h : Only s a w) (o : Obj) : Only s a (w.alloc o) :=
  h.trans ⟨rfl, rfl, rfl, by simp, fun _ hk _ => Below.heap_alloc _ _ _ hk⟩
theorem Only.drew {s : List Nat} {a w : World} (h : Only s a w) : Only s a w.drew := ⟨h.os, h.tape, h.output, h.size, h.block⟩
theorem Only.drewN {s : List Nat} {a w : World} (h : Only s a w) (n : Nat) : Only s a (w.drewN n) := ⟨h.os, h.tape, h.output, h.size, h.block⟩
theorem Only.setCell {s : List Nat} {a w : World} (h : Only s a w) {p : Addr} (hp : p.block ∈ s) (u : Value) : Only s a (w.setCell p u) :=
  h.trans ⟨rfl, rfl, rfl, by simp [World.setCell], fun k _ hn => Below.heap_setCell _ _ _ _ (by rintro rfl; exact hn hp)⟩
theorem Only.setNew {s : List Nat} {a w : World} (h : Only s a w) {p : Addr} (hp : a.heap.size ≤ p.block) (u : Value) : Only s a (w.setCell p u) :=
  h.next (s' := [p.block]) ⟨rfl, rfl, rfl, by simp [World.setCell], fun k _ hn => Below.heap_setCell _ _ _ _ (by rintro rfl; simp at hn)⟩ (by intro x hx; simp at hx; subst hx; exact .inr hp)
theorem Only.of_below {w w' : World} (h : Below w.heap.size w w') (s : List Nat) : Only s w w' := ⟨h.os, h.tape, h.output, h.size, fun k hk _ => h.block k hk⟩
theorem Only.of_grown {w w' : World} {g : Nat} (h : w.grownBy w' (some g)) : Only [g] w w' := ⟨h.os, h.tape, h.output, h.size, fun k hk hn => h.block k hk (by intro e; apply hn; simp at e; subst e; simp)⟩
theorem Only.of_grown_own {w w' : World} {row : Option Nat} {s : List Nat} (h : w.grownBy w' row) (hs : ∀ g, row = some g → g ∈ s) : Only s w w' := ⟨h.os, h.tape, h.output, h.size, fun k hk hn => h.block k hk (by intro e; exact hn (hs k e.symm))⟩
theorem Only.below {s : List Nat} {B : Nat} {a b c : World} (h : Below B a b) (k : Only s b c) (hB : B ≤ b.heap.size) (hs : ∀ x ∈ s, B ≤ x) : Below B a c :=
  h.trans ⟨k.os, k.tape, k.output, k.size, fun i hi => k.block i (by omega) fun hm => by have := hs i hm; omega⟩
theorem Only.cell {s : List Nat} {w w' : World} (h : Only s w w') {p : Addr} (hp : p.block < w.heap.size) (hn : p.block ∉ s) : w'.cell? p = w.cell? p := World.cell?_of_block (w := w) (h.block p.block hp hn)
theorem Only.frozen {s : List Nat} {w w' : World} (h : Only s w w') {p : Addr} (hp : p.block < w.heap.size) (hn : p.block ∉ s) : w'.frozen? p = w.frozen? p := World.frozen?_of_block (w := w) (h.block p.block hp hn)
theorem Only.owns {s : List Nat} {w w' : World} {base : Nat} {e : TypeId} {size : Nat} {v : Value} {n : Nat} {xs : List Value} (hw : w.ownsRow base e size v n xs) (h : Only s w w') (hn : ∀ g, v.ownBlock = some g → g ∉ s) : w'.ownsRow base e size v n xs := by
  refine ⟨hw.1, ?_⟩
  rcases hw.2 with h2 | ⟨g, cap, cur, e1, e2, e3, e4⟩
  · exact .inl h2
  · have hlt : g < w.heap.size := (Array.getElem?_eq_some_iff.1 e3).1
    exact .inr ⟨g, cap, cur, e1, e2, (h.block g hlt (hn g (by rw [e1]; rfl))).trans e3, e4⟩

/-- an alarm as a value, and its cells -/
def av (a : Al) : Value := .agg #[.int .u64 a.1, .int .i64 a.2.1, .int .i64 a.2.2]
def acs (l : List Al) : List Value := l.flatMap (fun a => [.int .u64 a.1, .int .i64 a.2.1, .int .i64 a.2.2])
theorem acs_cons (a : Al) (l : List Al) : acs (a :: l) = .int .u64 a.1 :: .int .i64 a.2.1 :: .int .i64 a.2.2 :: acs l := rfl
theorem acs_append (l m : List Al) : acs (l ++ m) = acs l ++ acs m := by simp [acs]
theorem acs_len (l : List Al) : (acs l).length = l.length * 3 := by
  induction l with
  | nil => rfl
  | cons h r ih => rw [acs_cons, List.length_cons, List.length_cons, List.length_cons, ih, List.length_cons]; omega
theorem acs_at : ∀ (l : List Al) (j : Nat) (_ : j < l.length), (acs l)[j * 3]? = some (.int .u64 (nth l j).1) ∧ (acs l)[j * 3 + 1]? = some (.int .i64 (nth l j).2.1) ∧ (acs l)[j * 3 + 2]? = some (.int .i64 (nth l j).2.2)
  | h :: r, 0, _ => ⟨rfl, rfl, rfl⟩
  | h :: r, j + 1, hj => by
    have := acs_at r j (by simpa using hj)
    rw [acs_cons, show (j + 1) * 3 = j * 3 + 1 + 1 + 1 by omega]
    simpa [nth] using this
theorem acs_set : ∀ (l : List Al) (k : Nat) (a : Al), (((acs l).set (k * 3) (.int .u64 a.1)).set (k * 3 + 1) (.int .i64 a.2.1)).set (k * 3 + 2) (.int .i64 a.2.2) = acs (l.set k a)
  | [], _, _ => rfl
  | x :: r, 0, a => rfl
  | x :: r, k + 1, a => by
    rw [acs_cons, show (k + 1) * 3 = k * 3 + 1 + 1 + 1 by omega]
    simp only [List.set_cons_succ]
    rw [acs_set r k a, acs_cons]
theorem acs_take : ∀ (l : List Al) (k : Nat), (acs l).take (k * 3) = acs (l.take k)
  | [], k => by simp [acs]
  | x :: r, 0 => by simp [acs]
  | x :: r, k + 1 => by
    rw [acs_cons, show (k + 1) * 3 = k * 3 + 1 + 1 + 1 by omega, List.take_succ_cons, List.take_succ_cons, List.take_succ_cons, acs_take r k, List.take_succ_cons, acs_cons]

/-- a row of alarms of one's own -/
def ARow (w : World) (base : Nat) (v : Value) (l : List Al) : Prop := w.ownsRow base 66 3 v l.length (acs l)
theorem ARow.nil (w : World) (base : Nat) : ARow w base (.slice none 0 0) [] := World.ownsRow_nil _ _ _ _
theorem ARow.only {s : List Nat} {w w' : World} {base : Nat} {v : Value} {l : List Al} (h : ARow w base v l) (k : Only s w w') (hn : ∀ g, v.ownBlock = some g → g ∉ s) : ARow w' base v l := k.owns h hn
theorem ARow.form {w : World} {base : Nat} {v : Value} {l : List Al} (h : ARow w base v l) : (v = .slice none 0 0 ∧ l = []) ∨ ∃ g cap, v = .slice (some ⟨g, 0, none⟩) l.length cap ∧ base ≤ g ∧ g < w.heap.size ∧ l.length ≤ cap ∧ cap ≤ maxLen := by
  rcases h.2 with ⟨h1, h2⟩ | ⟨g, cap, cur, e1, e2, e3, e4, e5, _⟩
  · exact .inl ⟨h1, List.length_eq_zero_iff.1 h2⟩
  · exact .inr ⟨g, cap, e1, e2, (Array.getElem?_eq_some_iff.1 e3).1, e4, e5⟩
def ElAt (w : World) (g k : Nat) (a : Al) : Prop := w.cell? ⟨g, k * 3, none⟩ = some (.int .u64 a.1) ∧ w.cell? ⟨g, k * 3 + 1, none⟩ = some (.int .i64 a.2.1) ∧ w.cell? ⟨g, k * 3 + 2, none⟩ = some (.int .i64 a.2.2)
theorem ElAt.only {s : List Nat} {w w' : World} {g k : Nat} {a : Al} (h : ElAt w g k a) (o : Only s w w') (hg : g < w.heap.size) (hn : g ∉ s) : ElAt w' g k a :=
  ⟨(o.cell (p := ⟨g, _, none⟩) hg hn).trans h.1, (o.cell (p := ⟨g, _, none⟩) hg hn).trans h.2.1, (o.cell (p := ⟨g, _, none⟩) hg hn).trans h.2.2⟩
theorem ARow.el {w : World} {base g n cap : Nat} {l : List Al} (h : ARow w base (.slice (some ⟨g, 0, none⟩) n cap) l) (hn : n = l.length) {k : Nat} (hk : k < l.length) : ElAt w g k (nth l k) := by
  subst hn
  unfold ARow at h
  obtain ⟨c1, c2, c3⟩ := acs_at l k hk
  exact ⟨(h.cellAt (k * 3) (by omega)).trans c1, (h.cellAt (k * 3 + 1) (by omega)).trans c2, (h.cellAt (k * 3 + 2) (by omega)).trans c3⟩
theorem ARow.thaw {w : World} {base g n cap : Nat} {l : List Al} (h : ARow w base (.slice (some ⟨g, 0, none⟩) n cap) l) (hn : n = l.length) (j : Nat) : w.frozen? ⟨g, j, none⟩ = false := by
  subst hn
  exact World.ownsRow.frozenAt h j
/-- an alarm is laid at a place -/
def setEl (w : World) (g k : Nat) (a : Al) : World := ((w.setCell ⟨g, k * 3, none⟩ (.int .u64 a.1)).setCell ⟨g, k * 3 + 1, none⟩ (.int .i64 a.2.1)).setCell ⟨g, k * 3 + 2, none⟩ (.int .i64 a.2.2)
theorem ARow.setEl {w : World} {base g n cap : Nat} {l : List Al} (h : ARow w base (.slice (some ⟨g, 0, none⟩) n cap) l) (hn : n = l.length) (k : Nat) (a : Al) : ARow (setEl w g k a) base (.slice (some ⟨g, 0, none⟩) n cap) (l.set k a) := by
  subst hn
  unfold ARow at h ⊢
  unfold Proofs.Ytbpdemgbljbhcaa.setEl
  have h1 := (((h.stored (k * 3) (.int .u64 a.1)).1.stored (k * 3 + 1) (.int .i64 a.2.1)).1.stored (k * 3 + 2) (.int .i64 a.2.2)).1
  rw [List.length_set, ← acs_set]
  exact h1
theorem Only.setEl {s : List Nat} {a w : World} (h : Only s a w) {g : Nat} (hp : g ∈ s) (k : Nat) (x : Al) : Only s a (setEl w g k x) :=
  ((h.setCell (p := ⟨g, _, none⟩) hp _).setCell (p := ⟨g, _, none⟩) hp _).setCell (p := ⟨g, _, none⟩) hp _
/-- two alarms change places -/
def swapEl (w : World) (g q k : Nat) (a1 a2 a3 b1 b2 b3 : Int) : World :=
  (((((w.setCell ⟨g, q * 3, none⟩ (.int .u64 b1)).setCell ⟨g, q * 3 + 1, none⟩ (.int .i64 b2)).setCell ⟨g, q * 3 + 2, none⟩ (.int .i64 b3)).setCell ⟨g, k * 3, none⟩ (.int .u64 a1)).setCell ⟨g, k * 3 + 1, none⟩ (.int .i64 a2)).setCell ⟨g, k * 3 + 2, none⟩ (.int .i64 a3)
theorem ARow.swap {w : World} {base g n cap q k : Nat} {l : List Al} {a1 a2 a3 b1 b2 b3 : Int} (h : ARow w base (.slice (some ⟨g, 0, none⟩) n cap) l) (hn : n = l.length) (ha : (a1, a2, a3) = nth l q) (hb : (b1, b2, b3) = nth l k) :
    ARow (swapEl w g q k a1 a2 a3 b1 b2 b3).drew base (.slice (some ⟨g, 0, none⟩) n cap) (swp l q k) := by
  have h1 := (h.setEl hn q (b1, b2, b3)).setEl (by simpa using hn) k (a1, a2, a3)
  unfold swp
  rw [← ha, ← hb]
  exact World.ownsRow.drew h1
theorem Only.swap {s : List Nat} {a w : World} (h : Only s a w) {g : Nat} (hp : g ∈ s) (q k : Nat) (a1 a2 a3 b1 b2 b3 : Int) : Only s a (swapEl w g q k a1 a2 a3 b1 b2 b3).drew :=
  ((h.setEl hp q (b1, b2, b3)).setEl hp k (a1, a2, a3)).drew
theorem ARow.cut {w : World} {base g cap : Nat} {l : List Al} (h : ARow w base (.slice (some ⟨g, 0, none⟩) l.length cap) l) (m : Nat) (hm : m ≤ l.length) : ARow w base (.slice (some ⟨g, 0, none⟩) m cap) (l.take m) := by
  rcases h.2 with ⟨h', _⟩ | ⟨g', cap', cur, h', hb, hg, hnc, hcm, hcs, htake⟩
  · simp at h'
  · simp only [Value.slice.injEq, Option.some.injEq, Addr.mk.injEq, and_true, true_and] at h'
    obtain ⟨rfl, rfl⟩ := h'
    have hl : (l.take m).length = m := by simp; omega
    unfold ARow
    rw [hl]
    refine ⟨by rw [acs_len, hl], .inr ⟨g, cap, cur, rfl, hb, hg, by omega, hcm, hcs, ?_⟩⟩
    rw [← acs_take, ← htake, List.take_take]
    congr 1
    omega
theorem infoA : (Try.prog.info? 66).map (fun i => (i.zero, i.size, i.bytes)) = some (some (.agg #[.int .u64 0, .int .i64 0, .int .i64 0]), 3, 24) := by kernel_rfl

set_option maxHeartbeats 400000 in
theorem before_any (a b : Al) (w : World) :
    Calls Try.prog 32 #[.agg #[.int .u64 a.1, .int .i64 a.2.1, .int .i64 a.2.2], .agg #[.int .u64 b.1, .int .i64 b.2.1, .int .i64 b.2.2]] w fun e w' => e = .returned (.bool (bef a b)) ∧ Below w.heap.size w w' := by
  obtain ⟨a1, a2, a3⟩ := a
  obtain ⟨b1, b2, b3⟩ := b
  by_cases h : a1 = b1
  · subst h
    go_enter Try.func32, Try.ntmps32
    go_wp2
    go_ret
    exact ⟨ret_bool (by simp [bef]), ((Below.refl _ _).alloc (Nat.le_refl _) _).alloc (by simp) _⟩
  · go_enter Try.func32, Try.ntmps32
    go_wp2
    go_ret
    exact ⟨ret_bool (by simp [bef, h]), ((Below.refl _ _).alloc (Nat.le_refl _) _).alloc (by simp) _⟩
end Go.Proofs.Ytbpdemgbljbhcaa
