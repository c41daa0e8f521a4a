/-
  Two rows of texts of the call's own, one beside the other: an append to the one leaves the other; and the library's Sort and Compact at such a row, nil or not, over this seat's program. Conditions: those of each statement.
-/
import Derived.Test.YtinpfkbplflecaaDHdr4
import Derived.Deep.AppendLies
namespace Go.Proofs.Ytinpfkbplflecaa
open Go.RowKit

def Apart (v u : Value) : Prop := ∀ g, v.ownBlock = some g → u.ownBlock ≠ some g
theorem Apart.symm {v u : Value} (h : Apart v u) : Apart u v := fun g h1 h2 => h g h2 h1
def Two (w : World) (base : Nat) (v u : Value) (l m : List (List UInt8)) : Prop := sown w base v l ∧ sown w base u m ∧ Apart v u
theorem Two.symm {w : World} {base : Nat} {v u : Value} {l m : List (List UInt8)} (h : Two w base v u l m) : Two w base u v m l := ⟨h.2.1, h.1, h.2.2.symm⟩
theorem Two.below {w w' : World} {base : Nat} {v u : Value} {l m : List (List UInt8)} (h : Two w base v u l m) (hb : Below w.heap.size w w') : Two w' base v u l m :=
  ⟨ownsRow_below h.1 hb, ownsRow_below h.2.1 hb, h.2.2⟩
theorem Two.none_ (w : World) (base : Nat) : Two w base (.slice none 0 0) (.slice none 0 0) [] [] :=
  ⟨World.ownsRow_nil _ _ _ _, World.ownsRow_nil _ _ _ _, fun g h => by cases h⟩
theorem own_lt {w : World} {base : Nat} {u : Value} {m : List (List UInt8)} (h : sown w base u m) {g : Nat} (hg : u.ownBlock = some g) : base ≤ g ∧ g < w.heap.size := World.ownsRow.lt h g hg
theorem sown_grown {w w' : World} {base : Nat} {u : Value} {m : List (List UInt8)} {row : Option Nat} (h : sown w base u m) (hg : w.grownBy w' row) (hne : ∀ g, u.ownBlock = some g → row ≠ some g) : sown w' base u m := by
  refine ⟨h.1, ?_⟩
  rcases h.2 with h2 | ⟨g, cap, cur, e1, e2, e3, e4⟩
  · exact .inl h2
  · have hlt : g < w.heap.size := by
      rcases Nat.lt_or_ge g w.heap.size with h | h
      · exact h
      · rw [Array.getElem?_eq_none h] at e3; cases e3
    exact .inr ⟨g, cap, cur, e1, e2, (hg.block g hlt (fun e => hne g (by rw [e1]; rfl) e.symm)).trans e3, e4⟩

theorem HdAt.grown {w w' : World} {g : Nat} {a b : ByteArray} {row : Option Nat} (h : HdAt w g a b) (hg : w.grownBy w' row) (hne : row ≠ some g) : HdAt w' g a b :=
  have hk := hg.block g h.lt (fun e => hne e.symm)
  ⟨(World.cell?_of_block (a := ⟨g, 0, none⟩) hk).trans h.c0, (World.cell?_of_block (a := ⟨g, 1, none⟩) hk).trans h.c1⟩
theorem Two.new {w : World} {base : Nat} {v u : Value} {l m : List (List UInt8)} (h : Two w base v u l m) {g : Nat} (hg : w.heap.size ≤ g) : v.ownBlock ≠ some g := by
  intro e; have := (own_lt h.1 e).2; omega

/-- append(x, t), x a row of the call's own, another one beside it -/
theorem wpList_append_beside {ops : Array Oper} {rest : List Oper} {o : Oper} {a : Act} {Q : Exit → Act → World → Prop} {w : World} (hgd : o.guard = none) (s x : Operand)
    (ho : o.op = .call { callee := .builtin .append, args := #[s, x], argTypes := #[36, 36] })
    (base : Nat) (v u : Value) (l m : List (List UInt8)) (hs : a.eval s = v) (h2 : Two w base v u l m) (ad : Addr) (t : ByteArray) (hx : a.eval x = .slice (some ad) 1 1) (hc : w.cell? ad = some (.string t))
    (hsm : l.length ≤ 100000) (w0 : World) (hb : Below base w0 w) (hbase : base ≤ w.heap.size)
    (h : ∀ v' w', Two w' base v' u (l ++ [t.data.toList]) m → Below base w0 w' → w.grownBy w' v.ownBlock → wpList Try.prog ops Q rest (a.put o.dst v') w') : wpList Try.prog ops Q (o :: rest) a w := by
  obtain ⟨i0, hi, hz0, hz1, hz2⟩ := info_parts infoS
  refine wpList_append_lies w hgd s x 36 ho base 9 i0 (.string ⟨#[]⟩) 1 16 Try.underlying36 hi hz0 hz1 hz2 rfl (by decide) v _ _ hs h2.1 ad 1 1 [.string t] hx rfl ?_ ?_ (by decide) (by unfold maxLen; omega) (by omega) hbase _ rfl ?_
  · intro j q hj
    match j, hj with
    | 0, hj => simp at hj; subst hj; simpa [Addr.add] using hc
  · intro q hq; simp at hq; subst hq; rfl
  · intro g cap w' h1 h3 h4 h5
    refine h _ w' ⟨?_, sown_grown h2.2.1 h3 (fun g' hg' e => h2.2.2 g' e hg'), fun g' hg' => ?_⟩ (hb.grown h3 hbase (fun k hk => (own_lt h2.1 hk).1)) h3
    · unfold sown
      rw [List.length_append, List.map_append]
      have e : [t.data.toList].map sv = [.string t] := by show [sv _] = _; rw [sv_mk, mk_eq]
      rw [e]
      exact h1
    · obtain rfl : g = g' := by simpa [Value.ownBlock] using hg'
      intro e
      rcases h4 with h4 | h4
      · exact h2.2.2 g h4 e
      · have := (own_lt h2.2.1 e).2; omega

set_option maxHeartbeats 1000000 in
theorem insert_nil (w : World) : Calls Try.prog 87 #[.slice none 0 0, .int .i64 0, .int .i64 0] w fun e w' => e = .returned (.tuple #[]) ∧ w = w' := by
  go_enter Try.func87, Try.ntmps87
  go_wp2
  go_loop [6] (fun i => i = .int .i64 1) (fun _ => 0)
  case atStart => rfl
  case round =>
    subst hrel
    go_wp2
    go_end0
    exact ⟨rfl, rfl⟩
set_option maxHeartbeats 1000000 in
theorem pdq_nil (n : Int) (w : World) : Calls Try.prog 75 #[.slice none 0 0, .int .i64 0, .int .i64 0, .int .i64 n] w fun e w' => e = .returned (.tuple #[]) ∧ w = w' := by
  go_enter Try.func75, Try.ntmps75
  go_wp2
  go_loop [1, 2] (fun i j => i = .int .i64 0 ∧ j = .int .i64 0) (fun _ _ => 0)
  case atStart => exact ⟨rfl, rfl⟩
  case round =>
    obtain ⟨rfl, rfl⟩ := hrel
    go_wp2_with fail
    refine (insert_nil _).mono ?_
    rintro e w' ⟨rfl, rfl⟩
    go_wp2
    refine bodyPost_ret (results_none rfl _ _ _) rfl ?_
    exact ⟨rfl, rfl⟩
set_option maxHeartbeats 1000000 in
theorem Sort_nil (w : World) : Calls Try.prog 57 #[.slice none 0 0] w fun e w' => e = .returned (.tuple #[]) ∧ w = w' := by
  go_enter Try.func57, Try.ntmps57
  go_wp2_with fail
  refine (Try.bits_Len 0 _ (by decide) (by decide)).mono ?_
  rintro e w1 ⟨rfl, hw⟩
  go_wp2_with fail
  refine (pdq_nil _ _).mono ?_
  rintro e w' ⟨rfl, rfl⟩
  go_wp2
  go_end0
  exact ⟨rfl, by first | rfl | exact hw | exact hw.symm⟩

theorem sort_len (l : List (List UInt8)) : (sortT l).length = l.length := List.length_mergeSort _
theorem sown_empty {w : World} {base : Nat} {l : List (List UInt8)} {n c : Nat} (h : sown w base (.slice none n c) l) : l = [] ∧ n = 0 ∧ c = 0 := by
  rcases h.2 with ⟨h1, h2⟩ | ⟨g, cap, cur, e1, _⟩
  · simp only [Value.slice.injEq, true_and] at h1
    exact ⟨List.length_eq_zero_iff.1 h2, h1.1, h1.2⟩
  · simp at e1
theorem sown_form {w : World} {base : Nat} {v : Value} {l : List (List UInt8)} (h : sown w base v l) : (v = .slice none 0 0 ∧ l = []) ∨ ∃ g cap, v = .slice (some ⟨g, 0, none⟩) l.length cap ∧ base ≤ g ∧ g < w.heap.size ∧ l.length ≤ cap := by
  rcases h.2 with ⟨h1, h2⟩ | ⟨g, cap, cur, e1, e2, e3, e4, _⟩
  · exact .inl ⟨h1, List.length_eq_zero_iff.1 h2⟩
  · refine .inr ⟨g, cap, e1, e2, ?_, e4⟩
    rcases Nat.lt_or_ge g w.heap.size with h | h
    · exact h
    · rw [Array.getElem?_eq_none h] at e3; cases e3

theorem Sort_own (w0 w : World) (base : Nat) (v : Value) (l : List (List UInt8)) (h : sown w base v l) (hb : Below base w0 w) (hbs : base ≤ w.heap.size) (hl : l.length ≤ 1000000) :
    Calls Try.prog 57 #[v] w fun e w' => e = .returned (.tuple #[]) ∧ sown w' base v (sortT l) ∧ Below base w0 w' := by
  rcases sown_form h with ⟨rfl, rfl⟩ | ⟨g, cap, rfl, hg, hlt, _⟩
  · refine (Sort_nil w).mono ?_
    rintro e w' ⟨rfl, rfl⟩
    exact ⟨rfl, by rw [show sortT [] = [] from List.mergeSort_nil]; exact h, hb⟩
  · refine (Try.slices_Sort_string g 0 cap l w (sown_holds h) hlt (by omega)).mono ?_
    rintro e w' ⟨rfl, n, os, hw⟩
    have h1 := sown_put (w := Sort.ahead w n) h (sortT l) (sort_len l)
    refine ⟨rfl, ?_, ?_⟩
    · rw [hw]
      have h2 := sown_grow h1 os
      rw [sort_len] at h2
      exact h2
    · rw [hw]
      exact below_grow (below_put (below_ahead hb n) hg _) (by simp; omega) os

theorem Compact_own (w0 w : World) (base : Nat) (v : Value) (l : List (List UInt8)) (h : sown w base v l) (hb : Below base w0 w) (hl : l.length ≤ 1000000) (hcl : (Lib.compact l).length ≤ l.length) :
    Calls Try.prog 58 #[v] w fun e w' => ∃ v', e = .returned v' ∧ sown w' base v' (Lib.compact l) ∧ Below base w0 w' := by
  rcases sown_form h with ⟨rfl, rfl⟩ | ⟨g, cap, rfl, hg, hlt, hc⟩
  · refine (Try.slices_Compact_string_empty none 0 w).mono ?_
    rintro e w' ⟨rfl, hw⟩
    exact ⟨_, rfl, by rw [hw]; exact h, by rw [hw]; exact hb⟩
  · refine (Try.slices_Compact_string g 0 cap l w (sown_holds h) (by omega) hc).mono ?_
    rintro e w' ⟨rfl, q, hw⟩
    have h1 : (Lib.compact l ++ List.replicate (l.length - (Lib.compact l).length) []).length = l.length := by
      rw [List.length_append, List.length_replicate]; omega
    have h2 := sown_put (w := Sort.ahead w q) h _ h1
    have h3 := sown_take h2 (Lib.compact l).length (by rw [List.length_append]; omega)
    rw [List.take_left] at h3
    exact ⟨_, rfl, by rw [hw]; exact h3, by rw [hw]; exact below_put (below_ahead hb q) hg _⟩
theorem compact_len (l : List (List UInt8)) : (Lib.compact (sortT l)).length ≤ (sortT l).length := by
  rw [compact_sort, sort_len]; exact ris_len l
end Go.Proofs.Ytinpfkbplflecaa
