/-
  Members that join one behind the other and leave in any order: what they are told. Plain lists and numbers; a table of the call's own beside a row of numbers of the call's own. No conditions but those of each statement.
-/
import Derived.Test.YtcljmdpnbfefbaaXOne
namespace Go.Proofs.Ytcljmdpnbfefbaa
open Go.RowKit

def upL (n : Nat) : List Int := (List.range n).map (fun i : Nat => ((i + 1 : Nat) : Int))
theorem upL_len (n : Nat) : (upL n).length = n := by simp [upL]
theorem upL_mem {n : Nat} {x : Int} (h : x ∈ upL n) : 1 ≤ x ∧ x ≤ n := by
  simp only [upL, List.mem_map, List.mem_range] at h
  obtain ⟨i, hi, rfl⟩ := h
  omega
theorem upL_succ (n : Nat) : upL (n + 1) = upL n ++ [((n + 1 : Nat) : Int)] := by simp [upL, List.range_succ]
theorem upL_nodup : ∀ n : Nat, (upL n).Nodup
  | 0 => by simp [upL]
  | n + 1 => by
    rw [upL_succ, List.nodup_append]
    exact ⟨upL_nodup n, by simp, fun a ha b hb => by simp at hb; subst hb; rintro rfl; have := upL_mem ha; omega⟩
def upS (W : Wt) (n : Nat) : Sv := if n = 0 then noS 0 else oneS 1 1 W (upL n)
def restS (W : Wt) (l : List Int) : Sv := if l.length = 0 then noS 1 else oneS 1 1 W l
theorem upS_last (W : Wt) (n : Nat) : (upS W n).last ≤ 1 := by unfold upS; split; exact Nat.zero_le _; exact Nat.le_refl _
theorem upS_zero (W : Wt) : upS W 0 = noS 0 := rfl
theorem upS_rest (W : Wt) {n : Nat} (h : n ≠ 0) : upS W n = restS W (upL n) := by
  unfold upS restS
  rw [if_neg h, if_neg (by rw [upL_len]; exact h)]
theorem upS_join (W : Wt) {n : Nat} (h : n < 64) : joinN W ((n + 1 : Nat) : Int) (upS W n) = 1 ∧ joinF W ((n + 1 : Nat) : Int) (upS W n) = decide (n = 0) ∧ joinC ((n + 1 : Nat) : Int) (upS W n) = 0 ∧ joinS W ((n + 1 : Nat) : Int) (upS W n) = upS W (n + 1) := by
  by_cases h0 : n = 0
  · subst h0
    obtain ⟨h1, h2, h3, h4⟩ := no_join (n := 0) (W := W) (i := ((0 + 1 : Nat) : Int)) (by omega)
    rw [upS_zero]
    exact ⟨h1, by rw [h2]; rfl, h3, by rw [h4]; rfl⟩
  · obtain ⟨h1, h2, h3, h4⟩ := one_join (n := 1) (a := 1) (W := W) (is := upL n) (i := ((n + 1 : Nat) : Int)) (fun hm => by have := upL_mem hm; omega) (by omega) (by rw [upL_len]; exact h)
    have e : upS W n = oneS 1 1 W (upL n) := by unfold upS; rw [if_neg h0]
    rw [e]
    refine ⟨h1, by rw [h2]; exact (decide_eq_false h0).symm, h3, ?_⟩
    rw [h4, ← upL_succ]
    unfold upS; rw [if_neg (by omega)]
section
variable {W : Wt} {l : List Int} {i : Int}
theorem restS_leave (h : i ∈ l) : leaveN i (restS W l) = 1 ∧ leaveF i (restS W l) = decide ((l.erase i).length = 0) ∧ leaveO i (restS W l) = true ∧ leaveS i (restS W l) = restS W (l.erase i) := by
  have hpos : l.length ≠ 0 := by intro e; rw [List.length_eq_zero_iff] at e; subst e; simp at h
  have hle := List.length_erase_of_mem h
  obtain ⟨h1, h2, h3, h4⟩ := one_leave (n := 1) (a := 1) (W := W) h
  have e : restS W l = oneS 1 1 W l := by unfold restS; rw [if_neg hpos]
  rw [e]
  refine ⟨h1, ?_, h3, ?_⟩
  · rw [h2]
    by_cases h5 : l.length = 1
    · rw [decide_eq_true h5, decide_eq_true (by omega)]
    · rw [decide_eq_false h5, decide_eq_false (by omega)]
  · rw [h4]
    unfold restS
    by_cases h5 : l.length = 1
    · rw [if_pos h5, if_pos (by omega)]
    · rw [if_neg h5, if_neg (by omega)]
theorem restS_done : doneR 1 (restS W l) = l := by
  unfold restS
  split
  · rename_i h
    rw [List.length_eq_zero_iff] at h; subst h
    unfold doneR
    rw [if_neg (by simp [noS])]
  · exact (one_done (n := 1) (a := 1) (W := W) (is := l)).1
theorem restS_of (h : i ∉ l) : ofN i (restS W l) = 0 := by
  unfold restS
  split
  · exact no_of
  · exact one_of h
theorem restS_len : (restS W l).l.length = if l.length = 0 then 0 else 1 := by
  unfold restS
  split <;> rfl
theorem restS_nil : restS W [] = noS 1 := rfl
end
/-- a table of the call's own, and a row of numbers beside it -/
structure LastAt (w W : World) (g : Nat) (f : List Nat) (v : Value) (l : List Int) (s : Sv) : Prop where
  t : TbN eP 1 w W g f s
  r : IRow W v l
  d : ∀ y ∈ ownL v, y ∉ f ∧ w.heap.size ≤ y
section
variable {w W W' : World} {g : Nat} {f : List Nat} {v v' : Value} {l l' : List Int} {s s' : Sv}
theorem LastAt.old (h : LastAt w W g f v l s) (o : Only [] W W') : LastAt w W' g f v l s := ⟨h.t.old o, h.r.old o, h.d⟩
theorem LastAt.step (h : LastAt w W g f v l s) (n : Nx eP 1 W W' g f s') : ∃ f', LastAt w W' g f' v l s' := by
  obtain ⟨f', p, o, m⟩ := h.t.step n
  refine ⟨f', p, h.r.only o (fun y hy => (h.d y hy).1), fun y hy => ⟨fun hm => ?_, (h.d y hy).2⟩⟩
  rcases m y hm with h1 | h1
  · exact (h.d y hy).1 h1
  · have := h.r.own hy; omega
/-- the row anew -/
theorem LastAt.row (h : LastAt w W g f v l s) (o : Only (ownL v) W W') (r : IRow W' v' l') (hg : ∀ y ∈ ownL v', y ∈ ownL v ∨ W.heap.size ≤ y) : LastAt w W' g f v' l' s := by
  refine ⟨h.t.off o (fun x hx => ⟨(h.d x hx).2, (h.d x hx).1⟩), r, fun y hy => ?_⟩
  rcases hg y hy with h1 | h1
  · exact h.d y h1
  · exact ⟨fun hm => by have := h.t.p.lt hm; omega, Nat.le_trans h.t.b.size h1⟩
end
abbrev xT : ByteArray := ⟨#[120]⟩
def kX : Wt := ⟨noT, noT, false, noT, xT⟩
end Go.Proofs.Ytcljmdpnbfefbaa
