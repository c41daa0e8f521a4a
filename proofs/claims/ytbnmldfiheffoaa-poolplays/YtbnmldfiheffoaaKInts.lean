/-
  Rows of numbers of one's own: the library's Sort at such a row, nil or not, and the statements' helper Ints at two that are alike, over this seat's program. Conditions: those of each statement.
-/
import Derived.Test.YtbnmldfiheffoaaKRec
import Derived.Test.YtbnmldfiheffoaaShelf
namespace Go.Proofs.Ytbnmldfiheffoaa
open Go.RowKit

def nE : Enc Int := ⟨fun n => [.int .i64 n], 1, fun _ => rfl, fun _ u hu => by simp at hu; subst hu; rfl, Nat.one_pos⟩
/-- a row of numbers of one's own -/
def IRow (w : World) (v : Value) (l : List Int) : Prop := ERow nE 3 w 0 v l
theorem ics_eq (l : List Int) : ecs nE l = l.map (Value.int .i64) := by
  induction l with
  | nil => rfl
  | cons x r ih => rw [ecs_cons, ih]; rfl
theorem IRow.nil {w : World} : IRow w (.slice none 0 0) [] := ERow.nil
theorem IRow.only {s : List Nat} {w w' : World} {v : Value} {l : List Int} (h : IRow w v l) (k : Only s w w') (hn : ∀ g ∈ ownL v, g ∉ s) : IRow w' v l := ERow.only h k hn
theorem IRow.old {w w' : World} {v : Value} {l : List Int} (h : IRow w v l) (k : Only [] w w') : IRow w' v l := h.only k (by simp)
theorem IRow.own {w : World} {v : Value} {l : List Int} (h : IRow w v l) {g : Nat} (hg : g ∈ ownL v) : g < w.heap.size := (ERow.own h hg).2
theorem IRow.slice {w : World} {v : Value} {l : List Int} (h : IRow w v l) : ∃ A cap, v = .slice A l.length cap ∧ l.length ≤ cap ∧ cap ≤ maxLen := ERow.slice h
theorem IRow.at_ {w : World} {n cap : Nat} {A : Option Addr} {l : List Int} (h : IRow w (.slice A n cap) l) (hn : n = l.length) {k : Nat} (hk : k < l.length) : ∃ g, A = some ⟨g, 0, none⟩ ∧ w.cell? ⟨g, k, none⟩ = some (.int .i64 l[k]) := by
  subst hn
  rcases ERow.form h with ⟨_, rfl⟩ | ⟨g, cap2, e, _, _, _, _⟩
  · simp at hk
  · injection e with e1 e2 e3
    subst e1
    refine ⟨g, rfl, ?_⟩
    have := ERow.el h rfl hk (t := 0) (by decide)
    simpa [nE] using this
theorem infoI : (Try.prog.info? 3).map (fun i => (i.zero, i.size, i.bytes)) = some (some (.int .i64 0), 1, 8) := by kernel_rfl
/-- one number, just laid -/
theorem IRow.one {w : World} {B : Nat} {x : Int} (hB : w.heap[B]? = some (.cells #[.int .i64 x] 3 (0, 0))) : IRow w (.slice (some ⟨B, 0, none⟩) 1 1) [x] := by
  refine ⟨rfl, .inr ⟨B, 1, _, rfl, Nat.zero_le _, hB, Nat.le_refl _, by unfold maxLen; omega, rfl, ?_⟩⟩
  rfl
/-- append(v, number) -/
theorem wpList_append_int {ops : Array Oper} {rest : List Oper} {o : Oper} {a : Act} {Q : Exit → Act → World → Prop} {w : World} (hgd : o.guard = none) (s x : Operand)
    (ho : o.op = .call { callee := .builtin .append, args := #[s, x], argTypes := #[39, 39] })
    (v : Value) (l : List Int) (hs : a.eval s = v) (hown : IRow w v l) (B : Nat) (u : Int) (hx : a.eval x = .slice (some ⟨B, 0, none⟩) 1 1)
    (hc : w.cell? ⟨B, 0, none⟩ = some (.int .i64 u)) (hsm : l.length ≤ 100000)
    (h : ∀ g2 cap w', Hid (IRow w' (.slice (some ⟨g2, 0, none⟩) (l.length + 1) cap) (l ++ [u])) → Hid (Only (ownL v) w w') → Hid (g2 ∈ ownL v ∨ g2 = w.heap.size) → wpList Try.prog ops Q rest (a.put o.dst (.slice (some ⟨g2, 0, none⟩) (l.length + 1) cap)) w') : wpList Try.prog ops Q (o :: rest) a w :=
  wpList_append_rec nE hgd s x 39 3 ho Try.underlying39 (.int .i64 0) 8 infoI rfl 0 v l hs hown B u hx (fun j hj => by obtain rfl : j = 0 := Nat.lt_one_iff.1 hj; exact hc) hsm (by omega) (Nat.zero_le _) h

set_option maxHeartbeats 1000000 in
theorem insertI_nil (w : World) : Calls Try.prog 68 #[.slice none 0 0, .int .i64 0, .int .i64 0] w fun e w' => e = .returned (.tuple #[]) ∧ w = w' := by
  go_enter Try.func68, Try.ntmps68
  go_wp2
  go_loop [6] (fun i => i = .int .i64 1) (fun _ => 0)
  case atStart => rfl
  case round =>
    subst hrel
    go_wp2
    go_end0
    exact ⟨rfl, rfl⟩
set_option maxHeartbeats 1000000 in
theorem pdqI_nil (n : Int) (w : World) : Calls Try.prog 60 #[.slice none 0 0, .int .i64 0, .int .i64 0, .int .i64 n] w fun e w' => e = .returned (.tuple #[]) ∧ w = w' := by
  go_enter Try.func60, Try.ntmps60
  go_wp2
  go_loop [1, 2] (fun i j => i = .int .i64 0 ∧ j = .int .i64 0) (fun _ _ => 0)
  case atStart => exact ⟨rfl, rfl⟩
  case round =>
    obtain ⟨rfl, rfl⟩ := hrel
    go_wp2_with fail
    refine (insertI_nil _).mono ?_
    rintro e w' ⟨rfl, rfl⟩
    go_wp2
    refine bodyPost_ret (results_none rfl _ _ _) rfl ?_
    exact ⟨rfl, rfl⟩
set_option maxHeartbeats 1000000 in
theorem SortI_nil (w : World) : Calls Try.prog 48 #[.slice none 0 0] w fun e w' => e = .returned (.tuple #[]) ∧ w = w' := by
  go_enter Try.func48, Try.ntmps48
  go_wp2_with fail
  refine (Try.bits_Len 0 _ (by decide) (by decide)).mono ?_
  rintro e w1 ⟨rfl, hw⟩
  go_wp2_with fail
  refine (pdqI_nil _ _).mono ?_
  rintro e w' ⟨rfl, rfl⟩
  go_wp2
  go_end0
  exact ⟨rfl, by first | rfl | exact hw | exact hw.symm⟩

/-- the numbers, rising -/
def sortI (l : List Int) : List Int := l.mergeSort (fun x y => decide (x ≤ y))
theorem sortI_len (l : List Int) : (sortI l).length = l.length := List.length_mergeSort _
theorem IRow.holds {w : World} {g cap : Nat} {l : List Int} (h : IRow w (.slice (some ⟨g, 0, none⟩) l.length cap) l) : Sort.Holds (Value.int .i64) w g 0 l.toArray := by
  intro j hj
  have hjl : j < l.length := by simpa using hj
  refine ⟨?_, by rw [Nat.zero_add]; exact ERow.thaw h rfl j⟩
  obtain ⟨g2, e, hc⟩ := h.at_ rfl hjl
  injection e with e
  injection e with e _ _
  subst e
  rw [Nat.zero_add, hc]
  simp [hjl]
theorem IRow.put {w : World} {g cap : Nat} {l : List Int} (h : IRow w (.slice (some ⟨g, 0, none⟩) l.length cap) l) (d : List Int) (hd : d.length = l.length) :
    IRow (Sort.putRow (Value.int .i64) w g 0 d.toArray) (.slice (some ⟨g, 0, none⟩) l.length cap) d := by
  rw [← hd]
  rcases h.2 with ⟨h', _⟩ | ⟨g', cap', cur, h', hb, hg, hnc, hcm, hcs, htake⟩
  · simp at h'
  · simp only [Value.slice.injEq, Option.some.injEq, Addr.mk.injEq, and_true, true_and] at h'
    obtain ⟨rfl, rfl⟩ := h'
    refine ⟨ecs_len nE d, .inr ⟨g, cap, Sort.putCells (Value.int .i64) 0 d.toArray cur, rfl, hb, ?_, by omega, hcm, by simpa [Sort.putCells] using hcs, ?_⟩⟩
    · show (w.heap.modify g _)[g]? = _
      rw [Array.getElem?_modify, if_pos rfl, hg]; rfl
    · have hcs2 : cap * 1 = cur.size := hcs.symm
      rw [ics_eq]
      show List.take (d.length * 1) _ = _
      apply List.ext_getElem
      · simp [Sort.putCells]; omega
      · intro j h1 h2
        have hj : j < d.length := by simpa using h2
        simp [Sort.putCells, hj]
theorem Only.put {s : List Nat} {w W : World} (h : Only s w W) {g : Nat} (hg : g ∈ s) (d : Array Int) : Only s w (Sort.putRow (Value.int .i64) W g 0 d) := by
  refine h.trans ⟨rfl, rfl, rfl, by simp, fun k hk hn => ?_⟩
  show (W.heap.modify g _)[k]? = _
  rw [Array.getElem?_modify, if_neg (by rintro rfl; exact hn hg)]
theorem Only.sgrow {s : List Nat} {w W : World} (h : Only s w W) (os : Array Obj) : Only s w (Sort.grow W os) := by
  refine h.trans ⟨rfl, rfl, rfl, by simp, fun k hk _ => ?_⟩
  show (W.heap ++ os)[k]? = _
  rw [Array.getElem?_append_left hk]
theorem Only.ahead {s : List Nat} {w W : World} (h : Only s w W) (n : Nat) : Only s w (Sort.ahead W n) := ⟨h.os, h.tape, h.output, h.size, h.block⟩
theorem SortI_any (v : Value) (l : List Int) (w : World) (h : IRow w v l) (hl : l.length ≤ 1000000) :
    Calls Try.prog 48 #[v] w fun e w' => e = .returned (.tuple #[]) ∧ IRow w' v (sortI l) ∧ Only (ownL v) w w' := by
  rcases ERow.form h with ⟨rfl, rfl⟩ | ⟨g, cap, rfl, hg, hlt, _⟩
  · refine (SortI_nil w).mono ?_
    rintro e w' ⟨rfl, rfl⟩
    exact ⟨rfl, by rw [show sortI [] = [] from List.mergeSort_nil]; exact h, Only.refl _ _⟩
  · refine (Try.slices_Sort_int g 0 cap l w (IRow.holds h) hlt (by omega)).mono ?_
    rintro e w' ⟨rfl, n, os, hw⟩
    have ho : Only (ownL (.slice (some ⟨g, 0, none⟩) l.length cap)) w (Sort.ahead w n) := (Only.refl _ _).ahead n
    have hgl : g ∈ ownL (.slice (some ⟨g, 0, none⟩) l.length cap) := by simp [ownL, Value.ownBlock]
    have h0 : IRow (Sort.ahead w n) (.slice (some ⟨g, 0, none⟩) l.length cap) l := h.only ((Only.refl [] w).ahead n) (by simp)
    refine ⟨rfl, ?_, ?_⟩
    · rw [hw]
      exact (h0.put (sortI l) (sortI_len l)).only ((Only.refl [] _).sgrow os) (by simp)
    · rw [hw]
      exact (ho.put hgl _).sgrow os

set_option maxHeartbeats 1000000 in
/-- Ints at two rows of the same numbers -/
theorem Ints_any (ra rb : Value) (l : List Int) (w : World) (ha : IRow w ra l) (hb : IRow w rb l) :
    Calls Try.prog 19 #[ra, rb] w fun e w' => e = .returned (.bool true) ∧ Only [] w w' := by
  obtain ⟨A1, c1, e1, hc1, hm1⟩ := ha.slice
  obtain ⟨A2, c2, e2, hc2, hm2⟩ := hb.slice
  subst e1 e2
  unfold maxLen at hm1 hm2
  have HA := Lib.hid ha
  have HB := Lib.hid hb
  clear ha hb
  go_enter Try.func19, Try.ntmps19
  go_wp2_with fail
  go_loopw [5] (fun i wr => ∃ k : Nat, k ≤ l.length ∧ i = .int .i64 k ∧ Only [] w wr) (fun i _ => l.length - (intOf i).toNat)
  case atStart => exact ⟨0, Nat.zero_le _, rfl, Only.refl _ _⟩
  case round =>
    obtain ⟨k, hk, rfl, ho⟩ := hrel
    have HO := Lib.hid ho
    clear ho
    by_cases hlt : k < l.length
    · obtain ⟨g1, rfl, f1⟩ := (HA.out.only HO.out (by simp)).at_ rfl hlt
      obtain ⟨g2, rfl, f2⟩ := (HB.out.only HO.out (by simp)).at_ rfl hlt
      obtain ⟨x, hx⟩ : ∃ x, x = l[k] := ⟨_, rfl⟩
      rw [← hx] at f1 f2
      clear hx
      go_wp2_with fail
      go_quiet (fail)
      go_wp2_with fail
      go_roundw
      case rel => exact ⟨k + 1, by omega, by go_num, HO.out.drewN _⟩
      case measure => simp [intOf]; omega
    · obtain rfl : k = l.length := by omega
      go_wp2
      go_ret
      exact ⟨rfl, HO.out⟩
end Go.Proofs.Ytbnmldfiheffoaa
