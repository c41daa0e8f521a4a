/-
  The contracts of cache.New, find, has, remove, Sweep, Clear and of the document's own New over this seat's program. Conditions: those of each statement.
-/
import Derived.Test.YtlkneapidmdpbaaGreatDoorBDel
namespace Go.Proofs.YtlkneapidmdpbaaGreatDoor
open Go.RowKit

theorem newCa {w : World} {n : Nat} (h1 : 1 ≤ n) (h2 : n ≤ 64) (t : TypeId) : CaAt (w.alloc (.cells #[.int .i64 (n : Int), .slice none 0 0] t)) w.heap.size n (.slice none 0 0) [] :=
  ⟨by simp, by simp, by simp, EnRow.nil, by simp [ownL, Value.ownBlock], h1, h2, Nat.zero_le _⟩
set_option maxHeartbeats 800000 in
theorem cNew_any (n : Int) (w : World) :
    Calls Tryz.prog 32 #[.int .i64 n] w fun e w' => ∃ g, e = .returned (.pointer (some ⟨g, 0, none⟩)) ∧ CaAt w' g (clampE n) (.slice none 0 0) [] ∧ Only [] w w' ∧ w.heap.size ≤ g := by
  obtain ⟨h1, h2⟩ := clampE_bd n
  obtain ⟨m, hm⟩ : ∃ m, m = clampE n := ⟨_, rfl⟩
  rw [← hm] at h1 h2 ⊢
  obtain ⟨z, hz⟩ : ∃ z : Int, z = (m : Int) := ⟨_, rfl⟩
  obtain ⟨W, hW⟩ : ∃ W, W = w.alloc (.cells #[.int .i64 z, .slice none 0 0] 98) := ⟨_, rfl⟩
  have HC : Hid (CaAt W w.heap.size m (.slice none 0 0) []) := by show CaAt _ _ _ _ _; rw [hW, hz]; exact newCa h1 h2 _
  have HO : Hid (Only [] w W) := by show Only _ _ _; rw [hW]; exact (Only.refl _ _).alloc _
  clear h1 h2
  unfold clampE at hm
  by_cases h1 : n < 1
  · rw [if_pos h1] at hm
    obtain rfl : z = 1 := by omega
    clear hm hz
    go_enter Tryz.func32, Tryz.ntmps32
    go_wp2_with fail
    first | rw [← hW] | rw [show min (max n 1) 64 = (1 : Int) by omega, ← hW]
    clear hW
    go_wp2
    go_ret
    exact ⟨_, rfl, HC.out, HO.out, Nat.le_refl _⟩
  rw [if_neg h1] at hm
  by_cases h2 : 64 < n
  · rw [if_pos h2] at hm
    obtain rfl : z = 64 := by omega
    clear hm hz
    have h3 : ¬ n ≤ 64 := by omega
    go_enter Tryz.func32, Tryz.ntmps32
    go_wp2_with fail
    first | rw [← hW] | rw [show min (max n 1) 64 = (64 : Int) by omega, ← hW]
    clear hW
    go_wp2
    go_ret
    exact ⟨_, rfl, HC.out, HO.out, Nat.le_refl _⟩
  · rw [if_neg h2] at hm
    obtain rfl : z = n := by omega
    have h3 : z ≤ 64 := by omega
    clear hm hz
    go_enter Tryz.func32, Tryz.ntmps32
    go_wp2_with fail
    first | rw [← hW] | rw [show min (max z 1) 64 = z by omega, ← hW]
    clear hW
    go_wp2
    go_ret
    exact ⟨_, rfl, HC.out, HO.out, Nat.le_refl _⟩
set_option maxHeartbeats 800000 in
theorem cfind_any (g n : Nat) (v : Value) (l : List En) (e : En) (w : World) (h : CaAt w g n v l) :
    Calls Tryz.prog 69 #[.pointer (some ⟨g, 0, none⟩), entV e] w fun r w' => r = .returned (.int .i64 (spotI (sameB e) l)) ∧ Only [] w w' := by
  obtain ⟨A, cap, rfl, _, _⟩ := h.row.slice
  have eg : ∀ args w, (callFunc 117 args).run Tryz.prog w = .ok (.enter 117 args) w := enters_of Tryz.func117 (by kernel_rfl) rfl
  obtain ⟨W1, hW1⟩ : ∃ W1, W1 = w.alloc (.cells #[.string e.k.o, .string e.k.u, .bool e.k.c, .string e.m, .string e.h, .int .u64 (e.t : Int)] 64) := ⟨_, rfl⟩
  have HO1 : Hid (Only [] w W1) := by show Only _ _ _; rw [hW1]; exact (Only.refl _ _).alloc _
  have HK1 : Hid (EnBox W1 w.heap.size e) := by show EnBox _ _ _; rw [hW1]; exact EnBox.new _ _ _
  have hc1 := (h.old HO1.out).c1
  have HC : Hid (∀ (W : World) (x : En), Only [] W1 W → Calls Tryz.prog 117 (#[entV x] ++ #[.pointer (some ⟨w.heap.size, 0, none⟩)]) W fun r w' => r = .returned (.bool (sameB e x)) ∧ Only [] W w') := by
    show ∀ (W : World) (x : En), _
    intro W x hO
    exact cfind1_any e x w.heap.size W (HK1.out.old hO)
  have hcon := idxE_any 117 #[.pointer (some ⟨w.heap.size, 0, none⟩)] (sameB e) _ l W1 eg (h.row.old HO1.out) HC.out
  have hgl : g < w.heap.size := h.lt
  have hne : g ≠ w.heap.size := by omega
  have hc0 := h.c1
  simp only [entV]
  clear h eg
  go_enter Tryz.func69, Tryz.ntmps69
  go_wp2_with fail
  rw [← hW1]
  clear hW1
  refine hcon.mono ?_
  rintro r w' ⟨rfl, hb'⟩
  clear hcon hc1 hc0
  go_wp2
  go_ret
  exact ⟨rfl, HO1.out.trans hb'⟩

set_option maxHeartbeats 800000 in
theorem chas_any (g n : Nat) (v : Value) (l : List En) (t fn : Nat) (lb : Array Value) (p : En → Bool) (w : World) (h : CaAt w g n v l)
    (eg : ∀ args w, (callFunc fn args).run Tryz.prog w = .ok (.enter fn args) w)
    (hp : ∀ (W : World) (x : En), Only [] w W → Calls Tryz.prog fn (#[entV x] ++ lb) W fun e w' => e = .returned (.bool (p x)) ∧ Only [] W w') :
    Calls Tryz.prog 119 #[.pointer (some ⟨g, 0, none⟩), .int .u64 (t : Int), .func (.func fn) #[] lb] w fun r w' => r = .returned (.bool (hasL t p l)) ∧ Only [] w w' := by
  obtain ⟨A, cap, rfl, _, _⟩ := h.row.slice
  have eg2 : ∀ args w, (callFunc 165 args).run Tryz.prog w = .ok (.enter 165 args) w := enters_of Tryz.func165 (by kernel_rfl) rfl
  obtain ⟨W1, hW1⟩ : ∃ W1, W1 = w.alloc (.cells #[.int .u64 (t : Int)] 23) := ⟨_, rfl⟩
  obtain ⟨B1, hB1⟩ : ∃ B1, B1 = w.heap.size := ⟨_, rfl⟩
  have HO1 : Hid (Only [] w W1) := by show Only _ _ _; rw [hW1]; exact (Only.refl _ _).alloc _
  have HK1 : Hid (W1.cell? ⟨B1, 0, none⟩ = some (.int .u64 (t : Int))) := by show _ = _; rw [hW1, hB1]; simp
  obtain ⟨W2, hW2⟩ : ∃ W2, W2 = W1.alloc (.cells #[.func (.func fn) #[] lb] 99) := ⟨_, rfl⟩
  obtain ⟨B2, hB2⟩ : ∃ B2, B2 = W1.heap.size := ⟨_, rfl⟩
  have HO2 : Hid (Only [] W1 W2) := by show Only _ _ _; rw [hW2]; exact (Only.refl _ _).alloc _
  have HK2 : Hid (W2.cell? ⟨B2, 0, none⟩ = some (.func (.func fn) #[] lb)) := by show _ = _; rw [hW2, hB2]; simp
  have HK12 : Hid (W2.cell? ⟨B1, 0, none⟩ = some (.int .u64 (t : Int))) := (HO2.out.cell (p := ⟨B1, 0, none⟩) (block_of_cell (a := ⟨B1, 0, none⟩) HK1.out) (by simp)).trans HK1.out
  have HO12 := Lib.hid (HO1.out.trans HO2.out)
  have hc1 := (h.old HO12.out).c1
  have HC : Hid (∀ (W : World) (x : En), Only [] W2 W → Calls Tryz.prog 165 (#[entV x] ++ #[.pointer (some ⟨B1, 0, none⟩), .pointer (some ⟨B2, 0, none⟩)]) W fun r w' => r = .returned (.bool (!expB t x && p x)) ∧ Only [] W w') := by
    show ∀ (W : World) (x : En), _
    intro W x hO
    refine chas1_any t fn lb p x B1 B2 W ((hO.cell (p := ⟨B1, 0, none⟩) (block_of_cell (a := ⟨B1, 0, none⟩) HK12.out) (by simp)).trans HK12.out) ((hO.cell (p := ⟨B2, 0, none⟩) (block_of_cell (a := ⟨B2, 0, none⟩) HK2.out) (by simp)).trans HK2.out) eg ?_
    intro W' y hO'
    exact hp W' y (HO12.out.trans (hO.trans hO'))
  have hcon := contE_any 165 #[.pointer (some ⟨B1, 0, none⟩), .pointer (some ⟨B2, 0, none⟩)] (fun x => !expB t x && p x) _ l W2 eg2 (h.row.old HO12.out) HC.out
  change Calls _ _ _ _ (fun e w' => e = .returned (.bool (hasL t p l)) ∧ Only [] W2 w') at hcon
  generalize hasL t p l = q at *
  have hgl : g < w.heap.size := h.lt
  have hne : g ≠ w.heap.size := by omega
  have hne2 : g ≠ w.heap.size + 1 := by omega
  have hB2s : B2 = w.heap.size + 1 := by rw [hB2, hW1]; simp
  have hc0 := h.c1
  clear h eg eg2 hp
  go_enter Tryz.func119, Tryz.ntmps119
  go_wp2_with fail
  rw [← hB2s, ← hB1, ← hW1, ← hW2]
  clear hW1 hB1 hW2 hB2 hB2s
  refine hcon.mono ?_
  rintro r w' ⟨rfl, hb'⟩
  clear hcon hc1
  go_wp2
  go_ret
  exact ⟨by simp, HO12.out.trans hb'⟩

set_option maxHeartbeats 1600000 in
/-- the entries of which the function says true are taken out -/
theorem cremove_any (g n : Nat) (v : Value) (l : List En) (fn : Nat) (lb : Array Value) (p : En → Bool) (w : World) (h : CaAt w g n v l)
    (eg : ∀ args w, (callFunc fn args).run Tryz.prog w = .ok (.enter fn args) w)
    (hp : ∀ (W : World) (x : En), Only (ownL v) w W → Calls Tryz.prog fn (#[entV x] ++ lb) W fun e w' => e = .returned (.bool (p x)) ∧ Only [] W w') :
    Calls Tryz.prog 114 #[.pointer (some ⟨g, 0, none⟩), .func (.func fn) #[] lb] w fun r w' => r = .returned (.int .i64 ((l.length - (l.filter (fun e => !p e)).length : Nat) : Int)) ∧ CaStep w w' g n v (l.filter (fun e => !p e)) := by
  obtain ⟨A, cap, hv, hlc, hcm⟩ := h.row.slice
  unfold maxLen at hcm
  have hcon := delF_any fn lb p v l w h.row eg hp
  have hl := List.length_filter_le (fun e => !p e) l
  obtain ⟨m, hm⟩ : ∃ m, m = l.filter (fun e => !p e) := ⟨_, rfl⟩
  rw [← hm] at hcon hl ⊢
  have HH := Lib.hid h
  have hc1 := h.c1
  have hgl := h.lt
  have hll := h.len
  have hn2 := h.n2
  clear h eg hp hm
  subst hv
  go_enter Tryz.func114, Tryz.ntmps114
  go_wp2_with fail
  refine hcon.mono ?_
  rintro r w1 ⟨v1, rfl, hr, ho, hg⟩
  clear hcon hc1
  obtain ⟨A1, cap1, hv1, hlc1, hcm1⟩ := hr.slice
  unfold maxLen at hcm1
  have hd1 : w1.cell? ⟨g, 1, none⟩ = some (.slice A l.length cap) := (ho.cell (p := ⟨g, 1, none⟩) hgl HH.out.ne).trans HH.out.c1
  have hz1 : w1.frozen? ⟨g, 1, none⟩ = false := (ho.frozen (p := ⟨g, 1, none⟩) hgl HH.out.ne).trans HH.out.z1
  obtain ⟨W2, hW2⟩ : ∃ W2, W2 = w1.setCell ⟨g, 1, none⟩ v1 := ⟨_, rfl⟩
  have HC2 : Hid (CaAt W2 g n v1 m) := by show CaAt _ _ _ _ _; rw [hW2]; exact HH.out.turn ho hr hg (by omega)
  have HO2 : Hid (Only (g :: ownL (.slice A l.length cap)) w W2) := by show Only _ _ _; rw [hW2]; exact (ho.mono (by intro x hx; simp [hx])).setCell (p := ⟨g, 1, none⟩) (by simp) _
  have hd2 := HC2.out.c1
  have HG := Lib.hid hg
  clear hr ho hg
  subst hv1
  go_wp2_with fail
  rw [← hW2]
  clear hW2 hd1 hz1
  go_wp2_with fail
  go_ret
  exact ⟨ret_int (by omega), _, HC2.out, HO2.out, HG.out⟩
end Go.Proofs.YtlkneapidmdpbaaGreatDoor
