/-
  The contracts of share.New, home, find, total, refusal, remove, Of, Members, Want and Len over this seat's program. Conditions: those of each statement.
-/
import Derived.Test.YtcljmdpnbfefbaaXDel
namespace Go.Proofs.Ytcljmdpnbfefbaa
open Go.RowKit

section
variable {e : TypeId} {d g last : Nat} {w w' : World} {v v' : Value} {l l' : List Px}
/-- a table's number is counted on -/
theorem ShAt.count (h : ShAt e d w g v last l) (n : Nat) : ShAt e d (w.setCell ⟨g, 0, none⟩ (.int .i64 ((n + d : Nat) : Int))) g v n l := by
  obtain ⟨d1, d2, _, _⟩ := foot_nodup.1 h.nd
  have ho : Only [g] w (w.setCell ⟨g, 0, none⟩ (.int .i64 ((n + d : Nat) : Int))) := (Only.refl _ _).setCell (p := ⟨g, 0, none⟩) (by simp) _
  refine ⟨World.cell?_setCell_same _ _ _ h.c0, ?_, ?_, ?_, h.row.only ho (by intro y hy hm; simp at hm; subst hm; exact d1 hy), fun x hx => (h.ids x hx).only ho (by intro y hy hm; simp at hm; subst hm; exact d2 (mem_feet.2 ⟨x, hx, hy⟩)), h.nd⟩
  · rw [World.cell?_setCell_other _ _ _ _ (by simp)]; exact h.c1
  · rw [World.frozen?_setCell]; exact h.z0
  · rw [World.frozen?_setCell]; exact h.z1
/-- its row is another one -/
theorem ShAt.turn (h : ShAt e d w g v last l) (o : Only (ownL v) w w') (hr : PRow e w' v' l') (hv : Grow w.heap.size v v') (hi : ∀ x ∈ l', IRow w' x.v x.p.i) (hd : (feet l').Nodup) (hf : ∀ z ∈ feet l', (z ∈ feet l ∨ w.heap.size ≤ z) ∧ z ∉ ownL v') :
    ShAt e d (w'.setCell ⟨g, 1, none⟩ v') g v' last l' := by
  obtain ⟨d1, d2, d3, _⟩ := foot_nodup.1 h.nd
  have hg : g ∉ ownL v' := fun hm => by rcases hv g hm with h1 | h1; exact d1 h1; have := h.lt; omega
  have hgf : g ∉ feet l' := fun hm => by rcases (hf g hm).1 with h1 | h1; exact d2 h1; have := h.lt; omega
  have e1 : w'.cell? ⟨g, 1, none⟩ = some v := (o.cell (p := ⟨g, 1, none⟩) h.lt d1).trans h.c1
  have e0 : w'.cell? ⟨g, 0, none⟩ = some (.int .i64 ((last + d : Nat) : Int)) := (o.cell (p := ⟨g, 0, none⟩) h.lt d1).trans h.c0
  have ho : Only [g] w' (w'.setCell ⟨g, 1, none⟩ v') := (Only.refl _ _).setCell (p := ⟨g, 1, none⟩) (by simp) _
  refine ⟨?_, World.cell?_setCell_same _ _ _ e1, ?_, ?_, hr.only ho (by intro y hy hm; simp at hm; subst hm; exact hg hy), fun x hx => (hi x hx).only ho (by intro y hy hm; simp at hm; subst hm; exact hgf (mem_feet.2 ⟨x, hx, hy⟩)), ?_⟩
  · rw [World.cell?_setCell_other _ _ _ _ (by simp)]; exact e0
  · rw [World.frozen?_setCell]; exact (o.frozen (p := ⟨g, 0, none⟩) h.lt d1).trans h.z0
  · rw [World.frozen?_setCell]; exact (o.frozen (p := ⟨g, 1, none⟩) h.lt d1).trans h.z1
  · exact foot_nodup.2 ⟨hg, hgf, fun y hy hm => (hf y hm).2 hy, hd⟩
/-- one is taken out, the row is the old one or a new one -/
theorem ShAt.erase (h : ShAt e d w g v last l) (k : Nat) (o : Only (ownL v) w w') (hr : PRow e w' v' (l.eraseIdx k)) (hv : Grow w.heap.size v v') :
    ShAt e d (w'.setCell ⟨g, 1, none⟩ v') g v' last (l.eraseIdx k) := by
  obtain ⟨_, _, d3, d4⟩ := foot_nodup.1 h.nd
  have hs := feet_erase l k
  refine h.turn o hr hv (fun x hx => ?_) (d4.sublist hs) (fun z hz => ⟨.inl (hs.mem hz), fun hm => ?_⟩)
  · have hx' := List.mem_of_mem_eraseIdx hx
    exact (h.ids x hx').only o (fun z hz hm => d3 z hm (mem_feet.2 ⟨x, hx', hz⟩))
  · rcases hv z hm with h1 | h1
    · exact d3 z h1 (hs.mem hz)
    · have := h.feetLt (hs.mem hz); omega
end
theorem newSh (e : TypeId) (d : Nat) (w : World) (t : TypeId) : ShAt e d (w.alloc (.cells #[.int .i64 (d : Int), .slice none 0 0] t)) w.heap.size (.slice none 0 0) 0 [] :=
  ⟨by simp, by simp, by simp, by simp, PRow.nil, by simp, by simp [foot, feet, ownL, Value.ownBlock]⟩
theorem map_erase {l : List Px} {m : List Pv} (h : l.map Px.p = m) (k : Nat) : (l.eraseIdx k).map Px.p = m.eraseIdx k := by rw [← h, List.eraseIdx_eq_take_drop_succ, List.eraseIdx_eq_take_drop_succ, List.map_append, List.map_take, List.map_drop]
theorem map_len {l : List Px} {m : List Pv} (h : l.map Px.p = m) : l.length = m.length := by rw [← h, List.length_map]

set_option maxHeartbeats 400000 in
/-- an atomic number is laid -/
theorem atStore_any (g o : Nat) (t u : Int) (w : World) (h0 : w.cell? ⟨g, o, none⟩ = some (.int .i64 t)) (hz : w.frozen? ⟨g, o, none⟩ = false) :
    Calls Try.prog 26 #[.pointer (some ⟨g, o, none⟩), .int .i64 u] w fun e w' => e = .returned (.tuple #[]) ∧ w' = w.setCell ⟨g, o, none⟩ (.int .i64 u) := by
  have hst := run_call_store (P := Try.prog) Try.func40 (by kernel_rfl) (by kernel_rfl) (by kernel_rfl) (by kernel_rfl) (k := .i64) (y := u) h0 hz
  go_enter Try.func26, Try.ntmps26
  go_wp2
  go_end0
  exact ⟨rfl, rfl⟩
set_option maxHeartbeats 400000 in
/-- a sum on an atomic number -/
theorem atAdd_any (g o : Nat) (t d : Int) (w : World) (h0 : w.cell? ⟨g, o, none⟩ = some (.int .i64 t)) (hz : w.frozen? ⟨g, o, none⟩ = false) (hb : -9223372036854775808 ≤ t + d ∧ t + d ≤ 9223372036854775807) :
    Calls Try.prog 42 #[.pointer (some ⟨g, o, none⟩), .int .i64 d] w fun e w' => e = .returned (.int .i64 (t + d)) ∧ w' = w.setCell ⟨g, o, none⟩ (.int .i64 (t + d)) := by
  have hs : (Op.intArith .add .i64 t d).run Try.prog w = .ok (.int .i64 (t + d)) w := by
    have e : IntKind.i64.wrap (t + d) = t + d := by
      have h1 := hb.1; have h2 := hb.2
      simp [IntKind.wrap, IntKind.bits, IntKind.signed]
      first | omega | (split <;> omega)
    simp [Op.intArith, e]
  have hst := run_call_add (P := Try.prog) Try.func48 (by kernel_rfl) (by kernel_rfl) (by kernel_rfl) .i64 (by kernel_rfl) h0 hz hs
  clear hs
  go_enter Try.func42, Try.ntmps42
  go_wp2
  go_ret
  exact ⟨rfl, rfl⟩
abbrev eP : TypeId := 71
abbrev eR : TypeId := 76
set_option maxHeartbeats 800000 in
theorem sNew_any (w : World) : Calls Try.prog 8 #[] w fun e w' => ∃ g, e = .returned (.pointer (some ⟨g, 0, none⟩)) ∧ ShAt eP 1 w' g (.slice none 0 0) 0 [] ∧ Only [] w w' ∧ w.heap.size ≤ g := by
  obtain ⟨W, hW⟩ : ∃ W, W = w.alloc (.cells #[.int .i64 0, .slice none 0 0] 64) := ⟨_, rfl⟩
  obtain ⟨g, hg⟩ : ∃ g, g = w.heap.size := ⟨_, rfl⟩
  have hc0 : W.cell? ⟨g, 0, none⟩ = some (.int .i64 0) := by rw [hW, hg]; simp
  have hz0 : W.frozen? ⟨g, 0, none⟩ = false := by rw [hW, hg]; simp
  have HS : Hid (ShAt eP 1 (W.setCell ⟨g, 0, none⟩ (.int .i64 1)) g (.slice none 0 0) 0 []) := by
    show ShAt _ _ _ _ _ _ _
    refine ⟨World.cell?_setCell_same _ _ _ hc0, ?_, ?_, ?_, PRow.nil, by simp, by simp [foot, feet, ownL, Value.ownBlock]⟩
    · rw [World.cell?_setCell_other _ _ _ _ (by simp), hW, hg]; simp
    · rw [World.frozen?_setCell]; exact hz0
    · rw [World.frozen?_setCell, hW, hg]; simp
  have HO : Hid (Only [] w (W.setCell ⟨g, 0, none⟩ (.int .i64 1))) := by show Only _ _ _; rw [hW, hg]; exact ((Only.refl _ _).alloc _).setNew (p := ⟨w.heap.size, 0, none⟩) (Nat.le_refl _) _
  have HG := Lib.hid hg
  have hst := atStore_any g 0 0 1 W hc0 hz0
  clear hc0 hz0
  go_enter Try.func8, Try.ntmps8
  go_wp2_with fail
  rw [← hW, ← hg]
  clear hW hg
  refine hst.mono ?_
  rintro e w' ⟨rfl, rfl⟩
  clear hst
  go_wp2
  go_ret
  exact ⟨g, rfl, HS.out, HO.out, by rw [HG.out]; exact Nat.le_refl _⟩

section
variable (g : Nat) (v : Value) (l : List Px) (s : Sv) (w : World) (h : ShAt eP 1 w g v s.last l) (hl : l.map Px.p = s.l)
include h hl
set_option maxHeartbeats 800000 in
theorem shome_any (i : Int) : Calls Try.prog 32 #[.pointer (some ⟨g, 0, none⟩), .int .i64 i] w fun e w' => e = .returned (.int .i64 (spotI (hasI i) s.l)) ∧ Only [] w w' := by
  obtain ⟨A, cap, rfl, _, _⟩ := h.row.slice
  have eg : ∀ args w, (callFunc 43 args).run Try.prog w = .ok (.enter 43 args) w := enters_of Try.func43 (by kernel_rfl) rfl
  obtain ⟨W1, hW1⟩ : ∃ W1, W1 = w.alloc (.cells #[.int .i64 i] 3) := ⟨_, rfl⟩
  have HO1 : Hid (Only [] w W1) := by show Only _ _ _; rw [hW1]; exact (Only.refl _ _).alloc _
  have HK1 : Hid (W1.cell? ⟨w.heap.size, 0, none⟩ = some (.int .i64 i)) := by show _ = _; rw [hW1]; simp
  have hc1 := (h.old HO1.out).c1
  have HI : Hid (∀ x ∈ l, IRow W1 x.v x.p.i) := (h.old HO1.out).ids
  have HC : Hid (∀ (W : World) (x : Px), x ∈ l → Only [] W1 W → Calls Try.prog 43 (#[pV x] ++ #[.pointer (some ⟨w.heap.size, 0, none⟩)]) W fun e w' => e = .returned (.bool (hasI i x.p)) ∧ Only [] W w') := by
    show ∀ (W : World) (x : Px), _
    intro W x hx hO
    exact shome1_any i x w.heap.size W ((hO.cell (p := ⟨w.heap.size, 0, none⟩) (block_of_cell (a := ⟨w.heap.size, 0, none⟩) HK1.out) (by simp)).trans HK1.out) ((HI.out x hx).old hO)
  have hcon := idxP_any 43 #[.pointer (some ⟨w.heap.size, 0, none⟩)] (hasI i) _ l W1 eg (h.row.old HO1.out) HC.out
  rw [hl] at hcon
  have hgl : g < w.heap.size := h.lt
  have hne : g ≠ w.heap.size := by omega
  have hc0 := h.c1
  clear h eg hl
  go_enter Try.func32, Try.ntmps32
  go_wp2_with fail
  rw [← hW1]
  clear hW1
  refine hcon.mono ?_
  rintro r w' ⟨rfl, hb'⟩
  clear hcon hc1 hc0
  go_wp2
  go_ret
  exact ⟨rfl, HO1.out.trans hb'⟩
set_option maxHeartbeats 800000 in
theorem sfind_any (k : Int) : Calls Try.prog 37 #[.pointer (some ⟨g, 0, none⟩), .int .i64 k] w fun e w' => e = .returned (.int .i64 (spotI (numB k) s.l)) ∧ Only [] w w' := by
  obtain ⟨A, cap, rfl, _, _⟩ := h.row.slice
  have eg : ∀ args w, (callFunc 47 args).run Try.prog w = .ok (.enter 47 args) w := enters_of Try.func47 (by kernel_rfl) rfl
  obtain ⟨W1, hW1⟩ : ∃ W1, W1 = w.alloc (.cells #[.int .i64 k] 3) := ⟨_, rfl⟩
  have HO1 : Hid (Only [] w W1) := by show Only _ _ _; rw [hW1]; exact (Only.refl _ _).alloc _
  have HK1 : Hid (W1.cell? ⟨w.heap.size, 0, none⟩ = some (.int .i64 k)) := by show _ = _; rw [hW1]; simp
  have hc1 := (h.old HO1.out).c1
  have HC : Hid (∀ (W : World) (x : Px), x ∈ l → Only [] W1 W → Calls Try.prog 47 (#[pV x] ++ #[.pointer (some ⟨w.heap.size, 0, none⟩)]) W fun e w' => e = .returned (.bool (numB k x.p)) ∧ Only [] W w') := by
    show ∀ (W : World) (x : Px), _
    intro W x _ hO
    exact sfind1_any k x w.heap.size W ((hO.cell (p := ⟨w.heap.size, 0, none⟩) (block_of_cell (a := ⟨w.heap.size, 0, none⟩) HK1.out) (by simp)).trans HK1.out)
  have hcon := idxP_any 47 #[.pointer (some ⟨w.heap.size, 0, none⟩)] (numB k) _ l W1 eg (h.row.old HO1.out) HC.out
  rw [hl] at hcon
  have hgl : g < w.heap.size := h.lt
  have hne : g ≠ w.heap.size := by omega
  have hc0 := h.c1
  clear h eg hl
  go_enter Try.func37, Try.ntmps37
  go_wp2_with fail
  rw [← hW1]
  clear hW1
  refine hcon.mono ?_
  rintro r w' ⟨rfl, hb'⟩
  clear hcon hc1 hc0
  go_wp2
  go_ret
  exact ⟨rfl, HO1.out.trans hb'⟩
set_option maxHeartbeats 1600000 in
theorem stotal_any (hs : sumL s.l ≤ 64) (hn : s.l.length ≤ 64) : Calls Try.prog 41 #[.pointer (some ⟨g, 0, none⟩)] w fun e w' => e = .returned (.int .i64 (sumL s.l : Int)) ∧ Only [] w w' := by
  obtain ⟨A, cap, hv, hlc, hcm⟩ := h.row.slice
  have HH := Lib.hid h
  have HL := Lib.hid hl
  have HLN := Lib.hid (map_len hl)
  have HS := Lib.hid hs
  have hc1 := h.c1
  have hgl := h.lt
  unfold maxLen at hcm
  obtain ⟨n, hn0⟩ : ∃ n, n = l.length := ⟨_, rfl⟩
  rw [← hn0] at hlc hv
  have HN := Lib.hid hn0
  have hn64 : n ≤ 64 := by rw [hn0, map_len hl]; exact hn
  subst hv
  clear h hl hs hn hn0
  go_enter Try.func41, Try.ntmps41
  go_wp2_with fail
  go_loopw [3, 11] (fun t i wr => ∃ k q : Nat, k ≤ n ∧ i = .int .i64 (k : Int) ∧ t = .int .i64 (q : Int) ∧ q = sumL (s.l.take k) ∧ q ≤ 64 ∧ Only [] w wr) (fun _ i _ => n - (intOf i).toNat)
  case atStart => exact ⟨0, 0, Nat.zero_le _, rfl, rfl, rfl, by omega, Only.refl _ _⟩
  case round =>
    obtain ⟨k, q, hk, rfl, rfl, hq, hq2, ho⟩ := hrel
    have HO := Lib.hid ho
    have HQ := Lib.hid hq
    clear ho hq
    by_cases hlt : k < n
    · obtain ⟨gv, cap2, hv2, hgs, _, _⟩ := HH.out.row.some_ (by have := HN.out; omega)
      obtain ⟨rfl, rfl⟩ : A = some ⟨gv, 0, none⟩ ∧ cap = cap2 := by
        injection hv2 with e1 e2 e3
        exact ⟨e1, e3⟩
      obtain ⟨f0, f1, f2, f3, f4, f5, f6⟩ := (HH.out.row.old HO.out).el HN.out (k := k) (by have := HN.out; omega)
      have HX : Hid ((nthX l k).p = nthP s.l k) := nthX_p HL.out
      have HT : Hid (sumL (s.l.take (k + 1)) = q + (nthX l k).p.i.length) := by show _ = _; rw [HX.out, HQ.out]; exact sumL_take (by have := HN.out; have := HLN.out; omega)
      have HT2 : Hid (sumL (s.l.take (k + 1)) ≤ 64) := by show _ ≤ _; have := sumL_take_le s.l (k + 1); have := HS.out; omega
      obtain ⟨x, hx⟩ : ∃ x, x = nthX l k := ⟨_, rfl⟩
      rw [← hx] at f0 f1 f2 f3 f4 f5 f6 HT HX
      obtain ⟨⟨xn, xw, xi⟩, xA, xc⟩ := x
      simp only at f0 f1 f2 f3 f4 f5 f6 HT
      obtain ⟨m, hm⟩ : ∃ m, m = xi.length := ⟨_, rfl⟩
      rw [← hm] at f6 HT
      have hm64 : q + m ≤ 64 := by have := HT.out; have := HT2.out; omega
      clear hv2 hgs hx hm HX
      go_wp2
      go_roundw
      case rel => exact ⟨k + 1, q + m, by omega, by go_num, by go_num, HT.out.symm, hm64, HO.out.alloc _⟩
      case measure => simp [intOf]; omega
    · obtain rfl : k = n := by omega
      have HE : Hid (sumL s.l = q) := by show _ = _; rw [HQ.out, List.take_of_length_le (by have := HN.out; have := HLN.out; omega)]
      go_wp2
      go_ret
      exact ⟨ret_int (by rw [HE.out]), HO.out⟩
end
end Go.Proofs.Ytcljmdpnbfefbaa
