/-
  The contracts of the library's Index, Contains and IndexFunc at numbers, of the functions that the table hands over, and of IndexFunc at preflights over this seat's program. Conditions: those of each statement.
-/
import Derived.Test.YtcljmdpnbfefbaaXRow
import Derived.Shelf.Abstract
import Derived.Deep.LoopGhost
import Derived.Laws.LoneSync
namespace Go.Proofs.Ytcljmdpnbfefbaa
open Go.RowKit

theorem eqlW (a b : Wt) (w : World) : (binOp .eql 31 (.agg #[.string a.o, .string a.u, .bool a.c, .string a.m, .string a.s]) (.agg #[.string b.o, .string b.u, .bool b.c, .string b.m, .string b.s])).run Try.prog w = .ok (.bool (wB a b)) w := by
  rw [run_eql_struct]
  unfold wB tB
  cases h1 : a.o.toList == b.o.toList <;> cases h2 : a.u.toList == b.u.toList <;> cases h3 : a.c == b.c <;> cases h4 : a.m.toList == b.m.toList <;> cases h5 : a.s.toList == b.s.toList <;> simp [go_sem, h1, h2, h3, h4, h5]
theorem neqW (a b : Wt) (w : World) : (binOp .neq 31 (.agg #[.string a.o, .string a.u, .bool a.c, .string a.m, .string a.s]) (.agg #[.string b.o, .string b.u, .bool b.c, .string b.m, .string b.s])).run Try.prog w = .ok (.bool (!wB a b)) w := by
  rw [run_neq_struct]
  unfold wB tB
  cases h1 : a.o.toList == b.o.toList <;> cases h2 : a.u.toList == b.u.toList <;> cases h3 : a.c == b.c <;> cases h4 : a.m.toList == b.m.toList <;> cases h5 : a.s.toList == b.s.toList <;> simp [go_sem, h1, h2, h3, h4, h5]

/-- the place of a number, or -1 -/
def plI (p : Int → Bool) (l : List Int) : Int := if l.findIdx p < l.length then (l.findIdx p : Int) else -1
theorem plI_has {p : Int → Bool} {l : List Int} : decide (0 ≤ plI p l) = l.any p := by
  unfold plI
  rw [Bool.eq_iff_iff, decide_eq_true_iff, List.any_eq_true]
  by_cases h : l.findIdx p < l.length
  · rw [if_pos h]
    exact ⟨fun _ => ⟨_, List.getElem_mem h, List.findIdx_getElem (w := h)⟩, fun _ => by omega⟩
  · rw [if_neg h]
    refine ⟨fun h1 => by omega, fun ⟨x, hx, hp⟩ => ?_⟩
    have h1 := List.findIdx_le_length (p := p) (xs := l)
    have h2 := List.findIdx_eq_length.1 (show l.findIdx p = l.length by omega) x hx
    rw [h2] at hp; cases hp
theorem pl_first {p : Int → Bool} {l : List Int} {k : Nat} (hk : k < l.length) (h1 : p l[k] = true) (h2 : ∀ j (h : j < k), p (l[j]'(by omega)) = false) : plI p l = k := by
  have e : l.findIdx p = k := by rw [List.findIdx_eq hk]; exact ⟨h1, fun j hj => h2 j hj⟩
  unfold plI; rw [e, if_pos hk]
theorem pl_none {p : Int → Bool} {l : List Int} (h : ∀ j (h : j < l.length), p l[j] = false) : plI p l = -1 := by
  unfold plI
  rw [if_neg]
  intro hc
  have h1 : p l[l.findIdx p] = true := List.findIdx_getElem (w := hc)
  rw [h _ hc] at h1; cases h1
theorem any_contains (l : List Int) (i : Int) : l.any (fun m => i == m) = l.contains i := by
  rw [Bool.eq_iff_iff, List.any_eq_true, List.contains_iff_mem]
  constructor
  · rintro ⟨x, hx, h⟩; rw [beq_iff_eq] at h; subst h; exact hx
  · intro h; exact ⟨i, h, by simp⟩

set_option maxHeartbeats 1000000 in
theorem nIndex_any (v : Value) (l : List Int) (i : Int) (w : World) (hr : IRow w v l) :
    Calls Try.prog 49 #[v, .int .i64 i] w fun e w' => e = .returned (.int .i64 (plI (fun m => i == m) l)) ∧ Only [] w w' := by
  obtain ⟨A, cap, hv, hlc, hcm⟩ := hr.slice
  unfold maxLen at hcm
  subst hv
  have HR := Lib.hid hr
  clear hr
  go_enter Try.func49, Try.ntmps49
  go_wp2
  go_loopw [8] (fun q wr => ∃ k : Nat, k ≤ l.length ∧ q = .int .i64 k ∧ Only [] w wr ∧ ∀ j (h : j < k) (h2 : j < l.length), (i == l[j]) = false) (fun q _ => l.length - (intOf q).toNat)
  case atStart => exact ⟨0, Nat.zero_le _, rfl, Only.refl _ _, fun j hj => by omega⟩
  case round =>
    obtain ⟨k, hk, rfl, ho, hn⟩ := hrel
    have HO := Lib.hid ho
    have HN := Lib.hid hn
    clear ho hn
    by_cases hlt : k < l.length
    · obtain ⟨g, rfl, f1⟩ := (HR.out.old HO.out).at_ rfl hlt
      have HP : Hid (i = l[k] → plI (fun m => i == m) l = k) := fun e => pl_first hlt (by simp [e]) (fun j hj => HN.out j hj (by omega))
      have HQ : Hid ((i == l[k]) = false → ∀ j (h : j < k + 1) (h2 : j < l.length), (i == l[j]) = false) := fun e j hj h2 => by
        by_cases ej : j = k
        · subst ej; exact e
        · exact HN.out j (by omega) h2
      generalize l[k] = x at *
      cases hq : (i == x) with
      | true =>
        have HE := Lib.hid (HP.out (by simpa using hq))
        clear HP HQ
        go_wp2
        go_ret
        exact ⟨ret_int HE.out.symm, HO.out⟩
      | false =>
        have HE := Lib.hid (HQ.out hq)
        clear HP HQ
        go_wp2
        go_roundw
        case rel => exact ⟨k + 1, by omega, by go_num, HO.out, HE.out⟩
        case measure => simp [intOf]; omega
    · have HE : Hid (plI (fun m => i == m) l = -1) := pl_none (fun j hj => HN.out j (by omega) hj)
      go_wp2
      go_ret
      exact ⟨ret_int HE.out.symm, HO.out⟩
set_option maxHeartbeats 400000 in
theorem nContains_any (v : Value) (l : List Int) (i : Int) (w : World) (hr : IRow w v l) :
    Calls Try.prog 44 #[v, .int .i64 i] w fun e w' => e = .returned (.bool (l.contains i)) ∧ Only [] w w' := by
  have hcon := nIndex_any v l i w hr
  obtain ⟨A, cap, hv, _, _⟩ := hr.slice
  have HS : Hid (decide (0 ≤ plI (fun m => i == m) l) = l.contains i) := by show _ = _; rw [plI_has, any_contains]
  generalize plI (fun m => i == m) l = q at *
  generalize l.contains i = b at *
  subst hv
  clear hr
  have hs := HS.out
  go_enter Try.func44, Try.ntmps44
  go_wp2_with fail
  refine hcon.mono ?_
  rintro e w' ⟨rfl, ho⟩
  go_wp2
  go_ret
  exact ⟨by simp, ho⟩

set_option maxHeartbeats 800000 in
/-- the function that home hands over -/
theorem shome1_any (i : Int) (x : Px) (B : Nat) (W : World) (hb : W.cell? ⟨B, 0, none⟩ = some (.int .i64 i)) (hr : IRow W x.v x.p.i) :
    Calls Try.prog 43 (#[pV x] ++ #[.pointer (some ⟨B, 0, none⟩)]) W fun e w' => e = .returned (.bool (hasI i x.p)) ∧ Only [] W w' := by
  have hBW : B < W.heap.size := block_of_cell (a := ⟨B, 0, none⟩) hb
  have hne : B ≠ W.heap.size := by omega
  obtain ⟨W1, hW1⟩ : ∃ W1, W1 = W.alloc (.cells #[.int .i64 (x.p.n : Int), .string x.p.w.o, .string x.p.w.u, .bool x.p.w.c, .string x.p.w.m, .string x.p.w.s, .slice x.A x.p.i.length x.c] 71) := ⟨_, rfl⟩
  have HO1 : Hid (Only [] W W1) := by show Only _ _ _; rw [hW1]; exact (Only.refl _ _).alloc _
  have hcall := nContains_any x.v x.p.i i W1 (hr.old HO1.out)
  obtain ⟨q, hq⟩ : ∃ q, q = hasI i x.p := ⟨_, rfl⟩
  rw [show x.p.i.contains i = q from hq.symm] at hcall
  rw [← hq]
  simp only [pV]
  simp only [Px.v] at hcall
  clear hr hq
  go_enter Try.func43, Try.ntmps43
  go_wp2_with fail
  rw [← hW1]
  clear hW1 hb
  refine hcall.mono ?_
  rintro e w' ⟨rfl, ho⟩
  have HO2 := Lib.hid (HO1.out.trans ho)
  clear hcall ho
  go_wp2
  go_ret
  exact ⟨rfl, HO2.out⟩
set_option maxHeartbeats 800000 in
/-- the function that find hands over -/
theorem sfind1_any (k : Int) (x : Px) (B : Nat) (W : World) (hb : W.cell? ⟨B, 0, none⟩ = some (.int .i64 k)) :
    Calls Try.prog 47 (#[pV x] ++ #[.pointer (some ⟨B, 0, none⟩)]) W fun e w' => e = .returned (.bool (numB k x.p)) ∧ Only [] W w' := by
  have hBW : B < W.heap.size := block_of_cell (a := ⟨B, 0, none⟩) hb
  have hne : B ≠ W.heap.size := by omega
  have HQ : Hid (((x.p.n : Int) == k) = numB k x.p) := by show _ = _; unfold numB; rw [Bool.eq_iff_iff]; simp
  obtain ⟨z, hz⟩ : ∃ z : Int, z = (x.p.n : Int) := ⟨_, rfl⟩
  simp only [pV]
  rw [← hz] at HQ ⊢
  clear hz
  obtain ⟨q, hq⟩ : ∃ q, q = numB k x.p := ⟨_, rfl⟩
  rw [← hq] at HQ ⊢
  clear hq
  go_enter Try.func47, Try.ntmps47
  go_wp2
  go_ret
  exact ⟨ret_bool (by first | exact HQ.out | (rw [← HQ.out]; simp)), (Only.refl _ _).alloc _⟩
set_option maxHeartbeats 800000 in
/-- the function that Join hands over -/
theorem sjoin1_any (k : Wt) (x : Px) (B : Nat) (W : World) (hb : WtAt W B 0 k) :
    Calls Try.prog 30 (#[pV x] ++ #[.pointer (some ⟨B, 0, none⟩)]) W fun e w' => e = .returned (.bool (ofB k x.p)) ∧ Only [] W w' := by
  have hBW : B < W.heap.size := hb.lt
  have hne : B ≠ W.heap.size := by omega
  obtain ⟨⟨n, w, i⟩, A, c⟩ := x
  obtain ⟨d0, d1, d2, d3, d4⟩ := hb
  obtain ⟨q, hq⟩ : ∃ q, q = ofB k ⟨n, w, i⟩ := ⟨_, rfl⟩
  have hcmp : ∀ W, (binOp .eql 31 (.agg #[.string w.o, .string w.u, .bool w.c, .string w.m, .string w.s]) (.agg #[.string k.o, .string k.u, .bool k.c, .string k.m, .string k.s])).run Try.prog W = .ok (.bool q) W := fun W => by rw [eqlW, hq]; rfl
  rw [← hq]
  clear hq
  simp only [pV]
  go_enter Try.func30, Try.ntmps30
  go_wp2
  go_ret
  exact ⟨rfl, (Only.refl _ _).alloc _⟩
set_option maxHeartbeats 400000 in
/-- the function that Leave hands over -/
theorem sleave1_any (i x : Int) (B : Nat) (W : World) (hb : W.cell? ⟨B, 0, none⟩ = some (.int .i64 i)) :
    Calls Try.prog 35 (#[.int .i64 x] ++ #[.pointer (some ⟨B, 0, none⟩)]) W fun e w' => e = .returned (.bool (x == i)) ∧ Only [] W w' := by
  go_enter Try.func35, Try.ntmps35
  go_wp2
  go_ret
  exact ⟨by first | rfl | (apply ret_bool; simp), Only.refl _ _⟩

set_option maxHeartbeats 2000000 in
/-- slices.IndexFunc: the first place of which the function says true -/
theorem idxP_any (fn : Nat) (lb : Array Value) (p : Pv → Bool) (v : Value) (l : List Px) (w : World)
    (eg : ∀ args w, (callFunc fn args).run Try.prog w = .ok (.enter fn args) w) (hr : PRow 71 w v l)
    (hp : ∀ (W : World) (x : Px), x ∈ l → Only [] w W → Calls Try.prog fn (#[pV x] ++ lb) W fun e w' => e = .returned (.bool (p x.p)) ∧ Only [] W w') :
    Calls Try.prog 29 #[v, .func (.func fn) #[] lb] w fun e w' => e = .returned (.int .i64 (spotI p (l.map Px.p))) ∧ Only [] w w' := by
  obtain ⟨A, cap, hv, hlc, hcm⟩ := hr.slice
  have HR := Lib.hid hr
  have HP := Lib.hid hp
  unfold maxLen at hcm
  subst hv
  clear hr hp
  go_enter Try.func29, Try.ntmps29
  go_wp2
  go_loopw [8] (fun i wr => ∃ k : Nat, k ≤ l.length ∧ i = .int .i64 k ∧ Only [] w wr ∧ ∀ j, j < k → p (nthP (l.map Px.p) j) = false) (fun i _ => l.length - (intOf i).toNat)
  case atStart => exact ⟨0, Nat.zero_le _, rfl, Only.refl _ _, fun j hj => by omega⟩
  case round =>
    obtain ⟨k, hk, rfl, ho, hn⟩ := hrel
    have HO := Lib.hid ho
    have HN := Lib.hid hn
    clear ho hn
    by_cases hlt : k < l.length
    · obtain ⟨g, cap2, hv2, hgs, _, _⟩ := HR.out.some_ (by omega)
      obtain ⟨rfl, rfl⟩ : A = some ⟨g, 0, none⟩ ∧ cap = cap2 := by
        injection hv2 with e1 e2 e3
        exact ⟨e1, e3⟩
      obtain ⟨f0, f1, f2, f3, f4, f5, f6⟩ := (HR.out.old HO.out).el rfl hlt
      have hcall := HP.out wr (nthX l k) (nthX_mem hlt) HO.out
      have hX : (nthX l k).p = nthP (l.map Px.p) k := nthX_p rfl
      obtain ⟨x, hx⟩ : ∃ x, x = nthX l k := ⟨_, rfl⟩
      rw [← hx] at f0 f1 f2 f3 f4 f5 f6 hcall hX
      have HX := Lib.hid hX
      obtain ⟨q, hq⟩ : ∃ q, q = p x.p := ⟨_, rfl⟩
      rw [← hq] at hcall
      have HQ := Lib.hid hq
      clear hv2 hgs hx hq hX
      simp only [pV] at hcall
      cases q with
      | true =>
        have HF : Hid ((l.map Px.p).findIdx p = k) := by
          refine spot_first (by simpa using hlt) ?_ HN.out
          rw [← HX.out]; exact HQ.out.symm
        go_wp2_with (go_at_fn fn; refine hcall.mono ?_; rintro e w' ⟨rfl, hb'⟩)
        go_ret
        exact ⟨ret_int (by rw [spotI_yes (by rw [HF.out]; simpa using hlt), HF.out]), HO.out.trans hb'⟩
      | false =>
        go_wp2_with (go_at_fn fn; refine hcall.mono ?_; rintro e w' ⟨rfl, hb'⟩)
        go_roundw
        case rel =>
          refine ⟨k + 1, by omega, by go_num, HO.out.trans hb', fun j hj => ?_⟩
          by_cases e : j = k
          · subst e; rw [← HX.out]; exact HQ.out.symm
          · exact HN.out j (by omega)
        case measure => simp [intOf]; omega
    · have HF : Hid (spotI p (l.map Px.p) = -1) := spotI_no (spot_none (fun j hj => HN.out j (by simp at hj; omega)))
      go_wp2
      go_ret
      exact ⟨ret_int HF.out.symm, HO.out⟩

set_option maxHeartbeats 2000000 in
/-- slices.IndexFunc at numbers -/
theorem idxN_any (fn : Nat) (lb : Array Value) (p : Int → Bool) (v : Value) (l : List Int) (w : World)
    (eg : ∀ args w, (callFunc fn args).run Try.prog w = .ok (.enter fn args) w) (hr : IRow w v l)
    (hp : ∀ (W : World) (x : Int), Only [] w W → Calls Try.prog fn (#[.int .i64 x] ++ lb) W fun e w' => e = .returned (.bool (p x)) ∧ Only [] W w') :
    Calls Try.prog 46 #[v, .func (.func fn) #[] lb] w fun e w' => e = .returned (.int .i64 (plI p l)) ∧ Only [] w w' := by
  obtain ⟨A, cap, hv, hlc, hcm⟩ := hr.slice
  have HR := Lib.hid hr
  have HP := Lib.hid hp
  unfold maxLen at hcm
  subst hv
  clear hr hp
  go_enter Try.func46, Try.ntmps46
  go_wp2
  go_loopw [8] (fun i wr => ∃ k : Nat, k ≤ l.length ∧ i = .int .i64 k ∧ Only [] w wr ∧ ∀ j (h : j < k) (h2 : j < l.length), p l[j] = false) (fun i _ => l.length - (intOf i).toNat)
  case atStart => exact ⟨0, Nat.zero_le _, rfl, Only.refl _ _, fun j hj => by omega⟩
  case round =>
    obtain ⟨k, hk, rfl, ho, hn⟩ := hrel
    have HO := Lib.hid ho
    have HN := Lib.hid hn
    clear ho hn
    by_cases hlt : k < l.length
    · obtain ⟨g, rfl, f1⟩ := (HR.out.old HO.out).at_ rfl hlt
      have hcall := HP.out wr l[k] HO.out
      have HF : Hid (p l[k] = true → plI p l = k) := fun e => pl_first hlt e (fun j hj => HN.out j hj (by omega))
      have HQ : Hid (p l[k] = false → ∀ j (h : j < k + 1) (h2 : j < l.length), p l[j] = false) := fun e j hj h2 => by
        by_cases ej : j = k
        · subst ej; exact e
        · exact HN.out j (by omega) h2
      generalize l[k] = x at *
      cases hq : p x with
      | true =>
        have HE := Lib.hid (HF.out hq)
        rw [hq] at hcall
        clear HF HQ hq
        go_wp2_with (go_at_fn fn; refine hcall.mono ?_; rintro e w' ⟨rfl, hb'⟩)
        go_ret
        exact ⟨ret_int HE.out.symm, HO.out.trans hb'⟩
      | false =>
        have HE := Lib.hid (HQ.out hq)
        rw [hq] at hcall
        clear HF HQ hq
        go_wp2_with (go_at_fn fn; refine hcall.mono ?_; rintro e w' ⟨rfl, hb'⟩)
        go_roundw
        case rel => exact ⟨k + 1, by omega, by go_num, HO.out.trans hb', HE.out⟩
        case measure => simp [intOf]; omega
    · have HE : Hid (plI p l = -1) := pl_none (fun j hj => HN.out j (by omega) hj)
      go_wp2
      go_ret
      exact ⟨ret_int HE.out.symm, HO.out⟩
end Go.Proofs.Ytcljmdpnbfefbaa
