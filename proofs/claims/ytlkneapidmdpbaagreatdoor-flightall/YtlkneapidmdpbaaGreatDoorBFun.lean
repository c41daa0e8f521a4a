/-
  The contracts of the functions that the cache hands over and of isValid, isExpired over this seat's program. Conditions: those of each statement.
-/
import Derived.Test.YtlkneapidmdpbaaGreatDoorBRow
import Derived.Shelf.Abstract
import Derived.Deep.LoopGhost
namespace Go.Proofs.YtlkneapidmdpbaaGreatDoor
open Go.RowKit

theorem tB_lit (a b : ByteArray) : (a.toList == b.toList) = tB a b := rfl
theorem noB_lit (a : ByteArray) : (a.toList == []) = noB a := by
  unfold noB tB; rw [show (noT : ByteArray).toList = [] by rw [ByteArray.toList_eq]]
theorem star_lit (a : ByteArray) : (a.toList == [42]) = tB a starT := by
  unfold tB; rw [show (starT : ByteArray).toList = [42] by rw [ByteArray.toList_eq]]
theorem auth_lit (a : ByteArray) : (a.toList == [97, 117, 116, 104, 111, 114, 105, 122, 97, 116, 105, 111, 110]) = tB a authT := by
  unfold tB; rw [show (authT : ByteArray).toList = [97, 117, 116, 104, 111, 114, 105, 122, 97, 116, 105, 111, 110] by rw [ByteArray.toList_eq]]
set_option maxHeartbeats 400000 in
theorem isValid_any (x : En) (W : World) :
    Calls Tryz.prog 66 #[entV x] W fun e w' => e = .returned (.bool (okE x)) ∧ Only [] W w' := by
  obtain ⟨⟨o, u, c⟩, m, h, t⟩ := x
  have HE : Hid (okE ⟨⟨o, u, c⟩, m, h, t⟩ = (noB m != noB h)) := rfl
  have h1 := noB_lit m
  have h2 := noB_lit h
  generalize noB m = q1 at *
  generalize noB h = q2 at *
  simp only [entV]
  cases q1 <;> cases q2 <;>
  · go_enter Tryz.func66, Tryz.ntmps66
    go_wp2
    go_ret
    exact ⟨ret_bool (by rw [HE.out]; rfl), (Only.refl _ _).alloc _⟩
set_option maxHeartbeats 400000 in
theorem isExpired_any (x : En) (t : Nat) (W : World) :
    Calls Tryz.prog 67 #[entV x, .int .u64 (t : Int)] W fun e w' => e = .returned (.bool (expB t x)) ∧ Only [] W w' := by
  obtain ⟨⟨o, u, c⟩, m, h, s⟩ := x
  have HE : Hid (decide (s ≤ t) = expB t ⟨⟨o, u, c⟩, m, h, s⟩) := rfl
  generalize expB t ⟨⟨o, u, c⟩, m, h, s⟩ = q at *
  simp only [entV]
  have he := HE.out
  go_enter Tryz.func67, Tryz.ntmps67
  go_wp2
  go_ret
  exact ⟨rfl, (Only.refl _ _).alloc _⟩
set_option maxHeartbeats 800000 in
/-- the function that find hands over -/
theorem cfind1_any (y x : En) (B : Nat) (W : World) (hb : EnBox W B y) :
    Calls Tryz.prog 117 (#[entV x] ++ #[.pointer (some ⟨B, 0, none⟩)]) W fun e w' => e = .returned (.bool (sameB y x)) ∧ Only [] W w' := by
  have hBW : B < W.heap.size := hb.lt
  have hne : B ≠ W.heap.size := by omega
  obtain ⟨⟨o, u, c⟩, m, h, t⟩ := x
  obtain ⟨⟨o2, u2, c2⟩, m2, h2, t2⟩ := y
  obtain ⟨d0, d1, d2, d3, d4, d5⟩ := hb
  have HE : Hid (sameB ⟨⟨o2, u2, c2⟩, m2, h2, t2⟩ ⟨⟨o, u, c⟩, m, h, t⟩ = (cellB ⟨o, u, c⟩ ⟨o2, u2, c2⟩ && tB m m2 && tB h h2)) := rfl
  obtain ⟨q1, hq1⟩ : ∃ q1, q1 = cellB ⟨o, u, c⟩ ⟨o2, u2, c2⟩ := ⟨_, rfl⟩
  obtain ⟨q2, hq2⟩ : ∃ q2, q2 = tB m m2 := ⟨_, rfl⟩
  obtain ⟨q3, hq3⟩ : ∃ q3, q3 = tB h h2 := ⟨_, rfl⟩
  have hcmp : ∀ W, (binOp .eql 45 (.agg #[.string o, .string u, .bool c]) (.agg #[.string o2, .string u2, .bool c2])).run Tryz.prog W = .ok (.bool q1) W := fun W => by rw [eqlE_cell, hq1]
  have hm : (m.toList == m2.toList) = q2 := hq2.symm
  have hh : (h.toList == h2.toList) = q3 := hq3.symm
  rw [← hq1, ← hq2, ← hq3] at HE
  clear hq1 hq2 hq3
  simp only [entV]
  simp only at d0 d1 d2 d3 d4 d5
  cases q1 <;> cases q2 <;> cases q3 <;>
  · go_enter Tryz.func117, Tryz.ntmps117
    go_wp2
    go_ret
    exact ⟨ret_bool (by rw [HE.out]; rfl), (Only.refl _ _).alloc _⟩
set_option maxHeartbeats 400000 in
/-- the function that Sweep hands over -/
theorem csweep1_any (t : Nat) (x : En) (B : Nat) (W : World) (hb : W.cell? ⟨B, 0, none⟩ = some (.int .u64 (t : Int))) :
    Calls Tryz.prog 115 (#[entV x] ++ #[.pointer (some ⟨B, 0, none⟩)]) W fun e w' => e = .returned (.bool (expB t x)) ∧ Only [] W w' := by
  have hBW : B < W.heap.size := block_of_cell (a := ⟨B, 0, none⟩) hb
  have hne : B ≠ W.heap.size := by omega
  obtain ⟨W1, hW1⟩ : ∃ W1, W1 = W.alloc (.cells #[.string x.k.o, .string x.k.u, .bool x.k.c, .string x.m, .string x.h, .int .u64 (x.t : Int)] 64) := ⟨_, rfl⟩
  have HO1 : Hid (Only [] W W1) := by show Only _ _ _; rw [hW1]; exact (Only.refl _ _).alloc _
  have hcall := isExpired_any x t W1
  simp only [entV] at hcall ⊢
  go_enter Tryz.func115, Tryz.ntmps115
  go_wp2_with fail
  rw [← hW1]
  clear hW1 hb
  refine hcall.mono ?_
  rintro e w' ⟨rfl, ho⟩
  have HO2 := Lib.hid (HO1.out.trans ho)
  clear hcall ho
  go_wp2
  go_ret
  exact ⟨rfl, HO2.out⟩
set_option maxHeartbeats 1600000 in
/-- the function that Method hands over -/
theorem cmeth1_any (k : Cl) (s : ByteArray) (a : Bool) (x : En) (B1 B2 B3 : Nat) (W : World) (hb : ClBox W B1 k) (hs : W.cell? ⟨B2, 0, none⟩ = some (.string s)) (ha : W.cell? ⟨B3, 0, none⟩ = some (.bool a)) :
    Calls Tryz.prog 120 (#[entV x] ++ #[.pointer (some ⟨B1, 0, none⟩), .pointer (some ⟨B2, 0, none⟩), .pointer (some ⟨B3, 0, none⟩)]) W fun e w' => e = .returned (.bool (cellB x.k k && noB x.h && (tB x.m s || a && tB x.m starT))) ∧ Only [] W w' := by
  have hBW1 : B1 < W.heap.size := hb.lt
  have hBW2 : B2 < W.heap.size := block_of_cell (a := ⟨B2, 0, none⟩) hs
  have hBW3 : B3 < W.heap.size := block_of_cell (a := ⟨B3, 0, none⟩) ha
  have hne1 : B1 ≠ W.heap.size := by omega
  have hne2 : B2 ≠ W.heap.size := by omega
  have hne3 : B3 ≠ W.heap.size := by omega
  obtain ⟨⟨o, u, c⟩, m, h, t⟩ := x
  obtain ⟨o2, u2, c2⟩ := k
  obtain ⟨d0, d1, d2⟩ := hb
  simp only [entV]
  simp only at d0 d1 d2
  obtain ⟨q1, hq1⟩ : ∃ q1, q1 = cellB ⟨o, u, c⟩ ⟨o2, u2, c2⟩ := ⟨_, rfl⟩
  have hcmp : ∀ W, (binOp .eql 45 (.agg #[.string o, .string u, .bool c]) (.agg #[.string o2, .string u2, .bool c2])).run Tryz.prog W = .ok (.bool q1) W := fun W => by rw [eqlE_cell, hq1]
  have h1 := noB_lit h
  have h2 := tB_lit m s
  have h3 := star_lit m
  rw [← hq1]
  clear hq1
  generalize noB h = q2 at *
  generalize tB m s = q3 at *
  generalize tB m starT = q4 at *
  cases q1 with
  | false =>
    go_enter Tryz.func120, Tryz.ntmps120
    go_wp2
    go_ret
    exact ⟨rfl, (Only.refl _ _).alloc _⟩
  | true =>
    cases q2 with
    | false =>
      go_enter Tryz.func120, Tryz.ntmps120
      go_wp2
      go_ret
      exact ⟨rfl, (Only.refl _ _).alloc _⟩
    | true =>
      cases q3 with
      | true =>
        go_enter Tryz.func120, Tryz.ntmps120
        go_wp2
        go_ret
        exact ⟨rfl, (Only.refl _ _).alloc _⟩
      | false =>
        cases a <;>
        · go_enter Tryz.func120, Tryz.ntmps120
          go_wp2
          go_ret
          exact ⟨by simp, (Only.refl _ _).alloc _⟩
set_option maxHeartbeats 1600000 in
/-- the function that Header hands over -/
theorem chead1_any (k : Cl) (s : ByteArray) (a : Bool) (x : En) (B1 B2 B3 : Nat) (W : World) (hb : ClBox W B1 k) (hs : W.cell? ⟨B2, 0, none⟩ = some (.string s)) (ha : W.cell? ⟨B3, 0, none⟩ = some (.bool a)) :
    Calls Tryz.prog 121 (#[entV x] ++ #[.pointer (some ⟨B1, 0, none⟩), .pointer (some ⟨B2, 0, none⟩), .pointer (some ⟨B3, 0, none⟩)]) W fun e w' => e = .returned (.bool (cellB x.k k && noB x.m && (tB x.h s || a && tB x.h starT))) ∧ Only [] W w' := by
  have hBW1 : B1 < W.heap.size := hb.lt
  have hBW2 : B2 < W.heap.size := block_of_cell (a := ⟨B2, 0, none⟩) hs
  have hBW3 : B3 < W.heap.size := block_of_cell (a := ⟨B3, 0, none⟩) ha
  have hne1 : B1 ≠ W.heap.size := by omega
  have hne2 : B2 ≠ W.heap.size := by omega
  have hne3 : B3 ≠ W.heap.size := by omega
  obtain ⟨⟨o, u, c⟩, m, h, t⟩ := x
  obtain ⟨o2, u2, c2⟩ := k
  obtain ⟨d0, d1, d2⟩ := hb
  simp only [entV]
  simp only at d0 d1 d2
  obtain ⟨q1, hq1⟩ : ∃ q1, q1 = cellB ⟨o, u, c⟩ ⟨o2, u2, c2⟩ := ⟨_, rfl⟩
  have hcmp : ∀ W, (binOp .eql 45 (.agg #[.string o, .string u, .bool c]) (.agg #[.string o2, .string u2, .bool c2])).run Tryz.prog W = .ok (.bool q1) W := fun W => by rw [eqlE_cell, hq1]
  have h1 := noB_lit m
  have h2 := tB_lit h s
  have h3 := star_lit h
  rw [← hq1]
  clear hq1
  generalize noB m = q2 at *
  generalize tB h s = q3 at *
  generalize tB h starT = q4 at *
  cases q1 with
  | false =>
    go_enter Tryz.func121, Tryz.ntmps121
    go_wp2
    go_ret
    exact ⟨rfl, (Only.refl _ _).alloc _⟩
  | true =>
    cases q2 with
    | false =>
      go_enter Tryz.func121, Tryz.ntmps121
      go_wp2
      go_ret
      exact ⟨rfl, (Only.refl _ _).alloc _⟩
    | true =>
      cases q3 with
      | true =>
        go_enter Tryz.func121, Tryz.ntmps121
        go_wp2
        go_ret
        exact ⟨rfl, (Only.refl _ _).alloc _⟩
      | false =>
        cases a <;>
        · go_enter Tryz.func121, Tryz.ntmps121
          go_wp2
          go_ret
          exact ⟨by simp, (Only.refl _ _).alloc _⟩
set_option maxHeartbeats 800000 in
/-- the function that has hands over -/
theorem chas1_any (t : Nat) (fn : Nat) (lb : Array Value) (p : En → Bool) (x : En) (B1 B2 : Nat) (W : World) (hb : W.cell? ⟨B1, 0, none⟩ = some (.int .u64 (t : Int))) (hf : W.cell? ⟨B2, 0, none⟩ = some (.func (.func fn) #[] lb))
    (eg : ∀ args w, (callFunc fn args).run Tryz.prog w = .ok (.enter fn args) w)
    (hp : ∀ (W' : World) (x : En), Only [] W W' → Calls Tryz.prog fn (#[entV x] ++ lb) W' fun e w' => e = .returned (.bool (p x)) ∧ Only [] W' w') :
    Calls Tryz.prog 165 (#[entV x] ++ #[.pointer (some ⟨B1, 0, none⟩), .pointer (some ⟨B2, 0, none⟩)]) W fun e w' => e = .returned (.bool (!expB t x && p x)) ∧ Only [] W w' := by
  have hBW1 : B1 < W.heap.size := block_of_cell (a := ⟨B1, 0, none⟩) hb
  have hBW2 : B2 < W.heap.size := block_of_cell (a := ⟨B2, 0, none⟩) hf
  obtain ⟨W1, hW1⟩ : ∃ W1, W1 = W.alloc (.cells #[.string x.k.o, .string x.k.u, .bool x.k.c, .string x.m, .string x.h, .int .u64 (x.t : Int)] 64) := ⟨_, rfl⟩
  obtain ⟨C, hC⟩ : ∃ C, C = W.heap.size := ⟨_, rfl⟩
  have HO1 : Hid (Only [] W W1) := by show Only _ _ _; rw [hW1]; exact (Only.refl _ _).alloc _
  have HX1 : Hid (EnBox W1 C x) := by show EnBox _ _ _; rw [hW1, hC]; exact EnBox.new W x _
  have hne : B1 ≠ W.heap.size := by omega
  have HF : Hid (W.cell? ⟨B2, 0, none⟩ = some (.func (.func fn) #[] lb)) := hf
  have hcall := isExpired_any x t W1
  have HP := Lib.hid hp
  obtain ⟨q, hq⟩ : ∃ q, q = expB t x := ⟨_, rfl⟩
  obtain ⟨r, hr⟩ : ∃ r, r = p x := ⟨_, rfl⟩
  rw [← hq] at hcall ⊢
  rw [← hr]
  have HR := Lib.hid hr
  simp only [entV] at hcall ⊢
  clear hf hp hq hr
  cases q with
  | true =>
    go_enter Tryz.func165, Tryz.ntmps165
    go_wp2_with fail
    rw [← hW1]
    clear hW1 hb
    refine hcall.mono ?_
    rintro e w2 ⟨rfl, ho⟩
    have HO2 := Lib.hid (HO1.out.trans ho)
    clear hcall ho
    go_wp2
    go_ret
    exact ⟨rfl, HO2.out⟩
  | false =>
    go_enter Tryz.func165, Tryz.ntmps165
    go_wp2_with fail
    rw [← hW1, ← hC]
    clear hW1 hC hb
    refine hcall.mono ?_
    rintro e w2 ⟨rfl, ho⟩
    have HO2 := Lib.hid (HO1.out.trans ho)
    have HX2 := Lib.hid (HX1.out.old ho)
    clear hcall ho
    obtain ⟨d0, d1, d2, d3, d4, d5⟩ := HX2.out
    have hf2 : w2.cell? ⟨B2, 0, none⟩ = some (.func (.func fn) #[] lb) := (HO2.out.cell (p := ⟨B2, 0, none⟩) hBW2 (by simp)).trans HF.out
    have hcall := HP.out w2 x HO2.out
    rw [← HR.out] at hcall
    simp only [entV] at hcall
    go_wp2_with (go_at_fn fn; refine hcall.mono ?_; rintro e w' ⟨rfl, hb'⟩)
    go_ret
    exact ⟨by simp, HO2.out.trans hb'⟩

set_option maxHeartbeats 2000000 in
/-- slices.IndexFunc: the first place of which the function says true -/
theorem idxE_any (fn : Nat) (lb : Array Value) (p : En → Bool) (v : Value) (l : List En) (w : World)
    (eg : ∀ args w, (callFunc fn args).run Tryz.prog w = .ok (.enter fn args) w) (hr : EnRow w v l)
    (hp : ∀ (W : World) (x : En), Only [] w W → Calls Tryz.prog fn (#[entV x] ++ lb) W fun e w' => e = .returned (.bool (p x)) ∧ Only [] W w') :
    Calls Tryz.prog 116 #[v, .func (.func fn) #[] lb] w fun e w' => e = .returned (.int .i64 (spotI p l)) ∧ Only [] w w' := by
  obtain ⟨A, cap, hv, hlc, hcm⟩ := hr.slice
  have HR := Lib.hid hr
  have HP := Lib.hid hp
  unfold maxLen at hcm
  subst hv
  clear hr hp
  go_enter Tryz.func116, Tryz.ntmps116
  go_wp2
  go_loopw [8] (fun i wr => ∃ k : Nat, k ≤ l.length ∧ i = .int .i64 k ∧ Only [] w wr ∧ ∀ j, j < k → p (nthE l j) = false) (fun i _ => l.length - (intOf i).toNat)
  case atStart => exact ⟨0, Nat.zero_le _, rfl, Only.refl _ _, fun j hj => by omega⟩
  case round =>
    obtain ⟨k, hk, rfl, ho, hn⟩ := hrel
    have HO := Lib.hid ho
    have HN := Lib.hid hn
    clear ho hn
    by_cases hlt : k < l.length
    · obtain ⟨g, cap2, hv2, hgs, _, _⟩ := HR.out.some_ (by omega)
      obtain ⟨rfl, rfl⟩ : A = some ⟨g, 0, none⟩ ∧ cap = cap2 := by
        injection hv2 with e1 e2 e3
        exact ⟨e1, e3⟩
      obtain ⟨f0, f1, f2, f3, f4, f5⟩ := (HR.out.old HO.out).el rfl hlt
      have hcall := HP.out wr (nthE l k) HO.out
      obtain ⟨x, hx⟩ : ∃ x, x = nthE l k := ⟨_, rfl⟩
      rw [← hx] at f0 f1 f2 f3 f4 f5 hcall
      have HX := Lib.hid hx
      obtain ⟨q, hq⟩ : ∃ q, q = p x := ⟨_, rfl⟩
      rw [← hq] at hcall
      have HQ := Lib.hid hq
      clear hv2 hgs hx hq
      obtain ⟨⟨x1, x2, x3⟩, x4, x5, x6⟩ := x
      simp only [entV] at f0 f1 f2 f3 f4 f5 hcall
      cases q with
      | true =>
        have HF : Hid (l.findIdx p = k) := by
          refine spot_first hlt ?_ HN.out
          rw [← HX.out]; exact HQ.out.symm
        go_wp2_with (go_at_fn fn; refine hcall.mono ?_; rintro e w' ⟨rfl, hb'⟩)
        go_ret
        exact ⟨ret_int (by rw [spotI_yes (by rw [HF.out]; exact hlt), HF.out]), HO.out.trans hb'⟩
      | false =>
        go_wp2_with (go_at_fn fn; refine hcall.mono ?_; rintro e w' ⟨rfl, hb'⟩)
        go_roundw
        case rel =>
          refine ⟨k + 1, by omega, by go_num, HO.out.trans hb', fun j hj => ?_⟩
          by_cases e : j = k
          · subst e; rw [← HX.out]; exact HQ.out.symm
          · exact HN.out j (by omega)
        case measure => simp [intOf]; omega
    · have HF : Hid (spotI p l = -1) := by
        refine spotI_no (fun h => ?_)
        have h1 := spot_hit h
        rw [HN.out _ (by omega)] at h1
        cases h1
      go_wp2
      go_ret
      exact ⟨ret_int HF.out.symm, HO.out⟩
set_option maxHeartbeats 800000 in
theorem contE_any (fn : Nat) (lb : Array Value) (p : En → Bool) (v : Value) (l : List En) (w : World)
    (eg : ∀ args w, (callFunc fn args).run Tryz.prog w = .ok (.enter fn args) w) (hr : EnRow w v l)
    (hp : ∀ (W : World) (x : En), Only [] w W → Calls Tryz.prog fn (#[entV x] ++ lb) W fun e w' => e = .returned (.bool (p x)) ∧ Only [] W w') :
    Calls Tryz.prog 164 #[v, .func (.func fn) #[] lb] w fun e w' => e = .returned (.bool (l.any p)) ∧ Only [] w w' := by
  obtain ⟨A, cap, hv, _, _⟩ := hr.slice
  have hcon := idxE_any fn lb p v l w eg hr hp
  have HS : Hid (decide (0 ≤ spotI p l) = l.any p) := spot_any
  generalize spotI p l = q at *
  generalize l.any p = b at *
  subst hv
  clear hr hp eg
  have hs := HS.out
  go_enter Tryz.func164, Tryz.ntmps164
  go_wp2_with fail
  refine hcon.mono ?_
  rintro e w' ⟨rfl, hb'⟩
  go_wp2
  go_ret
  exact ⟨by simp, hb'⟩
end Go.Proofs.YtlkneapidmdpbaaGreatDoor
