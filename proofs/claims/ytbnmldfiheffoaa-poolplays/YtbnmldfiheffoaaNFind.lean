/-
  The contracts of hosts.New, slices.IndexFunc at hosts and the two functions that it is handed, Table.find, Has and Used over this seat's program. Conditions: those of each statement.
-/
import Derived.Test.YtbnmldfiheffoaaNRow
import Derived.Shelf.Abstract
import Derived.Deep.LoopGhost
namespace Go.Proofs.Ytbnmldfiheffoaa
open Go.RowKit

set_option maxHeartbeats 800000 in
theorem hNew_any (n : Int) (w : World) :
    Calls Try.prog 29 #[.int .i64 n] w fun e w' => e = .returned (.pointer (some ⟨w.heap.size, 0, none⟩)) ∧ TbAt 106 w' w.heap.size (clampT n) (.slice none 0 0) [] ∧ Only [] w w' ∧ w'.heap.size = w.heap.size + 1 := by
  have hb := clampT_bd n
  obtain ⟨m, hm⟩ : ∃ m, m = clampT n := ⟨_, rfl⟩
  rw [← hm] at hb ⊢
  obtain ⟨z, hz⟩ : ∃ z : Int, z = (m : Int) := ⟨_, rfl⟩
  obtain ⟨W, hW⟩ : ∃ W, W = w.alloc (.cells #[.int .i64 z, .slice none 0 0] 93) := ⟨_, rfl⟩
  have HH : Hid (TbAt 106 W w.heap.size m (.slice none 0 0) []) := by show TbAt _ _ _ _ _ _; rw [hW, hz]; exact ⟨⟨by simp, by simp, by simp⟩, URow.nil _ _ _, HoOk.new hb.1 hb.2⟩
  have HO : Hid (Only [] w W) := by show Only _ _ _; rw [hW]; exact (Only.refl _ _).alloc _
  have HS : Hid (W.heap.size = w.heap.size + 1) := by show _ = _; rw [hW]; simp
  clear hb
  unfold clampT at hm
  by_cases h1 : n < 1
  · rw [if_pos h1] at hm
    obtain rfl : z = 1 := by omega
    clear hm hz
    go_enter Try.func29, Try.ntmps29
    go_wp2_with fail
    rw [← hW]
    clear hW
    go_wp2
    go_ret
    exact ⟨rfl, HH.out, HO.out, HS.out⟩
  rw [if_neg h1] at hm
  by_cases h2 : 32 < n
  · rw [if_pos h2] at hm
    obtain rfl : z = 32 := by omega
    clear hm hz
    have h3 : ¬ n ≤ 32 := by omega
    go_enter Try.func29, Try.ntmps29
    go_wp2_with fail
    rw [← hW]
    clear hW
    go_wp2
    go_ret
    exact ⟨rfl, HH.out, HO.out, HS.out⟩
  · rw [if_neg h2] at hm
    obtain rfl : z = n := by omega
    have h3 : z ≤ 32 := by omega
    clear hm hz
    go_enter Try.func29, Try.ntmps29
    go_wp2_with fail
    rw [← hW]
    clear hW
    go_wp2
    go_ret
    exact ⟨rfl, HH.out, HO.out, HS.out⟩

set_option maxHeartbeats 400000 in
/-- the function that find hands over -/
theorem find1_any (k : ByteArray) (B : Nat) (x : Ho) (W : World) (hc : W.cell? ⟨B, 0, none⟩ = some (.string k)) :
    Calls Try.prog 67 #[.agg #[.string x.1, .int .i64 (x.2 : Int)], .pointer (some ⟨B, 0, none⟩)] W fun e w' => e = .returned (.bool (keyB k x)) ∧ Only [] W w' := by
  have hBW : B < W.heap.size := block_of_cell (a := ⟨B, 0, none⟩) hc
  have hne : B ≠ W.heap.size := by omega
  have HE : Hid ((x.1.toList == k.toList) = keyB k x) := rfl
  generalize keyB k x = q at *
  obtain ⟨x1, x2⟩ := x
  simp only at HE ⊢
  have he := HE.out
  go_enter Try.func67, Try.ntmps67
  go_wp2
  go_ret
  exact ⟨rfl, (Only.refl _ _).alloc _⟩

set_option maxHeartbeats 400000 in
/-- the function that room hands over -/
theorem room1_any (x : Ho) (W : World) :
    Calls Try.prog 80 #[.agg #[.string x.1, .int .i64 (x.2 : Int)]] W fun e w' => e = .returned (.bool (idleB x)) ∧ Only [] W w' := by
  obtain ⟨x1, x2⟩ := x
  have HE : Hid (((x2 : Int) == 0) = idleB (x1, x2)) := by show _ = _; unfold idleB; rw [Bool.eq_iff_iff]; simp
  generalize idleB (x1, x2) = q at *
  by_cases h : x2 = 0
  · subst h
    have he := HE.out
    clear HE
    subst he
    go_enter Try.func80, Try.ntmps80
    go_wp2
    go_ret
    exact ⟨rfl, (Only.refl _ _).alloc _⟩
  · have HQ : Hid (false = q) := by show _ = _; rw [← HE.out]; simp; omega
    clear HE
    go_enter Try.func80, Try.ntmps80
    go_wp2
    go_ret
    exact ⟨ret_bool (by rw [← HQ.out]; simp; omega), (Only.refl _ _).alloc _⟩

set_option maxHeartbeats 2000000 in
/-- slices.IndexFunc: the first place of which the function says true -/
theorem idxF_any (fn : Nat) (lb : Array Value) (p : Ho → Bool) (e : TypeId) (base : Nat) (v : Value) (l : List Ho) (w : World)
    (eg : ∀ args w, (callFunc fn args).run Try.prog w = .ok (.enter fn args) w) (hr : URow e w base v l)
    (hp : ∀ (W : World) (x : Ho), Only [] w W → Calls Try.prog fn (#[.agg #[.string x.1, .int .i64 (x.2 : Int)]] ++ lb) W fun e w' => e = .returned (.bool (p x)) ∧ Only [] W w') :
    Calls Try.prog 66 #[v, .func (.func fn) #[] lb] w fun e w' => e = .returned (.int .i64 (placeI p l)) ∧ Only [] w w' := by
  obtain ⟨A, cap, hv, hlc, hcm⟩ := hr.slice
  have HR := Lib.hid hr
  have HP := Lib.hid hp
  unfold maxLen at hcm
  subst hv
  clear hr hp
  go_enter Try.func66, Try.ntmps66
  go_wp2
  go_loopw [8] (fun i wr => ∃ k : Nat, k ≤ l.length ∧ i = .int .i64 k ∧ Only [] w wr ∧ ∀ j, j < k → p (nthH l j) = false) (fun i _ => l.length - (intOf i).toNat)
  case atStart => exact ⟨0, Nat.zero_le _, rfl, Only.refl _ _, fun j hj => by omega⟩
  case round =>
    obtain ⟨k, hk, rfl, ho, hn⟩ := hrel
    have HO := Lib.hid ho
    have HN := Lib.hid hn
    clear ho hn
    by_cases hlt : k < l.length
    · obtain ⟨g, cap2, hv2, hgb, hgs, _, _⟩ := HR.out.some_ (by omega)
      obtain ⟨rfl, rfl⟩ : A = some ⟨g, 0, none⟩ ∧ cap = cap2 := by
        injection hv2 with e1 e2 e3
        exact ⟨e1, e3⟩
      obtain ⟨f1, f2⟩ := (HR.out.only HO.out (by simp)).el rfl hlt
      have hcall := HP.out wr (nthH l k) HO.out
      obtain ⟨x, hx⟩ : ∃ x, x = nthH l k := ⟨_, rfl⟩
      rw [← hx] at f1 f2 hcall
      have HX := Lib.hid hx
      obtain ⟨q, hq⟩ : ∃ q, q = p x := ⟨_, rfl⟩
      rw [← hq] at hcall
      have HQ := Lib.hid hq
      clear hv2 hgb hgs hx hq
      obtain ⟨x1, x2⟩ := x
      simp only at f1 f2 hcall
      cases q with
      | true =>
        have HF : Hid (l.findIdx p = k) := by
          refine place_first hlt ?_ HN.out
          rw [← HX.out]; exact HQ.out.symm
        go_wp2_with (go_at_fn fn; refine hcall.mono ?_; rintro e w' ⟨rfl, hb'⟩)
        go_ret
        exact ⟨ret_int (by rw [placeI_yes (by rw [HF.out]; exact hlt), HF.out]), HO.out.trans hb'⟩
      | false =>
        go_wp2_with (go_at_fn fn; refine hcall.mono ?_; rintro e w' ⟨rfl, hb'⟩)
        go_roundw
        case rel =>
          refine ⟨k + 1, by omega, by go_num, HO.out.trans hb', fun j hj => ?_⟩
          by_cases e : j = k
          · subst e; rw [← HX.out]; exact HQ.out.symm
          · exact HN.out j (by omega)
        case measure => simp [intOf]; omega
    · have HF : Hid (placeI p l = -1) := by
        refine placeI_no (fun h => ?_)
        have h1 := place_hit h
        rw [HN.out _ (by omega)] at h1
        cases h1
      go_wp2
      go_ret
      exact ⟨ret_int HF.out.symm, HO.out⟩

set_option maxHeartbeats 800000 in
theorem find_any (g M : Nat) (v : Value) (l : List Ho) (key : ByteArray) (w : World) (h : TbAt 106 w g M v l) :
    Calls Try.prog 59 #[.pointer (some ⟨g, 0, none⟩), .string key] w fun e w' => e = .returned (.int .i64 (placeI (keyB key) l)) ∧ Only [] w w' := by
  obtain ⟨A, cap, rfl, _, _⟩ := h.row.slice
  have eg : ∀ args w, (callFunc 67 args).run Try.prog w = .ok (.enter 67 args) w := enters_of Try.func67 (by kernel_rfl) rfl
  obtain ⟨W1, hW1⟩ : ∃ W1, W1 = w.alloc (.cells #[.string key] 9) := ⟨_, rfl⟩
  have HO1 : Hid (Only [] w W1) := by show Only _ _ _; rw [hW1]; exact (Only.refl _ _).alloc _
  have HK1 : Hid (W1.cell? ⟨w.heap.size, 0, none⟩ = some (.string key)) := by show _ = _; rw [hW1]; simp
  have HT1 := Lib.hid (h.old HO1.out)
  have hc1 := h.head.c1
  have hgl := h.head.lt
  have HC : Hid (∀ (W : World) (x : Ho), Only [] W1 W → Calls Try.prog 67 (#[.agg #[.string x.1, .int .i64 (x.2 : Int)]] ++ #[.pointer (some ⟨w.heap.size, 0, none⟩)]) W fun e w' => e = .returned (.bool (keyB key x)) ∧ Only [] W w') := by
    show ∀ (W : World) (x : Ho), _
    intro W x hO
    exact find1_any key w.heap.size x W ((hO.cell (p := ⟨w.heap.size, 0, none⟩) (block_of_cell (a := ⟨w.heap.size, 0, none⟩) HK1.out) (by simp)).trans HK1.out)
  have hcon := idxF_any 67 #[.pointer (some ⟨w.heap.size, 0, none⟩)] (keyB key) 106 (g + 1) _ l W1 eg HT1.out.row HC.out
  clear h eg
  go_enter Try.func59, Try.ntmps59
  go_wp2_with fail
  rw [← hW1]
  clear hW1
  refine hcon.mono ?_
  rintro e w' ⟨rfl, hb'⟩
  clear hcon hc1
  go_wp2
  go_ret
  exact ⟨rfl, HO1.out.trans hb'⟩
end Go.Proofs.Ytbnmldfiheffoaa
