/-
  The contracts of the document's own New, Of, at, Members, Want, out and Done over this seat's program. Conditions: those of each statement.
-/
import Derived.Test.YtcljmdpnbfefbaaXLeave
namespace Go.Proofs.Ytcljmdpnbfefbaa
open Go.RowKit

set_option maxHeartbeats 800000 in
theorem rNew_any (w : World) : Calls Try.prog 9 #[] w fun e w' => ∃ g, e = .returned (.pointer (some ⟨g, 0, none⟩)) ∧ ShAt eR 0 w' g (.slice none 0 0) 0 [] ∧ Only [] w w' ∧ w.heap.size ≤ g := by
  obtain ⟨W, hW⟩ : ∃ W, W = w.alloc (.cells #[.int .i64 0, .slice none 0 0] 50) := ⟨_, rfl⟩
  have HS : Hid (ShAt eR 0 W w.heap.size (.slice none 0 0) 0 []) := by show ShAt _ _ _ _ _ _ _; rw [hW]; exact newSh eR 0 w _
  have HO : Hid (Only [] w W) := by show Only _ _ _; rw [hW]; exact (Only.refl _ _).alloc _
  go_enter Try.func9, Try.ntmps9
  go_wp2_with fail
  rw [← hW]
  clear hW
  go_wp2
  go_ret
  exact ⟨_, rfl, HS.out, HO.out, Nat.le_refl _⟩

section
variable (g : Nat) (v : Value) (l : List Px) (s : Sv) (w : World) (h : ShAt eR 0 w g v s.last l) (hl : l.map Px.p = s.l)
include h hl
set_option maxHeartbeats 1600000 in
theorem rat_any (k0 : Int) : Calls Try.prog 38 #[.pointer (some ⟨g, 0, none⟩), .int .i64 k0] w fun e w' => e = .returned (.int .i64 (spotI (numB k0) s.l)) ∧ w = w' := by
  obtain ⟨A, cap, hv, hlc, hcm⟩ := h.row.slice
  have HH := Lib.hid h
  have HL := Lib.hid hl
  have HLN := Lib.hid (map_len hl)
  have hc1 := h.c1
  have hgl := h.lt
  unfold maxLen at hcm
  obtain ⟨n, hn0⟩ : ∃ n, n = l.length := ⟨_, rfl⟩
  rw [← hn0] at hlc hv
  have HN := Lib.hid hn0
  subst hv
  clear h hl hn0
  go_enter Try.func38, Try.ntmps38
  go_wp2_with fail
  go_loop [5] (fun i => ∃ k : Nat, k ≤ n ∧ i = .int .i64 (k : Int) ∧ ∀ j, j < k → numB k0 (nthP s.l j) = false) (fun i => n - (intOf i).toNat)
  case atStart => exact ⟨0, Nat.zero_le _, rfl, fun j hj => by omega⟩
  case round =>
    obtain ⟨k, hk, rfl, hn⟩ := hrel
    have HNO := Lib.hid hn
    clear hn
    by_cases hlt : k < n
    · obtain ⟨gv, cap2, hv2, hgs, _, _⟩ := HH.out.row.some_ (by have := HN.out; omega)
      obtain ⟨rfl, rfl⟩ : A = some ⟨gv, 0, none⟩ ∧ cap = cap2 := by
        injection hv2 with e1 e2 e3
        exact ⟨e1, e3⟩
      obtain ⟨f0, f1, f2, f3, f4, f5, f6⟩ := HH.out.row.el HN.out (k := k) (by have := HN.out; omega)
      have HX : Hid ((nthX l k).p = nthP s.l k) := nthX_p HL.out
      rw [HX.out] at f0
      have hkl : k < s.l.length := by have := HN.out; have := HLN.out; omega
      have HKL := Lib.hid hkl
      have HY : Hid (((nthP s.l k).n : Int) = k0 → spotI (numB k0) s.l = (k : Int)) := fun e => by
        have h1 : s.l.findIdx (numB k0) = k := spot_first HKL.out (numB_iff.2 e) HNO.out
        rw [spotI_yes (by rw [h1]; exact HKL.out), h1]
      have HZ : Hid (((nthP s.l k).n : Int) ≠ k0 → ∀ j, j < k + 1 → numB k0 (nthP s.l j) = false) := fun e j hj => by
        by_cases ej : j = k
        · subst ej; unfold numB; exact decide_eq_false e
        · exact HNO.out j (by omega)
      generalize (nthP s.l k).n = x at *
      clear f1 f2 f3 f4 f5 f6 hv2 hgs hkl
      by_cases hx : (x : Int) = k0
      · have HE := Lib.hid (HY.out hx)
        have hxb : ((x : Int) == k0) = true := by simpa using hx
        clear HY HZ
        go_wp2
        go_ret
        exact ⟨ret_int HE.out.symm, rfl⟩
      · have HE := Lib.hid (HZ.out hx)
        have hxb : ((x : Int) == k0) = false := by simpa using hx
        clear HY HZ
        go_wp2
        go_round
        case rel => exact ⟨k + 1, by omega, by go_num, HE.out⟩
        case measure => simp [intOf]; omega
    · obtain rfl : k = n := by omega
      have HE : Hid (spotI (numB k0) s.l = -1) := spotI_no (spot_none (fun j hj => HNO.out j (by have := HN.out; have := HLN.out; omega)))
      go_wp2
      go_ret
      exact ⟨ret_int HE.out.symm, rfl⟩
set_option maxHeartbeats 3200000 in
theorem rOf_any (i : Int) : Calls Try.prog 22 #[.pointer (some ⟨g, 0, none⟩), .int .i64 i] w fun e w' => e = .returned (.int .i64 (ofN i s : Int)) ∧ w = w' := by
  obtain ⟨A, cap, hv, hlc, hcm⟩ := h.row.slice
  have HH := Lib.hid h
  have HL := Lib.hid hl
  have HLN := Lib.hid (map_len hl)
  have hc1 := h.c1
  have hgl := h.lt
  unfold maxLen at hcm
  obtain ⟨n, hn0⟩ : ∃ n, n = l.length := ⟨_, rfl⟩
  rw [← hn0] at hlc hv
  have HN := Lib.hid hn0
  subst hv
  clear h hl hn0
  go_enter Try.func22, Try.ntmps22
  go_wp2_with fail
  go_loop [5] (fun q => ∃ k : Nat, k ≤ n ∧ q = .int .i64 (k : Int) ∧ ∀ j, j < k → hasI i (nthP s.l j) = false) (fun q => n - (intOf q).toNat)
  case atStart => exact ⟨0, Nat.zero_le _, rfl, fun j hj => by omega⟩
  case round =>
    obtain ⟨k, hk, rfl, hn⟩ := hrel
    have HNO := Lib.hid hn
    clear hn
    by_cases hlt : k < n
    · obtain ⟨gv, cap2, hv2, hgs, _, _⟩ := HH.out.row.some_ (by have := HN.out; omega)
      obtain ⟨rfl, rfl⟩ : A = some ⟨gv, 0, none⟩ ∧ cap = cap2 := by
        injection hv2 with e1 e2 e3
        exact ⟨e1, e3⟩
      obtain ⟨f0, f1, f2, f3, f4, f5, f6⟩ := HH.out.row.el HN.out (k := k) (by have := HN.out; omega)
      have HIR := Lib.hid (HH.out.ids _ (nthX_mem (k := k) (by have := HN.out; omega)))
      have hX : (nthX l k).p = nthP s.l k := nthX_p HL.out
      have hkl : k < s.l.length := by have := HN.out; have := HLN.out; omega
      have HKL := Lib.hid hkl
      obtain ⟨x, hx⟩ : ∃ x, x = nthX l k := ⟨_, rfl⟩
      rw [← hx] at f0 f6 HIR hX
      obtain ⟨⟨xn, xw, xi⟩, xA, xc⟩ := x
      have HXP := Lib.hid hX
      simp only [Px.v] at f0 f6 HIR
      have HY : Hid (i ∈ xi → ofN i s = xn) := fun e => by
        have h1 : homeK i s = k := spot_first HKL.out (hasI_iff.2 (by rw [← HXP.out]; exact e)) HNO.out
        unfold ofN leaveN
        rw [h1, if_pos HKL.out, ← HXP.out]
      have HZ : Hid (i ∉ xi → ∀ j, j < k + 1 → hasI i (nthP s.l j) = false) := fun e j hj => by
        by_cases ej : j = k
        · subst ej; rw [← HXP.out, ← Bool.not_eq_true, hasI_iff]; exact e
        · exact HNO.out j (by omega)
      obtain ⟨xA', xc', e9, hxl, hxm⟩ := HIR.out.slice
      injection e9 with e1 e2 e3
      subst e1 e3
      unfold maxLen at hxm
      clear f1 f2 f3 f4 f5 hv2 hgs hkl hx hX e2
      go_wp2_with fail
      go_loop [6] (fun q => ∃ t : Nat, t ≤ xi.length ∧ q = .int .i64 (t : Int) ∧ ∀ j (_ : j < t) (h2 : j < xi.length), xi[j] ≠ i) (fun q => xi.length - (intOf q).toNat)
      case atStart => exact ⟨0, Nat.zero_le _, rfl, fun j hj => by omega⟩
      case round =>
        obtain ⟨t, ht, rfl, hn⟩ := hrel
        have HTO := Lib.hid hn
        clear hn
        by_cases htl : t < xi.length
        · obtain ⟨gi, rfl, q0⟩ := HIR.out.at_ rfl htl
          have HM : Hid (xi[t] ∈ xi) := List.getElem_mem htl
          have HT2 : Hid (xi[t] ≠ i → ∀ j (_ : j < t + 1) (h2 : j < xi.length), xi[j] ≠ i) := fun e j hj h2 => by
            by_cases ej : j = t
            · subst ej; exact e
            · exact HTO.out j (by omega) h2
          generalize xi[t] = y at *
          by_cases hyi : y = i
          · subst hyi
            have HE := Lib.hid (HY.out HM.out)
            clear HY HZ HT2
            go_wp2
            go_ret
            exact ⟨ret_int (by rw [HE.out]), rfl⟩
          · have HE := Lib.hid (HT2.out hyi)
            have hyb : (y == i) = false := by simpa using hyi
            clear HT2
            go_wp2
            go_round
            case rel => exact ⟨t + 1, by omega, by go_num, HE.out⟩
            case measure => simp [intOf]; omega
        · obtain rfl : t = xi.length := by omega
          have HE : Hid (∀ j, j < k + 1 → hasI i (nthP s.l j) = false) := HZ.out (fun hm => by
            obtain ⟨j, hj, e⟩ := List.mem_iff_getElem.1 hm
            exact HTO.out j hj hj e)
          clear HZ HY
          go_wp2
          go_round
          case rel => exact ⟨k + 1, by omega, by go_num, HE.out⟩
          case measure => simp [intOf]; omega
    · obtain rfl : k = n := by omega
      have HE : Hid (ofN i s = 0) := by
        show _ = _
        unfold ofN leaveN
        rw [if_neg]
        exact spot_none (fun j hj => HNO.out j (by have := HN.out; have := HLN.out; omega))
      go_wp2
      go_ret
      exact ⟨ret_int (by rw [HE.out]; rfl), rfl⟩
end
end Go.Proofs.Ytcljmdpnbfefbaa
