/-
  The contract of the statements' own Texts over this seat's program. Conditions: those of each statement.
-/
import Derived.Test.YtlkneapidmdpbaaGreatDoorLBase
namespace Go.Proofs.YtlkneapidmdpbaaGreatDoor
open Go.RowKit

set_option maxHeartbeats 1000000 in
/-- two rows of texts are told to be the same just if they are -/
theorem Texts_any (A1 A2 : Option Addr) (n1 n2 c1 c2 B1 B2 : Nat) (xs ys : List ByteArray) (b : Bool) (w : World) (hn1 : n1 = xs.length) (hn2 : n2 = ys.length) (hl : xs.length ≤ maxLen) (h1 : SRow w B1 A1 xs) (h2 : SRow w B2 A2 ys) (hb : b = true ↔ xs = ys) :
    Calls Tryz.prog 30 #[.slice A1 n1 c1, .slice A2 n2 c2] w fun e w' => e = .returned (.bool b) ∧ ∃ n, w' = w.drewN n := by
  by_cases hlen : xs.length = ys.length
  case neg =>
    have hne : ¬ xs = ys := fun h => hlen (by rw [h])
    have hbf : b = false := by cases b; rfl; exact absurd (hb.1 rfl) hne
    subst hn1 hn2 hbf
    unfold maxLen at hl
    have hcmp : ¬ ((xs.length : Int) = (ys.length : Int)) := by omega
    clear hb hne h1 h2
    go_enter Tryz.func30, Tryz.ntmps30
    go_wp2
    go_ret
    exact ⟨rfl, 0, rfl⟩
  subst hn1 hn2
  unfold maxLen at hl
  have H1 := Lib.hid h1
  have H2 := Lib.hid h2
  have HB := Lib.hid hb
  have HL := Lib.hid hlen
  rw [← hlen]
  clear h1 h2 hb
  clear hlen
  go_enter Tryz.func30, Tryz.ntmps30
  go_wp2
  go_loopw [5] (fun i wr => ∃ k m : Nat, k ≤ xs.length ∧ i = .int .i64 k ∧ wr = w.drewN m ∧ xs.take k = ys.take k) (fun i _ => xs.length - (intOf i).toNat)
  case atStart => exact ⟨0, 0, Nat.zero_le _, rfl, rfl, rfl⟩
  case round =>
    obtain ⟨k, m, hk, rfl, hw, htk⟩ := hrel
    have HW := Lib.hid hw
    have HTK := Lib.hid htk
    clear hw htk
    by_cases hlt : k < xs.length
    · have hlt2 : k < ys.length := by rw [← HL.out]; exact hlt
      obtain ⟨a1, e1, _, hc1⟩ := H1.out k xs[k] (List.getElem?_eq_getElem hlt)
      obtain ⟨a2, e2, _, hc2⟩ := H2.out k ys[k] (List.getElem?_eq_getElem hlt2)
      have hc1' : wr.cell? (a1.add k) = some (.string xs[k]) := by rw [HW.out]; exact hc1
      have hc2' : wr.cell? (a2.add k) = some (.string ys[k]) := by rw [HW.out]; exact hc2
      have HX : Hid (xs.take (k + 1) = xs.take k ++ [xs[k]]) := List.take_succ_eq_append_getElem hlt
      have HY : Hid (ys.take (k + 1) = ys.take k ++ [ys[k]]) := List.take_succ_eq_append_getElem hlt2
      have HG : Hid (xs = ys → xs[k] = ys[k]) := fun h => by subst h; rfl
      clear hc1 hc2
      generalize xs[k] = x at *
      generalize ys[k] = y at *
      clear hlt2
      subst e1 e2
      have h32 : ((k : Int) < (xs.length : Int)) := by omega
      by_cases hxy : x = y
      · subst hxy
        have HTK2 : Hid (xs.take (k + 1) = ys.take (k + 1)) := by show _ = _; rw [HX.out, HY.out, HTK.out]
        go_wp2_with fail
        go_quiet (fail)
        go_wp2
        go_roundw
        case rel => exact ⟨k + 1, _, by omega, by go_num, by rw [HW.out, World.drewN_drewN], HTK2.out⟩
        case measure => simp [intOf]; omega
      · have hbe : (x.toList == y.toList) = false := by
          rw [beq_eq_false_iff_ne]; intro h; exact hxy (WideShapes.bytes_inj (by rw [ByteArray.toList_eq, ByteArray.toList_eq] at h; exact h))
        have HF : Hid (b = false) := by
          show _ = _
          cases b
          · rfl
          · exact absurd (HG.out (HB.out.1 rfl)) hxy
        clear hxy
        go_wp2_with fail
        go_quiet (fail)
        go_wp2
        go_ret
        exact ⟨ret_bool HF.out.symm, _, by rw [HW.out, World.drewN_drewN]⟩
    · have HT : Hid (b = true) := by
        show _ = _
        refine HB.out.2 ?_
        have h := HTK.out
        rwa [List.take_of_length_le (by omega), List.take_of_length_le (by have := HL.out; omega)] at h
      go_wp2
      go_ret
      exact ⟨ret_bool HT.out.symm, m, HW.out⟩
end Go.Proofs.YtlkneapidmdpbaaGreatDoor
