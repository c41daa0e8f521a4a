/-
  The contract of the document's own Join over this seat's program. Conditions: those of each statement.
-/
import Derived.Test.YtlkneapidmdpbaaGreatDoorLRef1
namespace Go.Proofs.YtlkneapidmdpbaaGreatDoor
open Go.RowKit

theorem sum_take (xs : List ByteArray) (k : Nat) : ((xs.take k).map ByteArray.size).sum ≤ (xs.map ByteArray.size).sum := by
  have e : (xs.map ByteArray.size).sum = ((xs.take k).map ByteArray.size).sum + ((xs.drop k).map ByteArray.size).sum := by
    rw [← List.sum_append, ← List.map_append, List.take_append_drop]
  omega
theorem dat_join_len (xs : List ByteArray) (k : Nat) (hk : k ≤ xs.length) : (mk (Lk.joinL (dat (xs.take k)))).size ≤ (xs.map ByteArray.size).sum + 2 * xs.length := by
  have h1 := Lk.join_len (dat (xs.take k))
  have h2 := sum_take xs k
  rw [dat_sum, dat_len, List.length_take] at h1
  rw [mk_size]; omega
theorem size_le_sum {xs : List ByteArray} {x : ByteArray} (h : x ∈ xs) : x.size ≤ (xs.map ByteArray.size).sum := by
  induction xs with
  | nil => cases h
  | cons y r ih =>
    rw [List.map_cons, List.sum_cons]
    rcases List.mem_cons.1 h with rfl | h
    · omega
    · have := ih h; omega

set_option maxHeartbeats 1000000 in
theorem refJoin_any (A : Option Addr) (len c B : Nat) (xs : List ByteArray) (w : World) (hlen : len = xs.length) (hx : SRow w B A xs) (hsum : (xs.map ByteArray.size).sum + 2 * xs.length ≤ 1099511627776) :
    Calls Tryz.prog 139 #[.slice A len c] w fun e w' => e = .returned (.string (mk (Lk.joinL (dat xs)))) ∧ w = w' := by
  subst hlen
  have HX := Lib.hid hx
  have HSUM := Lib.hid hsum
  have hl : xs.length ≤ 1099511627776 := by omega
  clear hx hsum
  go_enter Tryz.func139, Tryz.ntmps139
  go_wp2
  go_loop [3, 4] (fun s i => ∃ k : Nat, k ≤ xs.length ∧ i = .int .i64 k ∧ s = .string (mk (Lk.joinL (dat (xs.take k))))) (fun _ i => xs.length - (intOf i).toNat)
  case atStart => exact ⟨0, Nat.zero_le _, rfl, rfl⟩
  case round =>
    obtain ⟨k, hk, rfl, rfl⟩ := hrel
    have hz : (mk (Lk.joinL (dat (xs.take k)))).size ≤ 1099511627776 := Nat.le_trans (dat_join_len xs k hk) HSUM.out
    by_cases hlt : k < xs.length
    · obtain ⟨ad, hA, _, hc⟩ := HX.out k xs[k] (List.getElem?_eq_getElem hlt)
      have hxz : xs[k].size ≤ 1099511627776 := by have h1 := size_le_sum (List.getElem_mem hlt); have h2 := HSUM.out; omega
      have HTK : Hid (xs.take (k + 1) = xs.take k ++ [xs[k]]) := List.take_succ_eq_append_getElem hlt
      generalize xs[k] = x at *
      subst hA
      by_cases h0 : k = 0
      · have HM : Hid (mk (Lk.joinL (dat (xs.take k))) ++ x = mk (Lk.joinL (dat (xs.take (k + 1))))) := by
          show _ = _
          rw [HTK.out]
          subst h0
          simp only [List.take_zero, List.nil_append]
          have e : mk (Lk.joinL (dat [x])) = x := mk_eq x
          rw [e]
          apply WideShapes.bytes_inj
          simp [mk, Lk.joinL, dat]
        have hpos : ¬ 0 < k := by omega
        clear h0
        go_wp2
        go_round
        case rel => exact ⟨k + 1, by omega, by go_num, by rw [HM.out]⟩
        case measure => simp [intOf]; omega
      · have HM : Hid (mk (Lk.joinL (dat (xs.take k))) ++ (⟨#[44, 32]⟩ : ByteArray) ++ x = mk (Lk.joinL (dat (xs.take (k + 1))))) := by
          show _ = _
          have hne : dat (xs.take k) ≠ [] := by
            intro h
            have := congrArg List.length h
            rw [dat_len, List.length_take] at this
            simp only [List.length_nil] at this; omega
          rw [HTK.out, dat_snoc, Lk.join_snoc _ _ hne]
          apply WideShapes.bytes_inj
          rw [mk_data]
          simp [mk]
        have hpos : 0 < k := by omega
        have h2s : (ByteArray.mk #[44, 32]).size = 2 := rfl
        clear h0
        go_wp2
        go_round
        case rel => exact ⟨k + 1, by omega, by go_num, by rw [HM.out]⟩
        case measure => simp [intOf]; omega
    · have HK : Hid (xs.take k = xs) := List.take_of_length_le (by omega)
      go_wp2
      go_ret
      exact ⟨ret_string (by rw [HK.out]), rfl⟩
end Go.Proofs.YtlkneapidmdpbaaGreatDoor
