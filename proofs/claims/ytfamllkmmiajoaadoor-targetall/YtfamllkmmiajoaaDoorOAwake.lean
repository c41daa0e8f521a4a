/-
  Contracts of the statements' own helpers awake and Long, over this seat's program. awake returns true; nothing that was there turns. Conditions: none for awake; for Long the texts lie where the slice says.
-/
import Derived.Test.YtfamllkmmiajoaaDoorOSplit
namespace Go.Proofs.YtfamllkmmiajoaaDoor
open Go.RowKit

theorem aw1 : digRes [57, 57, 57, 57, 57, 57, 57, 57, 57, 57, 57, 57, 57, 57, 57, 57, 57, 57, 57, 57] = .tuple #[.int .u64 18446744073709551615, .bool true] := by
  rw [digRes_t (by decide)]
  have : Lk.sat (Lk.valL [57, 57, 57, 57, 57, 57, 57, 57, 57, 57, 57, 57, 57, 57, 57, 57, 57, 57, 57, 57]) = 18446744073709551615 := by decide
  rw [this]; rfl
theorem aw2 : Lk.splitL [32, 97, 44, 44, 32, 98, 32] = [[97], [98]] := by decide
theorem aw3 : Lk.foldL [97, 66] [65, 98] = true := by decide
theorem aw4 : Lk.tokL [] = false := by decide

set_option maxHeartbeats 400000 in
theorem Long_any (n0 : Int) (A : Option Addr) (len c : Nat) (xs : List ByteArray) (w : World) (B : Nat) (h0 : 0 ≤ n0) (hn : n0 ≤ 1000000000) (hlen : len = xs.length) (hx : SRow w B A xs) (hl : xs.length ≤ maxLen) (hs : ∀ x ∈ xs, x.size ≤ maxLen) :
    Calls Tryd.prog 11 #[.int .i64 n0, .slice A len c] w fun e w' => e = .returned (.bool (Lk.longL n0.toNat (xs.map ByteArray.size))) ∧ w = w' := by
  unfold maxLen at hl
  subst hlen
  obtain ⟨n, rfl⟩ := Int.eq_ofNat_of_zero_le h0
  rw [Int.toNat_natCast]
  have HX := Lib.hid hx
  have HS := Lib.hid hs
  clear hx hs
  go_enter Tryd.func11, Tryd.ntmps11
  go_wp2
  go_loop [0, 5] (fun m i => ∃ k q : Nat, k ≤ xs.length ∧ i = .int .i64 k ∧ m = .int .i64 q ∧ q ≤ n ∧ Lk.longL n (xs.map ByteArray.size) = Lk.longL q ((xs.drop k).map ByteArray.size)) (fun _ i => xs.length - (intOf i).toNat)
  case atStart => exact ⟨0, n, Nat.zero_le _, rfl, rfl, Nat.le_refl _, rfl⟩
  case round =>
    obtain ⟨k, q, hk, rfl, rfl, hq, he⟩ := hrel
    have HE := Lib.hid he
    clear he
    by_cases hlt : k < xs.length
    · obtain ⟨ad, hA, hB, hc⟩ := HX.out k xs[k] (List.getElem?_eq_getElem hlt)
      have hz := HS.out xs[k] (List.getElem_mem hlt)
      unfold maxLen at hz
      have HD : Hid (xs.drop k = xs[k] :: xs.drop (k + 1)) := List.drop_eq_getElem_cons hlt
      generalize xs[k] = x at *
      subst hA
      by_cases hz2 : q ≤ x.size
      · go_wp2
        go_ret
        exact ⟨ret_bool (by rw [HE.out, HD.out, List.map_cons, Lk.longL, if_pos hz2]), rfl⟩
      · go_wp2
        go_round
        case rel =>
          refine ⟨k + 1, q - x.size - 1, by omega, by go_num, by go_num, by omega, ?_⟩
          rw [HE.out, HD.out, List.map_cons, Lk.longL, if_neg hz2]
        case measure => simp [intOf]; omega
    · go_wp2
      go_ret
      exact ⟨ret_bool (by rw [HE.out, List.drop_of_length_le (by omega)]; rfl), rfl⟩
end Go.Proofs.YtfamllkmmiajoaaDoor
