/-
  Contracts of the statements' own helpers awake and Long, over this seat's program. awake returns true; nothing that was there turns. Conditions: none for awake; for Long the texts lie where the slice says.
-/
import Derived.Test.YtihpnancplfkhaaOSplit
namespace Go.Proofs.Ytihpnancplfkhaa
open Go.RowKit

theorem aw1 : digRes [57, 57, 57, 57, 57, 57, 57, 57, 57, 57, 57, 57, 57, 57, 57, 57, 57, 57, 57, 57] = .tuple #[.int .u64 18446744073709551615, .bool true] := by
  rw [digRes_t (by decide)]
  have : Lk.sat (Lk.valL [57, 57, 57, 57, 57, 57, 57, 57, 57, 57, 57, 57, 57, 57, 57, 57, 57, 57, 57, 57]) = 18446744073709551615 := by decide
  rw [this]; rfl
theorem aw2 : Lk.splitL [32, 97, 44, 44, 32, 98, 32] = [[97], [98]] := by decide
theorem aw3 : Lk.foldL [97, 66] [65, 98] = true := by decide
theorem aw4 : Lk.tokL [] = false := by decide

set_option maxHeartbeats 1000000 in
theorem awake_any (w : World) : Calls Try.prog 11 #[] w fun e w' => e = .returned (.bool true) ∧ Below w.heap.size w w' := by
  go_enter Try.func11, Try.ntmps11
  go_wp2_with fail
  refine (Digits_any _ _ (by decide)).mono ?_
  rintro e w' ⟨rfl, rfl⟩
  have h := aw1
  have H1 := Lib.hid h
  clear h
  rw [H1.out]
  go_wp2_with fail
  refine (Split_any _ _ (by decide)).mono ?_
  rintro e w1 ⟨v, rfl, hown, hb⟩
  have hown2 : w1.ownsRow w.heap.size 9 1 v 2 [.string ⟨#[97]⟩, .string ⟨#[98]⟩] := by
    have e : Lk.splitL (ByteArray.mk #[32, 97, 44, 44, 32, 98, 32]).data.toList = [[97], [98]] := aw2
    rw [e] at hown
    exact hown
  clear hown
  obtain ⟨_, ⟨_, h0⟩ | ⟨g, cap, cur, rfl, hg, hh, hc1, hc2, hc3, hc4⟩⟩ := id hown2
  · exact absurd h0 (by decide)
  have c0 : w1.cell? ⟨g, 0, none⟩ = some (.string ⟨#[97]⟩) := hown2.cellAt 0 (by decide)
  have c1 : w1.cell? ⟨g, 1, none⟩ = some (.string ⟨#[98]⟩) := hown2.cellAt 1 (by decide)
  clear hh hc1 hc2 hc3 hc4 hown2
  go_wp2_with fail
  refine (Fold_any _ _ _ (by decide) (by decide)).mono ?_
  rintro e w' ⟨rfl, n, rfl⟩
  have h3 : Lk.foldL (ByteArray.mk #[97, 66]).data.toList (ByteArray.mk #[65, 98]).data.toList = true := aw3
  have H3 := Lib.hid h3
  clear h3
  rw [H3.out]
  go_wp2_with fail
  refine (Token_any _ _ (by decide)).mono ?_
  rintro e w' ⟨rfl, rfl⟩
  have h4 : Lk.tokL (ByteArray.mk #[]).data.toList = false := aw4
  have H4 := Lib.hid h4
  clear h4
  rw [H4.out]
  go_wp2
  go_ret
  exact ⟨rfl, below_drewN hb n⟩

/-- a slice of texts: what its cells hold -/
def SRow (w : World) (B : Nat) (A : Option Addr) (xs : List ByteArray) : Prop :=
  ∀ j x, xs[j]? = some x → ∃ ad, A = some ad ∧ ad.block < B ∧ w.cell? (ad.add j) = some (.string x)
theorem SRow.below {w w' : World} {B : Nat} {A : Option Addr} {xs : List ByteArray} (h : SRow w B A xs) (hb : Below B w w') : SRow w' B A xs := by
  intro j x hj
  obtain ⟨ad, e, hB, hc⟩ := h j x hj
  exact ⟨ad, e, hB, (hb.cell (p := ad.add j) (by unfold Addr.add; split <;> exact hB)).trans hc⟩

theorem SRow.one (w : World) (x : ByteArray) (t : TypeId) : SRow (w.alloc (.cells #[.string x] t)) (w.heap.size + 1) (some ⟨w.heap.size, 0, none⟩) [x] := by
  intro j y hj
  match j, hj with
  | 0, hj => simp at hj; subst hj; exact ⟨_, rfl, by simp, by simp [Addr.add]⟩
theorem SRow.two (w : World) (x y : ByteArray) (t : TypeId) : SRow (w.alloc (.cells #[.string x, .string y] t)) (w.heap.size + 1) (some ⟨w.heap.size, 0, none⟩) [x, y] := by
  intro j z hj
  match j, hj with
  | 0, hj => simp at hj; subst hj; exact ⟨_, rfl, by simp, by simp [Addr.add]⟩
  | 1, hj => simp at hj; subst hj; exact ⟨_, rfl, by simp, by simp [Addr.add]⟩

set_option maxHeartbeats 400000 in
theorem Long_any (n0 : Int) (A : Option Addr) (len c : Nat) (xs : List ByteArray) (w : World) (B : Nat) (h0 : 0 ≤ n0) (hn : n0 ≤ 1000000000) (hlen : len = xs.length) (hx : SRow w B A xs) (hl : xs.length ≤ maxLen) (hs : ∀ x ∈ xs, x.size ≤ maxLen) :
    Calls Try.prog 10 #[.int .i64 n0, .slice A len c] w fun e w' => e = .returned (.bool (Lk.longL n0.toNat (xs.map ByteArray.size))) ∧ w = w' := by
  unfold maxLen at hl
  subst hlen
  obtain ⟨n, rfl⟩ := Int.eq_ofNat_of_zero_le h0
  rw [Int.toNat_natCast]
  have HX := Lib.hid hx
  have HS := Lib.hid hs
  clear hx hs
  go_enter Try.func10, Try.ntmps10
  go_wp2
  go_loop [0, 5] (fun m i => ∃ k q : Nat, k ≤ xs.length ∧ i = .int .i64 k ∧ m = .int .i64 q ∧ q ≤ n ∧ Lk.longL n (xs.map ByteArray.size) = Lk.longL q ((xs.drop k).map ByteArray.size)) (fun _ i => xs.length - (intOf i).toNat)
  case atStart => exact ⟨0, n, Nat.zero_le _, rfl, rfl, Nat.le_refl _, rfl⟩
  case round =>
    obtain ⟨k, q, hk, rfl, rfl, hq, he⟩ := hrel
    have HE := Lib.hid he
    clear he
    by_cases hlt : k < xs.length
    · obtain ⟨ad, hA, hB, hc⟩ := HX.out k xs[k] (List.getElem?_eq_getElem hlt)
      have hz := HS.out xs[k] (List.getElem_mem hlt)
      unfold maxLen at hz
      have HD : Hid (xs.drop k = xs[k] :: xs.drop (k + 1)) := List.drop_eq_getElem_cons hlt
      generalize xs[k] = x at *
      subst hA
      by_cases hz2 : q ≤ x.size
      · go_wp2
        go_ret
        exact ⟨ret_bool (by rw [HE.out, HD.out, List.map_cons, Lk.longL, if_pos hz2]), rfl⟩
      · go_wp2
        go_round
        case rel =>
          refine ⟨k + 1, q - x.size - 1, by omega, by go_num, by go_num, by omega, ?_⟩
          rw [HE.out, HD.out, List.map_cons, Lk.longL, if_neg hz2]
        case measure => simp [intOf]; omega
    · go_wp2
      go_ret
      exact ⟨ret_bool (by rw [HE.out, List.drop_of_length_le (by omega)]; rfl), rfl⟩
end Go.Proofs.Ytihpnancplfkhaa
