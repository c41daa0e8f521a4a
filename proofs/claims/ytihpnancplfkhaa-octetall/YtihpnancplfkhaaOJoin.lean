/-
  Contracts of octet's Join and of the statements' helper In, over this seat's program. Conditions: the texts lie where the slice says; what is joined has at most 2^40 bytes.
-/
import Derived.Test.YtihpnancplfkhaaOWords
import Derived.Test.YtihpnancplfkhaaOMath2
import Derived.Lib.Join
namespace Go.Proofs.Ytihpnancplfkhaa
open Go.RowKit

theorem sum_data (xs : List ByteArray) : ((xs.map (·.data.toList)).map List.length).sum = (xs.map ByteArray.size).sum := by
  rw [List.map_map]; congr 1
/-- the texts' bytes -/
def dat (xs : List ByteArray) : List (List UInt8) := xs.map (·.data.toList)
theorem dat_snoc (xs : List ByteArray) (x : ByteArray) : dat (xs ++ [x]) = dat xs ++ [x.data.toList] := by simp [dat]
theorem dat_len (xs : List ByteArray) : (dat xs).length = xs.length := by simp [dat]
theorem dat_sum (xs : List ByteArray) : ((dat xs).map List.length).sum = (xs.map ByteArray.size).sum := sum_data xs

theorem join_eq : ∀ l : List (List UInt8), Lib.join l [44, 32] = Lk.joinL l
  | [] => rfl
  | [x] => by rw [Lib.join_one]; rfl
  | x :: y :: r => by
    have := join_eq (y :: r)
    rw [Lib.join_cons] at this ⊢
    rw [Lk.joinL, ← this, Lib.joinTail, Lib.joinTail]
    simp

set_option maxHeartbeats 400000 in
theorem Join_any (A : Option Addr) (len c B : Nat) (xs : List ByteArray) (w : World) (hlen : len = xs.length) (hx : SRow w B A xs) (hB : B ≤ w.heap.size) (hc : xs.length ≤ c) (hN : xs.length ≤ 1099511627776) (hj : (Lk.joinL (dat xs)).length ≤ 1099511627776) :
    Calls Try.prog 25 #[.slice A len c] w fun e w' => e = .returned (.string (mk (Lk.joinL (dat xs)))) ∧ Below w.heap.size w w' := by
  subst hlen
  by_cases h0 : xs = []
  · subst h0
    go_enter Try.func25, Try.ntmps25
    go_wp2_with fail
    refine (Try.strings_Join_none _ _ _ _).mono ?_
    rintro e w' ⟨rfl, rfl⟩
    go_wp2
    go_ret
    exact ⟨rfl, Below.refl _ _⟩
  · obtain ⟨x0, r, rfl⟩ := List.exists_cons_of_ne_nil h0
    obtain ⟨⟨bk, o, spot⟩, rfl, hb, hc0⟩ := hx 0 x0 rfl
    have hs : spot = none := by simpa [Addr.add] using World.cell?_spot hc0
    subst hs
    have hcells : ∀ (j : Nat) x, (x0 :: r)[j]? = some x → w.cell? ⟨bk, o + j, none⟩ = some (.string x) := by
      intro j x hj
      obtain ⟨ad, e, _, hcj⟩ := hx j x hj
      injection e with e
      subst e
      have e2 : (⟨bk, o, none⟩ : Addr).add j = ⟨bk, o + j, none⟩ := by unfold Addr.add; split <;> simp_all
      rw [← e2]; exact hcj
    have hbk : bk < w.heap.size := Nat.lt_of_lt_of_le hb hB
    have HC := Lib.hid hcells
    have HE := Lib.hid (join_eq (dat (x0 :: r)))
    clear hcells hx hc0 h0
    generalize x0 :: r = xs at *
    go_enter Try.func25, Try.ntmps25
    go_wp2_with fail
    refine (Try.strings_Join bk o c xs ⟨#[44, 32]⟩ w HC.out hbk (by omega) hc (by show (Lib.join (dat xs) [44, 32]).length ≤ _; rw [HE.out]; omega)).mono ?_
    rintro e w' ⟨rfl, hb⟩
    go_wp2
    go_ret
    exact ⟨ret_string (by show (⟨(Lib.join (dat xs) [44, 32]).toArray⟩ : ByteArray) = _; rw [HE.out]; rfl), hb⟩

set_option maxHeartbeats 400000 in
theorem In_any (c : Int) (s : ByteArray) (w : World) (hs : s.size ≤ maxLen) :
    Calls Try.prog 30 #[.int .u8 c, .string s] w fun e w' => e = .returned (.bool (Lk.inL c s.data.toList)) ∧ w = w' := by
  unfold maxLen at hs
  go_enter Try.func30, Try.ntmps30
  go_wp2
  go_loop [5] (fun i => ∃ k : Nat, k ≤ s.size ∧ i = .int .i64 k ∧ (s.data.toList.take k).any (fun b => (b.toNat : Int) == c) = false) (fun i => s.size - (intOf i).toNat)
  case atStart => exact ⟨0, Nat.zero_le _, rfl, rfl⟩
  case round =>
    obtain ⟨k, hk, rfl, ha⟩ := hrel
    have HA := Lib.hid ha
    clear ha
    by_cases hlt : k < s.size
    · cases hc : ((s[k].toNat : Int) == c)
      · have HC := Lib.hid hc
        go_wp2
        go_round
        case rel => exact ⟨k + 1, by omega, by go_num, Lk.any_no hlt HA.out HC.out⟩
        case measure => simp [intOf]; omega
      · have HC := Lib.hid hc
        go_wp2
        go_ret
        exact ⟨ret_bool (by rw [Lk.inL, Lk.any_yes hlt HC.out]), rfl⟩
    · go_wp2
      go_ret
      exact ⟨ret_bool (by have := HA.out; rw [Lk.take_all s k (by omega)] at this; rw [Lk.inL, this]), rfl⟩
end Go.Proofs.Ytihpnancplfkhaa
