/-
  The walk of the law OctetParts: whatever the two texts, it returns true, and nothing that was there has turned. Conditions: the texts' sizes are such as any text's.
-/
import Derived.Test.YtihpnancplfkhaaOWords
namespace Go.Proofs.Ytihpnancplfkhaa
open Go.RowKit

theorem sv_one (l : List (List UInt8)) : ∀ u ∈ l.map sv, u.oneCell' = true := by
  intro u hu
  obtain ⟨x, _, rfl⟩ := List.mem_map.1 hu
  rfl

set_option maxHeartbeats 1000000 in
theorem walk_OctetParts (a0 a1 : ByteArray) (w : World) (h0 : a0.size ≤ maxLen) (h1 : a1.size ≤ maxLen) :
    Calls Try.prog 9 #[.string a0, .string a1] w fun e w' => e = .returned (.bool true) ∧ Below w.heap.size w w' := by
  cases hl : Lk.longL 2000 [a0.size, a1.size]
  · have hsz : a0.size + a1.size ≤ 2000 := by have := Lk.long_no _ _ hl; simp at this; omega
    have HL : Hid (Lk.longL (2000 : Int).toNat ([a0, a1].map ByteArray.size) = false) := hl
    clear hl
    obtain ⟨i0, hi, hz0, hz1, hz2⟩ := info_parts infoS
    have hn0 : (Lk.splitL a0.data.toList).length ≤ a0.size + 1 := by have := Lk.split_len a0.data.toList; simpa using this
    have hn1 : (Lk.splitL a1.data.toList).length ≤ a1.size + 1 := by have := Lk.split_len a1.data.toList; simpa using this
    go_enter Try.func9, Try.ntmps9
    go_wp2_with fail
    refine (Long_any _ _ _ _ [a0, a1] _ _ (by decide) (by decide) rfl (SRow.two _ _ _ _) (by simp [maxLen]) (by simpa using ⟨h0, h1⟩)).mono ?_
    rintro e w' ⟨rfl, rfl⟩
    rw [HL.out]
    go_wp2_with fail
    refine (Split_any _ _ (by omega)).mono ?_
    rintro e w1 ⟨v1, rfl, ho1, hb1⟩
    have B1 : Hid (Below w.heap.size w w1) := (((Below.refl _ _).alloc (Nat.le_refl _) _).trans (hb1.mono (by simp)))
    have hw1 : w.heap.size ≤ w1.heap.size := B1.out.size
    clear hb1
    go_wp2_with (at_builtin; refine wpList_append_own_own rfl (.const (.slice none 0 0)) (.tmp 12) 22 rfl w.heap.size 9 i0 (.string ⟨#[]⟩) 1 16 Try.underlying22 hi hz0 hz1 hz2 rfl (by decide) _ 0 [] rfl (World.ownsRow_nil _ _ _ _) v1 _ _ _ rfl ho1 (sv_one _) ?c1 ?c2 ?c3 ?_)
    case c1 => unfold maxLen; omega
    case c2 => omega
    case c3 => exact hw1
    intro v2 w2 ho2 hg2
    have B2 : Hid (Below w.heap.size w w2) := B1.out.grown hg2 hw1 (by intro k hk; simp [Value.ownBlock] at hk)
    have hw2 : w.heap.size ≤ w2.heap.size := B2.out.size
    have O2 := Lib.hid ho2
    clear ho1 ho2 hg2 hw1
    go_wp2_with fail
    refine (Split_any _ _ (by omega)).mono ?_
    rintro e w3 ⟨v3, rfl, ho3, hb3⟩
    have ho2' := ownsRow_below O2.out hb3
    have B3 : Hid (Below w.heap.size w w3) := B2.out.trans (hb3.mono hw2)
    have hw3 : w.heap.size ≤ w3.heap.size := B3.out.size
    clear hb3
    go_wp2_with (at_builtin; refine wpList_append_own_own rfl (.tmp 13) (.tmp 15) 22 rfl w.heap.size 9 i0 (.string ⟨#[]⟩) 1 16 Try.underlying22 hi hz0 hz1 hz2 rfl (by decide) _ _ _ rfl ho2' v3 _ _ _ rfl ho3 (sv_one _) ?d1 ?d2 ?d3 ?_)
    case d1 => unfold maxLen; omega
    case d2 => omega
    case d3 => exact hw3
    intro v4 w4 ho4 hg4
    have B4 : Hid (Below w.heap.size w w4) := B3.out.grown hg4 hw3 (fun k hk => (ho2'.lt k hk).1)
    have hw4 : w.heap.size ≤ w4.heap.size := B4.out.size
    have O4 : Hid (w4.ownsRow w.heap.size 9 1 v4 (Lk.splitL a0.data.toList ++ Lk.splitL a1.data.toList).length ((Lk.splitL a0.data.toList ++ Lk.splitL a1.data.toList).map sv)) := by
      show World.ownsRow _ _ _ _ _ _ _
      rw [List.length_append, List.map_append]; exact ho4
    clear ho2' ho3 ho4 hg4
    obtain ⟨A4, c4, e4, r4⟩ := srow_of O4.out
    have R4 := Lib.hid r4
    clear r4
    subst e4
    go_wp2_with fail
    refine (Split_any _ _ (by have : (ByteArray.mk #[44]).size = 1 := rfl; simp [this]; omega)).mono ?_
    rintro e w5 ⟨v5, rfl, ho5, hb5⟩
    have hd : (a0 ++ (⟨#[44]⟩ : ByteArray) ++ a1).data.toList = a0.data.toList ++ 44 :: a1.data.toList := by simp
    rw [hd, Lk.split_mid] at ho5
    obtain ⟨A5, c5, e5, r5⟩ := srow_of ho5
    have R5 := Lib.hid r5
    have B5 : Hid (Below w.heap.size w w5) := B4.out.trans (hb5.mono hw4)
    have R4' : Hid (SRow w5 w4.heap.size A4 ((Lk.splitL a0.data.toList ++ Lk.splitL a1.data.toList).map mk)) := R4.out.below hb5
    clear r5 hd ho5 hb5
    subst e5
    go_wp2_with fail
    refine (Texts_same _ _ _ _ _ _ _ _ _ _ (by simp) (by simp) (by simp [maxLen]; omega) R5.out R4'.out).mono ?_
    rintro e w6 ⟨rfl, n, rfl⟩
    go_wp2_with fail
    refine (awake_any _).mono ?_
    rintro e w7 ⟨rfl, hb7⟩
    go_wp2
    go_ret
    exact ⟨rfl, (below_drewN B5.out n).trans (hb7.mono B5.out.size)⟩
  · have HL : Hid (Lk.longL (2000 : Int).toNat ([a0, a1].map ByteArray.size) = true) := hl
    clear hl
    go_enter Try.func9, Try.ntmps9
    go_wp2_with fail
    refine (Long_any _ _ _ _ [a0, a1] _ _ (by decide) (by decide) rfl (SRow.two _ _ _ _) (by simp [maxLen]) (by simpa using ⟨h0, h1⟩)).mono ?_
    rintro e w' ⟨rfl, rfl⟩
    rw [HL.out]
    go_wp2_with fail
    refine (awake_any _).mono ?_
    rintro e w' ⟨rfl, hb⟩
    go_wp2
    go_ret
    exact ⟨rfl, ((Below.refl _ _).alloc (Nat.le_refl _) _).trans (hb.mono (by simp))⟩
end Go.Proofs.Ytihpnancplfkhaa
