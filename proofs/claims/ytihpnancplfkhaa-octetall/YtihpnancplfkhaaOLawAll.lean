/-
  The walk of the law OctetAll: whatever the texts, it returns true, and nothing that was there has turned. Conditions: the arguments are such as any that come in.
-/
import Derived.Test.YtihpnancplfkhaaORef3
import Derived.Test.YtihpnancplfkhaaOArgs
namespace Go.Proofs.Ytihpnancplfkhaa
open Go.RowKit

def digN (l : List UInt8) : Int := if Lk.digL l then (Lk.sat (Lk.valL l) : Int) else 0
theorem digRes_eq (l : List UInt8) : digRes l = .tuple #[.int .u64 (digN l), .bool (Lk.digL l)] := rfl

set_option maxHeartbeats 2000000 in
theorem walk_OctetAll (a0 a1 : ByteArray) (a2 : Option Addr) (c2 : Nat) (x2 : List ByteArray) (w : World) (h0 : a0.size ≤ maxLen) (h1 : a1.size ≤ maxLen) (h2 : SArg w a2 c2 x2) :
    Calls Try.prog 3 #[.string a0, .string a1, .slice a2 x2.length c2] w fun e w' => e = .returned (.bool true) ∧ Below w.heap.size w w' := by
  obtain ⟨hr, hz, hlc, hcm⟩ := h2
  have HR := Lib.hid hr
  have HZ := Lib.hid hz
  have hx2 : x2.length ≤ maxLen := by omega
  have HR1 : Hid (∀ o, SRow (w.alloc o) w.heap.size a2 x2) := fun o => hr.below ((Below.refl _ _).alloc (Nat.le_refl _) o)
  clear hr hz
  cases hl : Lk.longL 2000 [a0.size, a1.size]
  · have hsz : a0.size + a1.size ≤ 2000 := by have := Lk.long_no _ _ hl; simp at this; omega
    have HL : Hid (Lk.longL (2000 : Int).toNat ([a0, a1].map ByteArray.size) = false) := hl
    clear hl
    cases hl2 : Lk.longL 2000 (x2.map ByteArray.size)
    · have hs2 : (x2.map ByteArray.size).sum + x2.length ≤ 2000 := by have := Lk.long_no _ _ hl2; simpa using this
      have HL2 : Hid (Lk.longL (2000 : Int).toNat (x2.map ByteArray.size) = false) := hl2
      have HS2 := Lib.hid hs2
      have hlen2 : x2.length ≤ 2000 := by omega
      have hjl : (Lk.joinL (dat x2)).length ≤ 4000 := by
        have h := Lk.join_len (dat x2)
        rw [dat_sum, dat_len] at h; omega
      clear hl2 hs2
      obtain ⟨x, hx⟩ : ∃ x : ByteArray, x = ⟨(Lk.lower a0.data.toList).toArray⟩ := ⟨_, rfl⟩
      obtain ⟨t, ht⟩ : ∃ t : ByteArray, t = ⟨(Lk.trimL a0.data.toList).toArray⟩ := ⟨_, rfl⟩
      have HX := Lib.hid hx
      have HT := Lib.hid ht
      obtain ⟨j, hj⟩ : ∃ j : ByteArray, j = mk (Lk.joinL (dat x2)) := ⟨_, rfl⟩
      have HJ := Lib.hid hj
      have hn0 : (Lk.splitL a0.data.toList).length ≤ a0.size + 1 := by have := Lk.split_len a0.data.toList; simpa using this
      clear hx ht hj
      go_enter Try.func3, Try.ntmps3
      go_wp2_with fail
      refine (Long_any _ _ _ _ [a0, a1] _ _ (by decide) (by decide) rfl (SRow.two _ _ _ _) (by simp [maxLen]) (by simpa using ⟨h0, h1⟩)).mono ?_
      rintro e w' ⟨rfl, rfl⟩
      rw [HL.out]
      go_wp2_with fail
      refine (Long_any _ _ _ _ x2 _ _ (by decide) (by decide) rfl (HR1.out _) hx2 HZ.out).mono ?_
      rintro e w' ⟨rfl, rfl⟩
      rw [HL2.out]
      go_wp2_with fail
      refine (Digits_any _ _ h0).mono ?_
      rintro e w' ⟨rfl, rfl⟩
      rw [digRes_eq]
      go_wp2_with fail
      refine (refDigits_any _ _ h0).mono ?_
      rintro e w' ⟨rfl, rfl⟩
      rw [digRes_eq]
      go_wp2_with fail
      refine (Lower_any _ _ h0).mono ?_
      rintro e w1 ⟨rfl, hb1⟩
      rw [← HX.out]
      have B1 : Hid (Below w.heap.size w w1) := (((Below.refl _ _).alloc (Nat.le_refl _) _).trans (hb1.mono (by simp)))
      clear hb1
      go_wp2_with fail
      refine (refLower_any _ _ h0).mono ?_
      rintro e w2 ⟨rfl, hb2⟩
      rw [← HX.out]
      have B2 : Hid (Below w.heap.size w w2) := B1.out.trans (hb2.mono B1.out.size)
      clear hb2
      go_wp2_with fail
      refine (Fold_any _ _ _ h0 h1).mono ?_
      rintro e w' ⟨rfl, n, rfl⟩
      go_wp2_with fail
      refine (refFold_any _ _ _ h0 h1).mono ?_
      rintro e w3 ⟨rfl, hb3⟩
      have B3 : Hid (Below w.heap.size w w3) := (below_drewN B2.out n).trans (hb3.mono B2.out.size)
      clear hb3
      go_wp2_with fail
      refine (Token_any _ _ h0).mono ?_
      rintro e w' ⟨rfl, rfl⟩
      go_wp2_with fail
      refine (refToken_any _ _ h0).mono ?_
      rintro e w' ⟨rfl, rfl⟩
      go_wp2_with fail
      refine (Trim_as _ t _ h0 HT.out).mono ?_
      rintro e w' ⟨rfl, rfl⟩
      go_wp2_with fail
      refine (refTrim_as _ t _ h0 HT.out).mono ?_
      rintro e w' ⟨rfl, rfl⟩
      go_wp2_with fail
      refine (Split_any _ _ (by omega)).mono ?_
      rintro e w4 ⟨v4, rfl, ho4, hb4⟩
      obtain ⟨A4, c4, e4, r4⟩ := srow_of ho4
      have R4 := Lib.hid r4
      have B4 : Hid (Below w.heap.size w w4) := B3.out.trans (hb4.mono B3.out.size)
      clear r4 ho4 hb4
      subst e4
      go_wp2_with fail
      refine (refSplit_any _ _ (by omega)).mono ?_
      rintro e w5 ⟨v5, rfl, ho5, hb5⟩
      obtain ⟨A5, c5, e5, r5⟩ := srow_of ho5
      have R5 := Lib.hid r5
      have R4' : Hid (SRow w5 w4.heap.size A4 ((Lk.splitL a0.data.toList).map mk)) := R4.out.below hb5
      have B5 : Hid (Below w.heap.size w w5) := B4.out.trans (hb5.mono B4.out.size)
      clear r5 ho5 hb5
      subst e5
      go_wp2_with fail
      refine (Texts_same _ _ _ _ _ _ _ _ _ _ (by simp) (by simp) (by simp [maxLen]; omega) R4'.out R5.out).mono ?_
      rintro e w' ⟨rfl, n2, rfl⟩
      have B6 : Hid (Below w.heap.size w (w5.drewN n2)) := below_drewN B5.out n2
      generalize w5.drewN n2 = w6 at *
      have R6 := Lib.hid (HR.out.below B6.out)
      go_wp2_with fail
      refine (Join_any _ _ _ w.heap.size _ _ rfl R6.out B6.out.size hlc (by omega) (by omega)).mono ?_
      rintro e w7 ⟨rfl, hb7⟩
      rw [← HJ.out]
      have R7 := Lib.hid (R6.out.below (hb7.mono B6.out.size))
      have B7 : Hid (Below w.heap.size w w7) := B6.out.trans (hb7.mono B6.out.size)
      clear hb7
      go_wp2_with fail
      refine (refJoin_any _ _ _ _ _ _ rfl R7.out (by have := HS2.out; omega)).mono ?_
      rintro e w' ⟨rfl, rfl⟩
      rw [← HJ.out]
      go_wp2_with fail
      refine (awake_any _).mono ?_
      rintro e w8 ⟨rfl, hb8⟩
      go_wp2
      go_ret
      exact ⟨rfl, B7.out.trans (hb8.mono B7.out.size)⟩
    · have HL2 : Hid (Lk.longL (2000 : Int).toNat (x2.map ByteArray.size) = true) := hl2
      clear hl2
      go_enter Try.func3, Try.ntmps3
      go_wp2_with fail
      refine (Long_any _ _ _ _ [a0, a1] _ _ (by decide) (by decide) rfl (SRow.two _ _ _ _) (by simp [maxLen]) (by simpa using ⟨h0, h1⟩)).mono ?_
      rintro e w' ⟨rfl, rfl⟩
      rw [HL.out]
      go_wp2_with fail
      refine (Long_any _ _ _ _ x2 _ _ (by decide) (by decide) rfl (HR1.out _) hx2 HZ.out).mono ?_
      rintro e w' ⟨rfl, rfl⟩
      rw [HL2.out]
      go_wp2_with fail
      refine (awake_any _).mono ?_
      rintro e w' ⟨rfl, hb⟩
      go_wp2
      go_ret
      exact ⟨rfl, ((Below.refl _ _).alloc (Nat.le_refl _) _).trans (hb.mono (by simp))⟩
  · have HL : Hid (Lk.longL (2000 : Int).toNat ([a0, a1].map ByteArray.size) = true) := hl
    clear hl
    go_enter Try.func3, Try.ntmps3
    go_wp2_with fail
    refine (Long_any _ _ _ _ [a0, a1] _ _ (by decide) (by decide) rfl (SRow.two _ _ _ _) (by simp [maxLen]) (by simpa using ⟨h0, h1⟩)).mono ?_
    rintro e w' ⟨rfl, rfl⟩
    rw [HL.out]
    go_wp2_with fail
    refine (awake_any _).mono ?_
    rintro e w' ⟨rfl, hb⟩
    go_wp2
    go_ret
    exact ⟨rfl, ((Below.refl _ _).alloc (Nat.le_refl _) _).trans (hb.mono (by simp))⟩
end Go.Proofs.Ytihpnancplfkhaa
