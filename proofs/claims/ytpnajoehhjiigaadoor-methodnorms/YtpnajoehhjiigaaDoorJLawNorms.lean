/-
  The walk of the law MethodNorms: whatever the text, it returns true, and nothing that was there has turned. Conditions: the argument is such as any that comes in; the tables are as the program's text lays them.
-/
import Derived.Test.YtpnajoehhjiigaaDoorJAwake
namespace Go.Proofs.YtpnajoehhjiigaaDoor
open Go.RowKit

set_option maxHeartbeats 2000000 in
theorem walk_MethodNorms (s : ByteArray) (w : World) (hs : s.size ≤ maxLen) (he : MEnv w) :
    Calls Tryd.prog 5 #[.string s] w fun e w' => e = .returned (.bool true) ∧ Below w.heap.size w w' := by
  have HE := Lib.hid he
  clear he
  cases hl : Lk.longL 200 [s.size]
  rotate_left
  · have HL : Hid (Lk.longL (200 : Int).toNat ([s].map ByteArray.size) = true) := hl
    clear hl
    go_enter Tryd.func5, Tryd.ntmps5
    go_wp2_with fail
    refine (Long_any _ _ _ _ [s] _ _ (by decide) (by decide) rfl (SRow.one_at _ _ _ _ rfl) (by simp [maxLen]) (by simpa using hs)).mono ?_
    rintro e w1 ⟨rfl, hw⟩
    rw [HL.out]
    have HB1 : Hid (Below w.heap.size w w1) := by rw [← hw]; exact (Below.refl _ _).alloc (Nat.le_refl _) _
    clear hw
    go_wp2_with fail
    refine (awake5_from HE.out HB1.out).mono ?_
    rintro e w2 ⟨rfl, hb⟩
    go_wp2
    go_ret
    exact ⟨rfl, hb⟩
  have HL : Hid (Lk.longL (200 : Int).toNat ([s].map ByteArray.size) = false) := hl
  clear hl
  obtain ⟨r, hr⟩ : ∃ r, mk (Lk.normL s.data.toList) = r := ⟨_, rfl⟩
  have hrd : r.data.toList = Lk.normL s.data.toList := by rw [← hr, mk_data]
  have hrs : r.size = s.size := by rw [← hr, mk_size, Lk.norm_len]; simp
  have hrm : r.size ≤ maxLen := by rw [hrs]; exact hs
  have HNr : Hid (mk (Lk.normL r.data.toList) = r) := by show _ = _; rw [hrd, Lk.norm_norm, hr]
  obtain ⟨b, hb⟩ : ∃ b, Lk.barsL s.data.toList = b := ⟨_, rfl⟩
  have HBr : Hid (Lk.barsL r.data.toList = b) := by show _ = _; rw [hrd, Lk.bars_norm, hb]
  obtain ⟨c, hc⟩ : ∃ c, Lk.methI s.data.toList = c := ⟨_, rfl⟩
  have HCr : Hid (Lk.methI r.data.toList = c) := by show _ = _; rw [hrd, Lk.meth_norm, hc]
  obtain ⟨d, hd⟩ : ∃ d, Lk.safeL s.data.toList = d := ⟨_, rfl⟩
  have HDr : Hid (Lk.safeL r.data.toList = d) := by show _ = _; rw [hrd, Lk.safe_norm, hd]
  have hsafe : d = false ∨ (d = true ∧ c = 0) := by
    cases d
    · exact .inl rfl
    · exact .inr ⟨rfl, by rw [← hc]; exact Lk.safe_ok hd⟩
  have HR := Lib.hid hr
  have HBa := Lib.hid hb
  have HC := Lib.hid hc
  have HD := Lib.hid hd
  have HM := Lib.hid hrm
  clear hr hrd hb hc hd hrm
  go_enter Tryd.func5, Tryd.ntmps5
  go_wp2_with fail
  refine (Long_any _ _ _ _ [s] _ _ (by decide) (by decide) rfl (SRow.one_at _ _ _ _ rfl) (by simp [maxLen]) (by simpa using hs)).mono ?_
  rintro e w1 ⟨rfl, hw⟩
  rw [HL.out]
  have HB1 : Hid (Below w.heap.size w w1) := by rw [← hw]; exact (Below.refl _ _).alloc (Nat.le_refl _) _
  clear hw
  go_wp2_with fail
  refine (Norm_any s _ hs (HE.out.below HB1.out)).mono ?_
  rintro e w2 ⟨rfl, n2, hw2⟩
  rw [HR.out]
  have HB2 : Hid (Below w.heap.size w w2) := by rw [hw2]; exact below_drewN HB1.out n2
  clear hw2
  go_wp2_with fail
  refine (Norm_any r _ HM.out (HE.out.below HB2.out)).mono ?_
  rintro e w3 ⟨rfl, n3, hw3⟩
  rw [HNr.out]
  have HB3 : Hid (Below w.heap.size w w3) := by rw [hw3]; exact below_drewN HB2.out n3
  clear hw3
  go_wp2_with fail
  refine (Safe_any r _ HM.out (HE.out.below HB3.out)).mono ?_
  rintro e w4 ⟨rfl, n4, hw4⟩
  rw [HDr.out]
  have HB4 : Hid (Below w.heap.size w w4) := by rw [hw4]; exact below_drewN HB3.out n4
  clear hw4
  go_wp2_with fail
  refine (Safe_any s _ hs (HE.out.below HB4.out)).mono ?_
  rintro e w5 ⟨rfl, n5, hw5⟩
  rw [HD.out]
  have HB5 : Hid (Below w.heap.size w w5) := by rw [hw5]; exact below_drewN HB4.out n5
  clear hw5
  go_wp2_with fail
  refine (Bars_any r _ HM.out (HE.out.below HB5.out)).mono ?_
  rintro e w6 ⟨rfl, n6, hw6⟩
  rw [HBr.out]
  have HB6 : Hid (Below w.heap.size w w6) := by rw [hw6]; exact below_drewN HB5.out n6
  clear hw6
  go_wp2_with fail
  refine (Bars_any s _ hs (HE.out.below HB6.out)).mono ?_
  rintro e w7 ⟨rfl, n7, hw7⟩
  rw [HBa.out]
  have HB7 : Hid (Below w.heap.size w w7) := by rw [hw7]; exact below_drewN HB6.out n7
  clear hw7
  go_wp2_with fail
  refine (Check_any r _ HM.out (HE.out.below HB7.out)).mono ?_
  rintro e w8 ⟨rfl, n8, hw8⟩
  rw [HCr.out]
  have HB8 : Hid (Below w.heap.size w w8) := by rw [hw8]; exact below_drewN HB7.out n8
  clear hw8
  go_wp2_with fail
  refine (Check_any s _ hs (HE.out.below HB8.out)).mono ?_
  rintro e w9 ⟨rfl, n9, hw9⟩
  rw [HC.out]
  have HB9 : Hid (Below w.heap.size w w9) := by rw [hw9]; exact below_drewN HB8.out n9
  clear hw9
  go_wp2_with fail
  refine (Safe_any s _ hs (HE.out.below HB9.out)).mono ?_
  rintro e wa ⟨rfl, na, hwa⟩
  rw [HD.out]
  have HBA : Hid (Below w.heap.size w wa) := by rw [hwa]; exact below_drewN HB9.out na
  clear hwa
  rcases hsafe with rfl | ⟨rfl, rfl⟩
  · go_wp2_with fail
    refine (awake5_from HE.out HBA.out).mono ?_
    rintro e wb ⟨rfl, hb⟩
    go_wp2
    go_ret
    exact ⟨rfl, hb⟩
  · go_wp2_with fail
    refine (Check_any s _ hs (HE.out.below HBA.out)).mono ?_
    rintro e wb ⟨rfl, nb, hwb⟩
    rw [HC.out]
    have HBB : Hid (Below w.heap.size w wb) := by rw [hwb]; exact below_drewN HBA.out nb
    clear hwb
    go_wp2_with fail
    refine (awake5_from HE.out HBB.out).mono ?_
    rintro e wc ⟨rfl, hb⟩
    go_wp2
    go_ret
    exact ⟨rfl, hb⟩
end Go.Proofs.YtpnajoehhjiigaaDoor
