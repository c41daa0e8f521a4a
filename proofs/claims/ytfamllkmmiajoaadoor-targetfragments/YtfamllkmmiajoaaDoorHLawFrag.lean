/-
  The walk of the law TargetFragments: whatever the texts, it returns true, and nothing that was there has turned. Conditions: the arguments are such as any that come in; the library's variables are as they are laid.
-/
import Derived.Test.YtfamllkmmiajoaaDoorHAwake
import Derived.Test.YtfamllkmmiajoaaDoorOAwake
namespace Go.Proofs.YtfamllkmmiajoaaDoor
open Go.RowKit

theorem hash_mk (s t : ByteArray) : s ++ ByteArray.mk #[35] ++ t = mk (s.data.toList ++ 35 :: t.data.toList) := by
  show s ++ mk [35] ++ t = _
  conv => lhs; rw [← mk_eq s, ← mk_eq t]
  rw [mk_append, mk_append, List.append_assoc]; rfl

set_option maxHeartbeats 2000000 in
theorem walk_TargetFragments (s t : ByteArray) (w : World) (hs : s.size ≤ maxLen) (ht : t.size ≤ maxLen) (he : Env w) :
    Calls Tryd.prog 8 #[.string s, .string t] w fun e w' => e = .returned (.bool true) ∧ Below w.heap.size w w' := by
  have HE := Lib.hid he
  clear he
  cases hl : Lk.longL 512 [s.size, t.size]
  · have hsum := Lk.long_no _ _ hl
    simp at hsum
    have HL : Hid (Lk.longL (512 : Int).toNat ([s, t].map ByteArray.size) = false) := hl
    clear hl
    have hsl : s.data.toList.length = s.size := by simp
    have htl : t.data.toList.length = t.size := by simp
    have hfr := tgt_frag s.data.toList t.data.toList (by rw [List.length_append, List.length_cons]; omega)
    have HFR : Hid (tgtV (s ++ ByteArray.mk #[35] ++ t).data.toList = tgtV s.data.toList) := by
      show _ = _; rw [hash_mk, mk_data, tgtV, hfr]; rfl
    have hcz : (s ++ ByteArray.mk #[35] ++ t).size ≤ maxLen := by rw [hash_mk, mk_size, List.length_append, List.length_cons]; unfold maxLen; omega
    have HCZ := Lib.hid hcz
    obtain ⟨u, hu⟩ : ∃ u, u = (tgtL s.data.toList).1 := ⟨_, rfl⟩
    obtain ⟨k, hk⟩ : ∃ k, k = (tgtL s.data.toList).2 := ⟨_, rfl⟩
    have HV : Hid (tgtV s.data.toList = .tuple #[.agg #[.string (mk u.sc), .string (mk u.h), .int .i64 u.p, .string (mk u.pa), .string (mk u.q)], .int .i64 k]) := by
      show _ = _; rw [hu, hk]; rfl
    clear hfr hcz hu hk hsl htl
    generalize mk u.sc = A at *
    generalize mk u.h = B at *
    generalize u.p = p at *
    generalize mk u.pa = C at *
    generalize mk u.q = D at *
    go_enter Tryd.func8, Tryd.ntmps8
    go_wp2_with fail
    refine (Long_any _ _ _ _ [s, t] _ _ (by decide) (by decide) rfl (SRow.two_at _ _ _ _ _ rfl) (by simp [maxLen]) (by simpa using ⟨hs, ht⟩)).mono ?_
    rintro e w1 ⟨rfl, hw⟩
    rw [HL.out]
    have HB1 : Hid (Below w.heap.size w w1) := by rw [← hw]; exact (Below.refl _ _).alloc (Nat.le_refl _) _
    clear hw
    go_wp2_with fail
    refine (tParse_any s _ hs (HE.out.below HB1.out)).mono ?_
    rintro e w2 ⟨rfl, hb2⟩
    rw [HV.out]
    have HB2 : Hid (Below w.heap.size w w2) := HB1.out.trans (hb2.mono HB1.out.size)
    have HU2 := Lib.hid (UrlAt.new w2 A B p C D 27)
    have HB2' : Hid (Below w.heap.size w (w2.alloc (.cells #[.string A, .string B, .int .i64 p, .string C, .string D] 27))) := HB2.out.alloc HB2.out.size _
    clear hb2
    go_wp2_with fail
    refine (tParse_any (s ++ ByteArray.mk #[35] ++ t) _ HCZ.out (HE.out.below HB2'.out)).mono ?_
    rintro e w3 ⟨rfl, hb3⟩
    rw [HFR.out, HV.out]
    have hu3 := (HU2.out.below hb3 (by simp)).alloc (.cells #[.string A, .string B, .int .i64 p, .string C, .string D] 27)
    have HB3 : Hid (Below w.heap.size w w3) := HB2'.out.trans (hb3.mono HB2'.out.size)
    have HB3' : Hid (Below w.heap.size w (w3.alloc (.cells #[.string A, .string B, .int .i64 p, .string C, .string D] 27))) := HB3.out.alloc HB3.out.size _
    clear hb3
    obtain ⟨a0, a1, a2, a3, a4⟩ := hu3
    go_wp2_with fail
    refine (awake_from HE.out HB3'.out).mono ?_
    rintro e w4 ⟨rfl, hb⟩
    go_wp2
    go_ret
    exact ⟨rfl, hb⟩
  · have HL : Hid (Lk.longL (512 : Int).toNat ([s, t].map ByteArray.size) = true) := hl
    clear hl
    go_enter Tryd.func8, Tryd.ntmps8
    go_wp2_with fail
    refine (Long_any _ _ _ _ [s, t] _ _ (by decide) (by decide) rfl (SRow.two_at _ _ _ _ _ rfl) (by simp [maxLen]) (by simpa using ⟨hs, ht⟩)).mono ?_
    rintro e w1 ⟨rfl, hw⟩
    rw [HL.out]
    have HB1 : Hid (Below w.heap.size w w1) := by rw [← hw]; exact (Below.refl _ _).alloc (Nat.le_refl _) _
    clear hw
    go_wp2_with fail
    refine (awake_from HE.out HB1.out).mono ?_
    rintro e w2 ⟨rfl, hb⟩
    go_wp2
    go_ret
    exact ⟨rfl, hb⟩
end Go.Proofs.YtfamllkmmiajoaaDoor
