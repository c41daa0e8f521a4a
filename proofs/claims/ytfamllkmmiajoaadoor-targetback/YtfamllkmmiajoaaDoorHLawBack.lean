/-
  The walk of the law TargetBack: whatever the URL and the text, it returns true, and nothing that was there has turned. Conditions: the arguments are such as any that come in; the library's variables are as they are laid.
-/
import Derived.Test.YtfamllkmmiajoaaDoorHWords
namespace Go.Proofs.YtfamllkmmiajoaaDoor
open Go.RowKit

theorem tgt_shown {s h : ByteArray} {p : Int} {pa q t : ByteArray} (hc : (urlOf s h p pa q).ok = true) (ht : t = mk (urlOf s h p pa q).show_) :
    tgtV t.data.toList = .tuple #[.agg #[.string s, .string h, .int .i64 p, .string pa, .string q], .int .i64 0] ∧ t.size ≤ 512 := by
  subst ht
  refine ⟨?_, by rw [mk_size]; exact ushow_len _⟩
  rw [mk_data]
  exact tgtV_of (tgt_show hc)
theorem tShow_as (s h : ByteArray) (p : Int) (pa q t : ByteArray) (w : World) (hh : h.size ≤ maxLen) (hpa : pa.size ≤ 100000) (hq : q.size ≤ 100000) (he : Env w) (ht : t = mk (urlOf s h p pa q).show_) :
    Calls Tryd.prog 19 #[urlV s h p pa q] w fun e w' => e = .returned (.string t) ∧ Below w.heap.size w w' := by rw [ht]; exact tShow_any s h p pa q w hh hpa hq he

set_option maxHeartbeats 4000000 in
theorem walk_TargetBack (s h : ByteArray) (p : Int) (pa q x : ByteArray) (w : World) (hs : s.size ≤ maxLen) (hh : h.size ≤ maxLen) (_hp : (Lit.int .i64 p).wf = true) (hpa : pa.size ≤ maxLen) (hq : q.size ≤ maxLen) (hx : x.size ≤ maxLen) (he : Env w) :
    Calls Tryd.prog 5 #[.agg #[.string s, .string h, .int .i64 p, .string pa, .string q], .string x] w fun e w' => e = .returned (.bool true) ∧ Below w.heap.size w w' := by
  have HE := Lib.hid he
  have HB0 : Hid (Below w.heap.size w (w.alloc (.cells #[.string s, .string h, .int .i64 p, .string pa, .string q] 27))) := (Below.refl _ _).alloc (Nat.le_refl _) _
  have HU0 := Lib.hid (UrlAt.new w s h p pa q 27)
  clear he
  cases hl : Lk.longL 700 [s.size, h.size, pa.size, q.size]
  rotate_left
  · have HL : Hid (Lk.longL (700 : Int).toNat ([s, h, pa, q].map ByteArray.size) = true) := hl
    clear hl
    go_enter Tryd.func5, Tryd.ntmps5
    go_wp2_with fail
    refine (Long_any _ _ _ _ [s, h, pa, q] _ _ (by decide) (by decide) rfl (SRow.four_at _ _ _ _ _ _ _ (by simp)) (by simp [maxLen]) (by simpa using ⟨hs, hh, hpa, hq⟩)).mono ?_
    rintro e w1 ⟨rfl, hw⟩
    rw [HL.out]
    have HB1 : Hid (Below w.heap.size w w1) := by rw [← hw]; exact HB0.out.alloc HB0.out.size _
    clear hw
    go_wp2_with fail
    refine (awake_from HE.out HB1.out).mono ?_
    rintro e w2 ⟨rfl, hb⟩
    go_wp2
    go_ret
    exact ⟨rfl, hb⟩
  have hsum := Lk.long_no _ _ hl
  simp at hsum
  have HL : Hid (Lk.longL (700 : Int).toNat ([s, h, pa, q].map ByteArray.size) = false) := hl
  clear hl
  cases hl2 : Lk.longL 700 [x.size]
  rotate_left
  · have HL2 : Hid (Lk.longL (700 : Int).toNat ([x].map ByteArray.size) = true) := hl2
    clear hl2
    go_enter Tryd.func5, Tryd.ntmps5
    go_wp2_with fail
    refine (Long_any _ _ _ _ [s, h, pa, q] _ _ (by decide) (by decide) rfl (SRow.four_at _ _ _ _ _ _ _ (by simp)) (by simp [maxLen]) (by simpa using ⟨hs, hh, hpa, hq⟩)).mono ?_
    rintro e w1 ⟨rfl, hw⟩
    rw [HL.out]
    have HB1 : Hid (Below w.heap.size w w1) := by rw [← hw]; exact HB0.out.alloc HB0.out.size _
    clear hw
    go_wp2_with fail
    refine (Long_any _ _ _ _ [x] _ _ (by decide) (by decide) rfl (SRow.one_at _ _ _ _ rfl) (by simp [maxLen]) (by simpa using hx)).mono ?_
    rintro e w2 ⟨rfl, hw⟩
    rw [HL2.out]
    have HB2 : Hid (Below w.heap.size w w2) := by rw [← hw]; exact HB1.out.alloc HB1.out.size _
    clear hw
    go_wp2_with fail
    refine (awake_from HE.out HB2.out).mono ?_
    rintro e w3 ⟨rfl, hb⟩
    go_wp2
    go_ret
    exact ⟨rfl, hb⟩
  have hsum2 := Lk.long_no _ _ hl2
  simp at hsum2
  have HL2 : Hid (Lk.longL (700 : Int).toNat ([x].map ByteArray.size) = false) := hl2
  clear hl2
  obtain ⟨A, B, n, C, D, k, hv, _, hok, hBz, hCz, hDz⟩ := tgt_view x.data.toList
  have HV := Lib.hid hv
  have HOK := Lib.hid hok
  clear hv hok
  go_enter Tryd.func5, Tryd.ntmps5
  go_wp2_with fail
  refine (Long_any _ _ _ _ [s, h, pa, q] _ _ (by decide) (by decide) rfl (SRow.four_at _ _ _ _ _ _ _ (by simp)) (by simp [maxLen]) (by simpa using ⟨hs, hh, hpa, hq⟩)).mono ?_
  rintro e w1 ⟨rfl, hw⟩
  rw [HL.out]
  have HB1 : Hid (Below w.heap.size w w1) := by rw [← hw]; exact HB0.out.alloc HB0.out.size _
  have HU1 : Hid (UrlAt w1 w.heap.size s h p pa q) := by rw [← hw]; exact HU0.out.alloc _
  clear hw HB0 HU0
  go_wp2_with fail
  refine (Long_any _ _ _ _ [x] _ _ (by decide) (by decide) rfl (SRow.one_at _ _ _ _ rfl) (by simp [maxLen]) (by simpa using hx)).mono ?_
  rintro e w2 ⟨rfl, hw⟩
  rw [HL2.out]
  have HB2 : Hid (Below w.heap.size w w2) := by rw [← hw]; exact HB1.out.alloc HB1.out.size _
  have HU2 : Hid (UrlAt w2 w.heap.size s h p pa q) := by rw [← hw]; exact HU1.out.alloc _
  clear hw HB1 HU1
  go_wp2_with fail
  refine (tParse_any x _ hx (HE.out.below HB2.out)).mono ?_
  rintro e w3 ⟨rfl, hb3⟩
  rw [HV.out]
  have HB3 : Hid (Below w.heap.size w (w3.alloc (.cells #[.string A, .string B, .int .i64 n, .string C, .string D] 27))) := by
    have := HB2.out.trans (hb3.mono HB2.out.size); exact this.alloc this.size _
  have HU3 : Hid (UrlAt (w3.alloc (.cells #[.string A, .string B, .int .i64 n, .string C, .string D] 27)) w.heap.size s h p pa q) := (HU2.out.below hb3 HU2.out.lt).alloc _
  clear hb3 HU2
  go_wp2_with fail
  refine (tCheck_any A B n C D _ (by unfold maxLen; omega) (by omega) (by omega) (HE.out.below HB3.out)).mono ?_
  rintro e w4 ⟨rfl, hb4⟩
  rw [HOK.out]
  have HB4 : Hid (Below w.heap.size w w4) := HB3.out.trans (hb4.mono HB3.out.size)
  have hu4 := HU3.out.below hb4 HU3.out.lt
  have HU4 := Lib.hid hu4
  clear hb4 HU3
  obtain ⟨a0, a1, a2, a3, a4⟩ := hu4
  have hself : ((k == 0) != (k == 0)) = false := by simp
  go_wp2_with fail
  refine (tCheck_any s h p pa q _ (by unfold maxLen; omega) (by omega) (by omega) (HE.out.below HB4.out)).mono ?_
  rintro e w5 ⟨rfl, hb5⟩
  have HB5 : Hid (Below w.heap.size w w5) := HB4.out.trans (hb5.mono HB4.out.size)
  have hu5 := HU4.out.below hb5 HU4.out.lt
  have HU5 := Lib.hid hu5
  clear hb5 HU4 a0 a1 a2 a3 a4
  obtain ⟨a0, a1, a2, a3, a4⟩ := hu5
  obtain ⟨t, ht⟩ : ∃ t, t = mk (urlOf s h p pa q).show_ := ⟨_, rfl⟩
  have HT := Lib.hid ht
  cases hc : (urlOf s h p pa q).ok
  · have hte : t.toList.isEmpty = true := ba_isEmpty (by rw [ht, show_no hc, mk_data])
    clear ht hc
    go_wp2_with fail
    refine (tShow_as s h p pa q t _ (by unfold maxLen; omega) (by omega) (by omega) (HE.out.below HB5.out) HT.out).mono ?_
    rintro e w6 ⟨rfl, hb6⟩
    have HB6 : Hid (Below w.heap.size w w6) := HB5.out.trans (hb6.mono HB5.out.size)
    clear hb6
    go_wp2_with fail
    refine (awake_from HE.out HB6.out).mono ?_
    rintro e w7 ⟨rfl, hb⟩
    go_wp2
    go_ret
    exact ⟨rfl, hb⟩
  · obtain ⟨tv, tz⟩ := tgt_shown hc ht
    have HTV := Lib.hid tv
    clear tv ht hc
    go_wp2_with fail
    refine (tShow_as s h p pa q t _ (by unfold maxLen; omega) (by omega) (by omega) (HE.out.below HB5.out) HT.out).mono ?_
    rintro e w6 ⟨rfl, hb6⟩
    have HB6 : Hid (Below w.heap.size w w6) := HB5.out.trans (hb6.mono HB5.out.size)
    have HU6 := Lib.hid (HU5.out.below hb6 HU5.out.lt)
    clear hb6 a0 a1 a2 a3 a4
    go_wp2_with fail
    refine (tParse_any t _ (by unfold maxLen; omega) (HE.out.below HB6.out)).mono ?_
    rintro e w7 ⟨rfl, hb7⟩
    rw [HTV.out]
    have HB7 : Hid (Below w.heap.size w (w7.alloc (.cells #[.string s, .string h, .int .i64 p, .string pa, .string q] 27))) := by
      have := HB6.out.trans (hb7.mono HB6.out.size); exact this.alloc this.size _
    have hu7 : UrlAt (w7.alloc (.cells #[.string s, .string h, .int .i64 p, .string pa, .string q] 27)) w.heap.size s h p pa q := (HU6.out.below hb7 HU6.out.lt).alloc _
    clear hb7
    obtain ⟨a0, a1, a2, a3, a4⟩ := hu7
    go_wp2_with fail
    refine (awake_from HE.out HB7.out).mono ?_
    rintro e w8 ⟨rfl, hb⟩
    go_wp2
    go_ret
    exact ⟨rfl, hb⟩
end Go.Proofs.YtfamllkmmiajoaaDoor
