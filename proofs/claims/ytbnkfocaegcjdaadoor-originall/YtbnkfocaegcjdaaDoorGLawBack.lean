/-
  The walk of the law OriginBack: whatever the origin, it returns true, and nothing that was there has turned. Conditions: the arguments are such as any that come in; the library's variables are as they are laid.
-/
import Derived.Test.YtbnkfocaegcjdaaDoorGAwake
import Derived.Test.YtbnkfocaegcjdaaDoorOAwake
namespace Go.Proofs.YtbnkfocaegcjdaaDoor
open Go.RowKit

theorem OrgAt.alloc {W : World} {g : Nat} {s h : ByteArray} {p : Int} (o : OrgAt W g s h p) (x : Obj) : OrgAt (W.alloc x) g s h p :=
  o.below ((Below.refl _ _).alloc (Nat.le_refl _) x) o.lt
theorem parse_shown {s h : ByteArray} {p : Int} (hc : checkL s.data.toList h.data.toList p = true) {t : ByteArray} (ht : t = mk (showL s.data.toList h.data.toList p)) :
    parseV t.data.toList = .tuple #[.agg #[.string s, .string h, .int .i64 p], .int .i64 0] ∧ t.size ≤ maxLen := by
  have hl := show_len (sc := s.data.toList) (h := h.data.toList) (p := p)
  subst ht
  rw [mk_data, mk_size]
  refine ⟨?_, by unfold maxLen; omega⟩
  rw [parseV, if_neg (by omega), parse_show hc]
  simp only [orgV, mk_eq]
theorem parse_keyed {s h : ByteArray} {p : Int} (hc : checkL s.data.toList h.data.toList p = true) {t : ByteArray} (ht : t = mk (keyL s.data.toList h.data.toList p)) :
    parseV t.data.toList = .tuple #[.agg #[.string s, .string h, .int .i64 p], .int .i64 0] ∧ t.size ≤ maxLen := by
  have hl := key_len (sc := s.data.toList) (h := h.data.toList) (p := p)
  subst ht
  rw [mk_data, mk_size]
  refine ⟨?_, by unfold maxLen; omega⟩
  rw [parseV, if_neg (by omega), parse_keyL hc]
  simp only [orgV, mk_eq]

set_option maxHeartbeats 2000000 in
theorem walk_OriginBack (s h : ByteArray) (p : Int) (w : World) (hs : s.size ≤ maxLen) (hh : h.size ≤ maxLen) (_hp : (Lit.int .i64 p).wf = true) (he : Env w) :
    Calls Tryd.prog 4 #[.agg #[.string s, .string h, .int .i64 p]] w fun e w' => e = .returned (.bool true) ∧ Below w.heap.size w w' := by
  have hb0 : Below w.heap.size w (w.alloc (.cells #[.string s, .string h, .int .i64 p] 23)) := (Below.refl _ _).alloc (Nat.le_refl _) _
  have HB0 := Lib.hid hb0
  have HO0 := Lib.hid (OrgAt.new w s h p 23)
  have HE := Lib.hid he
  clear hb0 he
  cases hl : Lk.longL 700 [s.size, h.size]
  · have HL : Hid (Lk.longL (700 : Int).toNat ([s, h].map ByteArray.size) = false) := hl
    clear hl
    go_enter Tryd.func4, Tryd.ntmps4
    go_wp2_with fail
    refine (Long_any _ _ _ _ [s, h] _ _ (by decide) (by decide) rfl (SRow.two_at _ _ _ _ _ (by simp)) (by simp [maxLen]) (by simpa using ⟨hs, hh⟩)).mono ?_
    rintro e w1 ⟨rfl, hw⟩
    rw [HL.out]
    have ho1 : OrgAt w1 w.heap.size s h p := by rw [← hw]; exact HO0.out.alloc _
    have HB1 : Hid (Below w.heap.size w w1) := by rw [← hw]; exact HB0.out.alloc HB0.out.size _
    clear hw
    have HO1 := Lib.hid ho1
    obtain ⟨a0, a1, a2⟩ := ho1
    go_wp2_with fail
    refine (Check_any _ _ _ _ hh).mono ?_
    rintro e w2 ⟨rfl, hb⟩
    have ho2 := HO1.out.below hb HO1.out.lt
    have HB2 : Hid (Below w.heap.size w w2) := HB1.out.trans (hb.mono HB1.out.size)
    have HE2 : Hid (Env w2) := HE.out.below HB2.out
    have HO2 := Lib.hid ho2
    clear hb a0 a1 a2
    obtain ⟨a0, a1, a2⟩ := ho2
    cases hc : checkL s.data.toList h.data.toList p
    · have H1 : Hid (mk (showL s.data.toList h.data.toList p) = ⟨#[]⟩) := by show _ = _; rw [showL, hc]; rfl
      have H2 : Hid (mk (keyL s.data.toList h.data.toList p) = ⟨#[]⟩) := by show _ = _; rw [keyL, hc]; rfl
      clear hc
      go_wp2_with fail
      refine (Show_any _ _ _ _ hh HE2.out).mono ?_
      rintro e w3 ⟨rfl, hb⟩
      rw [H1.out]
      have ho3 := HO2.out.below hb HO2.out.lt
      have HB3 : Hid (Below w.heap.size w w3) := HB2.out.trans (hb.mono HB2.out.size)
      have HE3 : Hid (Env w3) := HE.out.below HB3.out
      clear hb a0 a1 a2
      obtain ⟨a0, a1, a2⟩ := ho3
      go_wp2_with fail
      refine (Key_any _ _ _ _ hh HE3.out).mono ?_
      rintro e w4 ⟨rfl, hb⟩
      rw [H2.out]
      have HB4 : Hid (Below w.heap.size w w4) := HB3.out.trans (hb.mono HB3.out.size)
      clear hb
      go_wp2_with fail
      refine (awake3_any _ (HE.out.below HB4.out)).mono ?_
      rintro e w5 ⟨rfl, hb⟩
      go_wp2
      go_ret
      exact ⟨rfl, HB4.out.trans (hb.mono HB4.out.size)⟩
    · obtain ⟨t, ht⟩ : ∃ t : ByteArray, t = mk (showL s.data.toList h.data.toList p) := ⟨_, rfl⟩
      obtain ⟨u, hu⟩ : ∃ u : ByteArray, u = mk (keyL s.data.toList h.data.toList p) := ⟨_, rfl⟩
      have ⟨t1, t2⟩ := parse_shown hc ht
      have ⟨u1, u2⟩ := parse_keyed hc hu
      have HT := Lib.hid ht
      have HU := Lib.hid hu
      have T1 := Lib.hid t1
      have U1 := Lib.hid u1
      clear ht hu t1 u1 hc
      go_wp2_with fail
      refine (Show_any _ _ _ _ hh HE2.out).mono ?_
      rintro e w3 ⟨rfl, hb⟩
      rw [← HT.out]
      have HO3 := Lib.hid (HO2.out.below hb HO2.out.lt)
      have HB3 : Hid (Below w.heap.size w w3) := HB2.out.trans (hb.mono HB2.out.size)
      have HE3 : Hid (Env w3) := HE.out.below HB3.out
      clear hb a0 a1 a2
      go_wp2_with fail
      refine (Parse_any _ _ t2 HE3.out).mono ?_
      rintro e w4 ⟨rfl, hb⟩
      rw [T1.out]
      have HO4 := Lib.hid (HO3.out.below hb HO3.out.lt)
      have HB4 : Hid (Below w.heap.size w w4) := HB3.out.trans (hb.mono HB3.out.size)
      have HE4 : Hid (Env (w4.alloc (.cells #[.string s, .string h, .int .i64 p] 23))) := (HE.out.below HB4.out).alloc _
      clear hb
      obtain ⟨a0, a1, a2⟩ := HO4.out
      have hlt := HO4.out.lt
      go_wp2_with fail
      refine (Key_any _ _ _ _ hh HE4.out).mono ?_
      rintro e w5 ⟨rfl, hb⟩
      rw [← HU.out]
      have HO5 := Lib.hid ((HO4.out.alloc (.cells #[.string s, .string h, .int .i64 p] 23)).below hb (by have := HO4.out.lt; simp; omega))
      have HN5 := Lib.hid ((OrgAt.new w4 s h p 23).below hb (by simp))
      have HB5 : Hid (Below w.heap.size w w5) := (HB4.out.alloc HB4.out.size _).trans (hb.mono (by have := HB4.out.size; simp; omega))
      have HE5 : Hid (Env w5) := HE.out.below HB5.out
      clear hb a0 a1 a2 hlt
      go_wp2_with fail
      refine (Parse_any _ _ u2 HE5.out).mono ?_
      rintro e w6 ⟨rfl, hb⟩
      rw [U1.out]
      have HO6 := Lib.hid (HO5.out.below hb HO5.out.lt)
      have HN6 := Lib.hid (HN5.out.below hb HN5.out.lt)
      have HB6 : Hid (Below w.heap.size w w6) := HB5.out.trans (hb.mono HB5.out.size)
      have HE6 : Hid (Env (w6.alloc (.cells #[.string s, .string h, .int .i64 p] 23))) := (HE.out.below HB6.out).alloc _
      clear hb
      obtain ⟨a0, a1, a2⟩ := HO6.out
      obtain ⟨b0, b1, b2⟩ := HN6.out
      have hlt := HO6.out.lt
      have hlt2 := HN6.out.lt
      go_wp2_with fail
      refine (awake3_any _ HE6.out).mono ?_
      rintro e w7 ⟨rfl, hb⟩
      go_wp2
      go_ret
      exact ⟨rfl, (HB6.out.alloc HB6.out.size _).trans (hb.mono (by have := HB6.out.size; simp; omega))⟩
  · have HL : Hid (Lk.longL (700 : Int).toNat ([s, h].map ByteArray.size) = true) := hl
    clear hl
    go_enter Tryd.func4, Tryd.ntmps4
    go_wp2_with fail
    refine (Long_any _ _ _ _ [s, h] _ _ (by decide) (by decide) rfl (SRow.two_at _ _ _ _ _ (by simp)) (by simp [maxLen]) (by simpa using ⟨hs, hh⟩)).mono ?_
    rintro e w1 ⟨rfl, hw⟩
    rw [HL.out]
    have HB1 : Hid (Below w.heap.size w w1) := by rw [← hw]; exact HB0.out.alloc HB0.out.size _
    clear hw
    go_wp2_with fail
    refine (awake3_any _ (HE.out.below HB1.out)).mono ?_
    rintro e w2 ⟨rfl, hb⟩
    go_wp2
    go_ret
    exact ⟨rfl, HB1.out.trans (hb.mono HB1.out.size)⟩
end Go.Proofs.YtbnkfocaegcjdaaDoor
