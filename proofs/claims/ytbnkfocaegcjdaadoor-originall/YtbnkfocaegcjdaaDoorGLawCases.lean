/-
  The walk of the law OriginCases: whatever the text and the bits, it returns true, and nothing that was there has turned. Conditions: the arguments are such as any that come in; the library's variables are as they are laid.
-/
import Derived.Test.YtbnkfocaegcjdaaDoorGLawBack
import Derived.Test.YtbnkfocaegcjdaaDoorOFlip
namespace Go.Proofs.YtbnkfocaegcjdaaDoor
open Go.RowKit

theorem parse_same {a b : List UInt8} (h : Lk.lower a = Lk.lower b) : parseV a = parseV b := by
  have hl : a.length = b.length := by have := congrArg List.length h; simpa [Lk.lower_len] using this
  have hp : parseL a = parseL b := by unfold parseL; rw [h]
  unfold parseV
  rw [hl, hp]
theorem parse_form (l : List UInt8) : ∃ (a b : ByteArray) (p e : Int), parseV l = .tuple #[.agg #[.string a, .string b, .int .i64 p], .int .i64 e] ∧ checkL a.data.toList b.data.toList p = (e == 0) ∧ b.size ≤ maxLen := by
  have h0 : checkL (mk []).data.toList (mk []).data.toList 0 = false := by decide
  have hz : (mk []).size ≤ maxLen := by decide
  by_cases h5 : 512 < l.length
  · exact ⟨mk [], mk [], 0, 4, by rw [parseV, if_pos h5]; rfl, h0, hz⟩
  · cases hp : parseL l with
    | none => exact ⟨mk [], mk [], 0, 3, by rw [parseV, if_neg h5, hp]; rfl, h0, hz⟩
    | some q =>
      obtain ⟨a, b, p⟩ := q
      have hc := parse_check hp
      have hb := host_len (check_parts hc).2.1
      exact ⟨mk a, mk b, p, 0, by rw [parseV, if_neg h5, hp]; rfl, by rw [mk_data, mk_data, hc]; rfl, by rw [mk_size]; unfold maxLen; omega⟩

set_option maxHeartbeats 2000000 in
theorem walk_OriginCases (a0 : ByteArray) (a1 : Int) (w : World) (h0 : a0.size ≤ maxLen) (h1 : (Lit.int .u64 a1).wf = true) (he : Env w) :
    Calls Tryd.prog 5 #[.string a0, .int .u64 a1] w fun e w' => e = .returned (.bool true) ∧ Below w.heap.size w w' := by
  have hbd := wfU h1
  have HE := Lib.hid he
  clear he h1
  cases hl : Lk.longL 700 [a0.size]
  · have hsz : a0.size ≤ 700 := by have := Lk.long_no _ _ hl; simp at this; omega
    have HL : Hid (Lk.longL (700 : Int).toNat ([a0].map ByteArray.size) = false) := hl
    clear hl
    obtain ⟨a, b, p, e, hv, hc, hbz⟩ := parse_form a0.data.toList
    have HV := Lib.hid hv
    have HC := Lib.hid hc
    clear hv hc
    go_enter Tryd.func5, Tryd.ntmps5
    go_wp2_with fail
    refine (Long_any _ _ _ _ [a0] _ _ (by decide) (by decide) rfl (SRow.one_at _ _ _ _ (by simp)) (by simp [maxLen]) (by simpa using h0)).mono ?_
    rintro e' w1 ⟨rfl, hw⟩
    rw [HL.out]
    have HB1 : Hid (Below w.heap.size w w1) := by rw [← hw]; exact (Below.refl _ _).alloc (Nat.le_refl _) _
    clear hw
    go_wp2_with fail
    refine (Parse_any _ _ h0 (HE.out.below HB1.out)).mono ?_
    rintro e' w2 ⟨rfl, hb⟩
    rw [HV.out]
    have HB2 : Hid (Below w.heap.size w w2) := HB1.out.trans (hb.mono HB1.out.size)
    clear hb
    go_wp2_with fail
    refine (Flip_any _ _ _ h0 hbd.1 hbd.2).mono ?_
    rintro e' w3 ⟨lt, rfl, hlow, hb⟩
    obtain ⟨t, ht⟩ : ∃ t : ByteArray, t = ⟨lt.toArray⟩ := ⟨_, rfl⟩
    have htl : t.data.toList = lt := by rw [ht]
    have HT : Hid (parseV t.data.toList = .tuple #[.agg #[.string a, .string b, .int .i64 p], .int .i64 e]) := by
      show _ = _; rw [← HV.out, htl]; exact parse_same hlow
    have hts : t.size ≤ maxLen := by
      have := congrArg List.length hlow
      rw [Lk.lower_len, Lk.lower_len] at this
      have e : t.size = lt.length := by rw [ht]; show lt.toArray.size = _; simp
      have e2 : a0.data.toList.length = a0.size := by simp
      rw [e, this, e2]; unfold maxLen; omega
    rw [← ht]
    clear ht htl hlow
    have HN3 := Lib.hid ((OrgAt.new w2 a b p 23).below hb (by simp))
    have HB3 : Hid (Below w.heap.size w w3) := (HB2.out.alloc HB2.out.size _).trans (hb.mono (by have := HB2.out.size; simp; omega))
    clear hb
    go_wp2_with fail
    refine (Parse_any _ _ hts (HE.out.below HB3.out)).mono ?_
    rintro e' w4 ⟨rfl, hb⟩
    rw [HT.out]
    have HN4 := Lib.hid (HN3.out.below hb HN3.out.lt)
    have HB4 : Hid (Below w.heap.size w w4) := HB3.out.trans (hb.mono HB3.out.size)
    clear hb
    obtain ⟨b0, b1, b2⟩ := HN4.out
    have hlt := HN4.out.lt
    go_wp2_with fail
    refine (Check_any _ _ _ _ hbz).mono ?_
    rintro e' w5 ⟨rfl, hb⟩
    rw [HC.out]
    have HB5 : Hid (Below w.heap.size w w5) := (HB4.out.alloc HB4.out.size _).trans (hb.mono (by have := HB4.out.size; simp; omega))
    clear hb
    go_wp2_with fail
    refine (awake3_any _ (HE.out.below HB5.out)).mono ?_
    rintro e' w6 ⟨rfl, hb⟩
    go_wp2
    go_ret
    exact ⟨rfl, HB5.out.trans (hb.mono HB5.out.size)⟩
  · have HL : Hid (Lk.longL (700 : Int).toNat ([a0].map ByteArray.size) = true) := hl
    clear hl
    go_enter Tryd.func5, Tryd.ntmps5
    go_wp2_with fail
    refine (Long_any _ _ _ _ [a0] _ _ (by decide) (by decide) rfl (SRow.one_at _ _ _ _ (by simp)) (by simp [maxLen]) (by simpa using h0)).mono ?_
    rintro e' w1 ⟨rfl, hw⟩
    rw [HL.out]
    have HB1 : Hid (Below w.heap.size w w1) := by rw [← hw]; exact (Below.refl _ _).alloc (Nat.le_refl _) _
    clear hw
    go_wp2_with fail
    refine (awake3_any _ (HE.out.below HB1.out)).mono ?_
    rintro e' w2 ⟨rfl, hb⟩
    go_wp2
    go_ret
    exact ⟨rfl, HB1.out.trans (hb.mono HB1.out.size)⟩
end Go.Proofs.YtbnkfocaegcjdaaDoor
