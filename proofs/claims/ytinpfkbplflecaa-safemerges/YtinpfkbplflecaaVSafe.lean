/-
  Contracts of safe's functions of bytes and texts (Byte, isLanguageByte, allBytes, Essence, isFormType, Range), over this seat's program: each returns what the plain mathematics says. Conditions: the texts' sizes are such as any text's.
-/
import Derived.Test.YtinpfkbplflecaaVMath
import Derived.Test.YtinpfkbplflecaaLOct2
namespace Go.Proofs.Ytinpfkbplflecaa
open Go.RowKit

theorem IndexByte_at (bar : ByteArray) (c : UInt8) (w : World) : ∃ i : Int, decide (0 ≤ i) = bar.data.toList.contains c ∧
    Calls Try.prog 62 #[.string bar, .int .u8 (c.toNat : Int)] w fun e w' => e = .returned (.int .i64 i) ∧ w = w' := by
  refine ⟨Lib.indexByte bar.data.toList c, (Lib.contains_iff_indexByte _ _).symm, ?_⟩
  refine (Try.strings_IndexByte bar (c.toNat : Int) w).mono ?_
  rintro e w' ⟨rfl, rfl⟩
  exact ⟨by simp, rfl⟩

theorem byteOk_lo {c : UInt8} (h9 : ¬ (c.toNat : Int) = 9) (h : (c.toNat : Int) < 32) : byteOk c = false := by
  have h1 : (c == 9) = false := by
    rw [beq_eq_false_iff_ne]; intro e; subst e; exact h9 rfl
  have h2 : decide (32 ≤ c.toNat) = false := by simp; omega
  unfold byteOk; rw [h1, h2]; rfl
theorem byteOk_hi {c : UInt8} (h9 : ¬ (c.toNat : Int) = 9) (h : ¬ (c.toNat : Int) < 32) : byteOk c = !barL.contains c := by
  have h1 : (c == 9) = false := by
    rw [beq_eq_false_iff_ne]; intro e; subst e; exact h9 rfl
  have h2 : decide (32 ≤ c.toNat) = true := by simp; omega
  unfold byteOk; rw [h1, h2]; rfl

set_option maxHeartbeats 400000 in
theorem Byte_any (c : UInt8) (w : World) :
    Calls Try.prog 30 #[.int .u8 (c.toNat : Int)] w fun e w' => e = .returned (.bool (byteOk c)) ∧ w = w' := by
  obtain ⟨i, hi, hcall⟩ := IndexByte_at ⟨#[34, 40, 41, 58, 60, 62, 63, 64, 91, 92, 93, 123, 125, 127]⟩ c w
  have HC := Lib.hid hcall
  have HI : Hid (decide (0 ≤ i) = barL.contains c) := hi
  clear hcall hi
  by_cases h9 : (c.toNat : Int) = 9
  · have HE : Hid (byteOk c = true) := by
      show _ = _
      have : c = 9 := Lk.u8_eq (by rw [h9]; rfl)
      subst this; decide
    go_enter Try.func30, Try.ntmps30
    go_wp2
    go_ret
    exact ⟨ret_bool HE.out.symm, rfl⟩
  by_cases h32 : (c.toNat : Int) < 32
  · have HE := Lib.hid (byteOk_lo h9 h32)
    go_enter Try.func30, Try.ntmps30
    go_wp2
    go_ret
    exact ⟨ret_bool (by rw [HE.out]; simpa using h9), rfl⟩
  have HE := Lib.hid (byteOk_hi h9 h32)
  have HF : Hid (decide (i < 0) = byteOk c) := by
    show _ = _
    rw [HE.out, ← HI.out, ← decide_not, decide_eq_decide]; omega
  go_enter Try.func30, Try.ntmps30
  go_wp2_with fail
  refine HC.out.mono ?_
  rintro e w' ⟨rfl, rfl⟩
  go_wp2
  all_goals
    go_ret
    exact ⟨ret_bool (by rw [← HF.out]; simp_all), rfl⟩

theorem langOk_eq (c : UInt8) : langOk c = ((Lk.smB c.toNat || Lk.upB c.toNat || Lk.digB c.toNat) || marksL.contains c) := rfl

set_option maxHeartbeats 400000 in
theorem isLanguageByte_any (c : UInt8) (w : World) :
    Calls Try.prog 67 #[.int .u8 (c.toNat : Int)] w fun e w' => e = .returned (.bool (langOk c)) ∧ w = w' := by
  obtain ⟨i, hi, hcall⟩ := IndexByte_at ⟨#[32, 42, 44, 45, 46, 59, 61]⟩ c w
  have HC := Lib.hid hcall
  have HI : Hid (decide (0 ≤ i) = marksL.contains c) := hi
  clear hcall hi
  cases hp : Lk.plB c.toNat
  · have HP := Lib.hid hp
    have HE : Hid (langOk c = decide (0 ≤ i)) := by show _ = _; rw [HI.out, langOk, HP.out, Bool.false_or]
    simp only [Lk.plB, Lk.smB, Lk.upB, Lk.digB, Bool.or_eq_false_iff, Bool.and_eq_false_imp, decide_eq_true_eq, decide_eq_false_iff_not] at hp
    obtain ⟨⟨p1, p2⟩, p3⟩ := hp
    go_enter Try.func67, Try.ntmps67
    go_wp2_with (go_at_call 62; refine HC.out.mono ?_; rintro e w' ⟨rfl, rfl⟩)
    all_goals first
      | (exfalso; omega)
      | (go_ret
         exact ⟨ret_bool (by rw [HE.out] <;> simp_all), rfl⟩)
  · have HP := Lib.hid hp
    have HE : Hid (langOk c = true) := by show _ = _; rw [langOk, HP.out, Bool.true_or]
    simp only [Lk.plB, Lk.smB, Lk.upB, Lk.digB, Bool.or_eq_true, Bool.and_eq_true, decide_eq_true_eq] at hp
    go_enter Try.func67, Try.ntmps67
    go_wp2_with (go_at_call 62; refine HC.out.mono ?_; rintro e w' ⟨rfl, rfl⟩)
    all_goals first
      | (go_ret
         exact ⟨ret_bool HE.out.symm, rfl⟩)
      | (exfalso; omega)

set_option maxHeartbeats 400000 in
theorem allBytes_of (f : Nat) (p : UInt8 → Bool) (hf : ∀ (c : UInt8) (w : World), Calls Try.prog f #[.int .u8 (c.toNat : Int)] w fun e w' => e = .returned (.bool (p c)) ∧ w = w')
    (s : ByteArray) (w : World) (hs : s.size ≤ maxLen) (hen : ∀ args w, (callFunc f args).run Try.prog w = .ok (.enter f args) w) :
    Calls Try.prog 66 #[.string s, .func (.func f) #[] #[]] w fun e w' => e = .returned (.bool (s.data.toList.all p)) ∧ w = w' := by
  unfold maxLen at hs
  have HF := Lib.hid hf
  clear hf
  obtain ⟨r, hr⟩ : ∃ r : Bool, r = s.data.toList.all p := ⟨_, rfl⟩
  rw [← hr]
  have HR := Lib.hid hr
  clear hr
  go_enter Try.func66, Try.ntmps66
  go_wp2
  go_loop [8] (fun i => ∃ k : Nat, k ≤ s.size ∧ i = .int .i64 k ∧ (s.data.toList.take k).all p = true) (fun i => s.size - (intOf i).toNat)
  case atStart => exact ⟨0, Nat.zero_le _, rfl, rfl⟩
  case round =>
    obtain ⟨k, hk, rfl, ha⟩ := hrel
    have HA := Lib.hid ha
    clear ha
    by_cases hlt : k < s.size
    · cases hc : p s[k]
      · have HC := Lib.hid hc
        go_wp2_with fail
        refine (HF.out _ _).mono ?_
        rintro e w' ⟨rfl, rfl⟩
        rw [HC.out]
        go_wp2
        go_ret
        exact ⟨ret_bool (by rw [HR.out, Lk.all_no hlt HC.out]), rfl⟩
      · have HC := Lib.hid hc
        go_wp2_with fail
        refine (HF.out _ _).mono ?_
        rintro e w' ⟨rfl, rfl⟩
        rw [HC.out]
        go_wp2
        go_round
        case rel => exact ⟨k + 1, by omega, by go_num, Lk.all_step hlt HA.out HC.out⟩
        case measure => simp [intOf]; omega
    · go_wp2
      go_ret
      exact ⟨ret_bool (by have := HA.out; rw [Lk.take_all s k (by omega)] at this; rw [HR.out, this]), rfl⟩
theorem allB_any (s : ByteArray) (w : World) (hs : s.size ≤ maxLen) :
    Calls Try.prog 66 #[.string s, .func (.func 30) #[] #[]] w fun e w' => e = .returned (.bool (bytesOk s.data.toList)) ∧ w = w' :=
  allBytes_of 30 byteOk Byte_any s w hs (enters_of Try.func30 (by kernel_rfl) rfl)
theorem allL_any (s : ByteArray) (w : World) (hs : s.size ≤ maxLen) :
    Calls Try.prog 66 #[.string s, .func (.func 67) #[] #[]] w fun e w' => e = .returned (.bool (langsOk s.data.toList)) ∧ w = w' :=
  allBytes_of 67 langOk isLanguageByte_any s w hs (enters_of Try.func67 (by kernel_rfl) rfl)

/-- a cut at one byte, whether it is there or not -/
theorem Cut1_any (s : ByteArray) (c : UInt8) (w : World) (hs : s.size ≤ maxLen) : ∃ (p q : ByteArray) (f : Bool),
    (Calls Try.prog 60 #[.string s, .string ⟨#[c]⟩] w fun e w' => e = .returned (.tuple #[.string p, .string q, .bool f]) ∧ ∃ n, w' = w.drewN n) ∧
    p.size ≤ s.size ∧ q.size ≤ s.size ∧ split1 c s.data.toList = (p.data.toList, if f then some q.data.toList else none) ∧ (f = false → q.data.toList = []) := by
  rcases at_cases c s.data.toList with h | ⟨a, b, e, h⟩
  · exact ⟨s, ⟨#[]⟩, false, Cut_no s c w hs h, Nat.le_refl _, Nat.zero_le _, by rw [split1_none c _ h]; rfl, fun _ => rfl⟩
  · have hl : s.size = a.length + (b.length + 1) := by have := congrArg List.length e; simpa using this
    have ha : (⟨a.toArray⟩ : ByteArray).size = a.length := by show a.toArray.size = _; simp
    have hb : (⟨b.toArray⟩ : ByteArray).size = b.length := by show b.toArray.size = _; simp
    exact ⟨⟨a.toArray⟩, ⟨b.toArray⟩, true, Cut_yes s a b c w hs e h, by omega, by omega, by rw [e, split1_at c a b h]; simp, by simp⟩

/-- what Essence answers -/
def essV (v : List UInt8) : Value := .tuple #[.string (mk (essT v)), .bool (essL v).isSome]
theorem essV_no {v : List UInt8} (h : essL v = none) : essV v = .tuple #[.string ⟨#[]⟩, .bool false] := by
  unfold essV essT; rw [h]; rfl
theorem essV_yes {v t : List UInt8} (h : essL v = some t) : essV v = .tuple #[.string (mk t), .bool true] := by
  unfold essV essT; rw [h]; rfl
theorem ret_any {a b : Value} (h : a = b) : Ending.returned a = .returned b := by rw [h]

set_option maxHeartbeats 1000000 in
theorem Essence_any (v : ByteArray) (w : World) (hs : v.size ≤ maxLen) :
    Calls Try.prog 28 #[.string v] w fun e w' => e = .returned (essV v.data.toList) ∧ Below w.heap.size w w' := by
  obtain ⟨p, q, f, hcut, hp, hq, hsp, _⟩ := Cut1_any v 59 w hs
  have HC := Lib.hid hcut
  have HP : Hid ((split1 59 v.data.toList).1 = p.data.toList) := by show _ = _; rw [hsp]
  clear hcut hsp hq
  go_enter Try.func28, Try.ntmps28
  go_wp2_with fail
  refine HC.out.mono ?_
  rintro e w1 ⟨rfl, n1, hw1⟩
  have HB1 : Hid (Below w.heap.size w w1) := by show Below _ _ _; rw [hw1]; exact below_drewN (Below.refl _ _) _
  clear hw1
  obtain ⟨t, ht⟩ : ∃ t : ByteArray, t = ⟨(Lk.trimL p.data.toList).toArray⟩ := ⟨_, rfl⟩
  have htz : t.size ≤ maxLen := by
    have := Lk.trim_len p.data.toList
    rw [ht]; show (Lk.trimL p.data.toList).toArray.size ≤ _
    simp at this ⊢; omega
  have HT := Lib.hid ht
  have HTD : Hid (t.data.toList = Lk.trimL p.data.toList) := by show _ = _; rw [ht]
  clear ht
  go_wp2_with fail
  refine (Trim_any p _ (by omega)).mono ?_
  rintro e w' ⟨rfl, rfl⟩
  rw [← HT.out]
  obtain ⟨a, b, g, hcut, ha, hb, hsp, hn⟩ := Cut1_any t 47 w1 htz
  have HC2 := Lib.hid hcut
  have HSP := Lib.hid hsp
  have HN := Lib.hid hn
  clear hcut hsp hn
  have HE : Hid (essL v.data.toList = typeL t.data.toList) := by show _ = _; unfold essL; rw [HP.out, HTD.out]
  go_wp2_with fail
  refine HC2.out.mono ?_
  rintro e w2 ⟨rfl, n2, hw2⟩
  have HB2 : Hid (Below w.heap.size w w2) := by show Below _ _ _; rw [hw2]; exact below_drewN HB1.out _
  clear hw2
  go_wp2_with fail
  refine (Token_any a _ (by omega)).mono ?_
  rintro e w' ⟨rfl, rfl⟩
  cases hta : Lk.tokL a.data.toList
  · have HTA := Lib.hid hta
    have HR : Hid (essL v.data.toList = none) := by
      show _ = _
      rw [HE.out, typeL, HSP.out]
      cases g
      · rfl
      · simp [HTA.out]
    go_wp2
    go_ret2
    exact ⟨ret_any (essV_no HR.out).symm, HB2.out⟩
  have HTA := Lib.hid hta
  clear hta
  go_wp2_with fail
  refine (Token_any b _ (by omega)).mono ?_
  rintro e w' ⟨rfl, rfl⟩
  cases htb : Lk.tokL b.data.toList
  · have HTB := Lib.hid htb
    have HR : Hid (essL v.data.toList = none) := by
      show _ = _
      rw [HE.out, typeL, HSP.out]
      cases g
      · rfl
      · simp [HTB.out]
    go_wp2
    go_ret2
    exact ⟨ret_any (essV_no HR.out).symm, HB2.out⟩
  have HTB := Lib.hid htb
  have HG : Hid (g = true) := by
    show _ = _
    cases g
    · have h1 := HN.out rfl
      rw [h1] at htb
      simp [Lk.tokL] at htb
    · rfl
  clear htb
  have HR : Hid (essL v.data.toList = some (Lk.lower t.data.toList)) := by
    show _ = _
    rw [HE.out, typeL, HSP.out, HG.out]
    simp [HTA.out, HTB.out]
  go_wp2_with fail
  refine (Lower_any t _ (by omega)).mono ?_
  rintro e w3 ⟨rfl, hb3⟩
  have HB3 : Hid (Below w.heap.size w w3) := HB2.out.trans (hb3.mono HB2.out.size)
  clear hb3
  go_wp2
  go_ret2
  exact ⟨ret_any (essV_yes HR.out).symm, HB3.out⟩

theorem form_cases (v : List UInt8) : formL v = (((mk (essT v)).toList == formT1) || ((mk (essT v)).toList == formT2) || ((mk (essT v)).toList == formT3)) := by
  unfold formL; rw [ByteArray.toList_eq, mk_data]

set_option maxHeartbeats 1000000 in
theorem isFormType_any (v : ByteArray) (w : World) (hs : v.size ≤ maxLen) :
    Calls Try.prog 68 #[.string v] w fun e w' => e = .returned (.bool (formL v.data.toList)) ∧ Below w.heap.size w w' := by
  have HF := Lib.hid (form_cases v.data.toList)
  obtain ⟨t, ht⟩ : ∃ t : ByteArray, t = mk (essT v.data.toList) := ⟨_, rfl⟩
  rw [← ht] at HF
  have HE : Hid (essV v.data.toList = .tuple #[.string t, .bool (essL v.data.toList).isSome]) := by show _ = _; rw [ht]; rfl
  clear ht
  go_enter Try.func68, Try.ntmps68
  go_wp2_with fail
  refine (Essence_any v _ hs).mono ?_
  rintro e w1 ⟨rfl, hb⟩
  have HB := Lib.hid hb
  rw [HE.out]
  clear hb
  unfold formT1 formT2 formT3 at HF
  cases h1 : t.toList == [97, 112, 112, 108, 105, 99, 97, 116, 105, 111, 110, 47, 120, 45, 119, 119, 119, 45, 102, 111, 114, 109, 45, 117, 114, 108, 101, 110, 99, 111, 100, 101, 100]
  case true =>
    have H1 := Lib.hid h1
    go_wp2
    go_ret
    exact ⟨ret_bool (by rw [HF.out, H1.out]; rfl), HB.out⟩
  have H1 := Lib.hid h1
  cases h2 : t.toList == [109, 117, 108, 116, 105, 112, 97, 114, 116, 47, 102, 111, 114, 109, 45, 100, 97, 116, 97]
  case true =>
    have H2 := Lib.hid h2
    go_wp2
    go_ret
    exact ⟨ret_bool (by rw [HF.out, H1.out, H2.out]; rfl), HB.out⟩
  have H2 := Lib.hid h2
  cases h3 : t.toList == [116, 101, 120, 116, 47, 112, 108, 97, 105, 110]
  case true =>
    have H3 := Lib.hid h3
    go_wp2
    go_ret
    exact ⟨ret_bool (by rw [HF.out, H1.out, H2.out, H3.out]; rfl), HB.out⟩
  have H3 := Lib.hid h3
  go_wp2
  go_ret
  exact ⟨ret_bool (by rw [HF.out, H1.out, H2.out, H3.out]; rfl), HB.out⟩
end Go.Proofs.Ytinpfkbplflecaa
