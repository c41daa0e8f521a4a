/-
  Contracts of safe's Range and Header over this seat's program: each returns what the plain mathematics says, and nothing that was there has turned. Conditions: the texts' sizes are such as any text's.
-/
import Derived.Test.YtinpfkbplflecaaVSafe
import Derived.Test.YtinpfkbplflecaaDHdr
namespace Go.Proofs.Ytinpfkbplflecaa
open Go.RowKit

theorem CutPrefix_any (s p : ByteArray) (w : World) :
    Calls Try.prog 63 #[.string s, .string p] w fun e w' => e = .returned (.tuple #[.string (mk (Lib.trimPrefix s.data.toList p.data.toList)), .bool (Lib.hasPrefix s.data.toList p.data.toList)]) ∧ w = w' :=
  (Try.strings_CutPrefix s p w).mono fun _ _ h => ⟨h.1, h.2.symm⟩
theorem take_pre (v : List UInt8) : (v.take 6 == bytesT) = Lib.hasPrefix v bytesT := by
  rw [← Lib.hasPrefix_of_take]
  by_cases h : bytesT.length ≤ v.length
  · rw [decide_eq_true h, Bool.true_and]; rfl
  · rw [decide_eq_false h, Bool.false_and, beq_eq_false_iff_ne]
    intro e
    have := congrArg List.length e
    simp [bytesT] at this h
    omega
theorem range_no {v : List UInt8} (h : Lib.hasPrefix v bytesT = false) : rangeL v = false := by
  unfold rangeL; rw [take_pre, h]; rfl
theorem range_pre {v : List UInt8} (h : Lib.hasPrefix v bytesT = true) : rangeL v = spanL (Lib.trimPrefix v bytesT) := by
  unfold rangeL Lib.trimPrefix; rw [take_pre, h]; rfl

set_option maxHeartbeats 1000000 in
theorem Range_any (v : ByteArray) (w : World) (hs : v.size ≤ maxLen) :
    Calls Try.prog 32 #[.string v] w fun e w' => e = .returned (.bool (rangeL v.data.toList)) ∧ ∃ n, w' = w.drewN n := by
  obtain ⟨t, ht⟩ : ∃ t : ByteArray, t = mk (Lib.trimPrefix v.data.toList (⟨#[98, 121, 116, 101, 115, 61]⟩ : ByteArray).data.toList) := ⟨_, rfl⟩
  have htz : t.size ≤ maxLen := by
    rw [ht, mk_size]
    have := Lib.trimPrefix_le v.data.toList (⟨#[98, 121, 116, 101, 115, 61]⟩ : ByteArray).data.toList
    simp at this ⊢; omega
  have HT := Lib.hid ht
  have HTD : Hid (t.data.toList = Lib.trimPrefix v.data.toList bytesT) := by show _ = _; rw [ht, mk_data]; rfl
  clear ht
  cases hp : Lib.hasPrefix v.data.toList (⟨#[98, 121, 116, 101, 115, 61]⟩ : ByteArray).data.toList
  · have HP := Lib.hid hp
    have HR : Hid (rangeL v.data.toList = false) := range_no hp
    clear hp
    go_enter Try.func32, Try.ntmps32
    go_wp2_with fail
    refine (CutPrefix_any _ _ _).mono ?_
    rintro e w' ⟨rfl, rfl⟩
    rw [← HT.out, HP.out]
    go_wp2
    go_ret
    exact ⟨ret_bool HR.out.symm, 0, rfl⟩
  have HP := Lib.hid hp
  have HR : Hid (rangeL v.data.toList = spanL t.data.toList) := by show _ = _; rw [HTD.out]; exact range_pre hp
  clear hp
  obtain ⟨p, q, f, hcut, hpz, hqz, hsp, hn⟩ := Cut1_any t 45 w htz
  have HC := Lib.hid hcut
  have HSP := Lib.hid hsp
  clear hcut hsp hn
  cases f
  · have HE : Hid (rangeL v.data.toList = false) := by show _ = _; rw [HR.out, spanL, HSP.out]; rfl
    go_enter Try.func32, Try.ntmps32
    go_wp2_with fail
    refine (CutPrefix_any _ _ _).mono ?_
    rintro e w' ⟨rfl, rfl⟩
    rw [← HT.out, HP.out]
    go_wp2_with fail
    refine HC.out.mono ?_
    rintro e w1 ⟨rfl, hw1⟩
    go_wp2
    go_ret
    exact ⟨ret_bool HE.out.symm, hw1⟩
  have HE : Hid (rangeL v.data.toList = (Lk.digL p.data.toList && (q.data.toList.isEmpty || (Lk.digL q.data.toList && decide (Lk.sat (Lk.valL p.data.toList) ≤ Lk.sat (Lk.valL q.data.toList)))))) := by
    show _ = _; rw [HR.out, spanL, HSP.out]; rfl
  cases hdp : Lk.digL p.data.toList
  · have HDP := Lib.hid (digRes_f hdp)
    have HX : Hid (rangeL v.data.toList = false) := by show _ = _; rw [HE.out, hdp]; rfl
    clear hdp
    go_enter Try.func32, Try.ntmps32
    go_wp2_with fail
    refine (CutPrefix_any _ _ _).mono ?_
    rintro e w' ⟨rfl, rfl⟩
    rw [← HT.out, HP.out]
    go_wp2_with fail
    refine HC.out.mono ?_
    rintro e w1 ⟨rfl, hw1⟩
    go_wp2_with fail
    refine (Digits_any p _ (by omega)).mono ?_
    rintro e w' ⟨rfl, rfl⟩
    rw [HDP.out]
    go_wp2
    go_ret
    exact ⟨ret_bool HX.out.symm, hw1⟩
  have HDP := Lib.hid (digRes_t hdp)
  have HY : Hid (rangeL v.data.toList = (q.data.toList.isEmpty || (Lk.digL q.data.toList && decide (Lk.sat (Lk.valL p.data.toList) ≤ Lk.sat (Lk.valL q.data.toList))))) := by show _ = _; rw [HE.out, hdp]; rfl
  clear hdp
  have hpb := Lk.sat_le (Lk.valL p.data.toList)
  have hqb := Lk.sat_le (Lk.valL q.data.toList)
  generalize Lk.sat (Lk.valL p.data.toList) = P at *
  cases hdq : Lk.digL q.data.toList
  · have HDQ := Lib.hid (digRes_f hdq)
    have HX : Hid (rangeL v.data.toList = (q.toList == [])) := by
      show _ = _
      rw [HY.out, hdq, ByteArray.toList_eq]
      cases q.data.toList <;> rfl
    clear hdq
    go_enter Try.func32, Try.ntmps32
    go_wp2_with fail
    refine (CutPrefix_any _ _ _).mono ?_
    rintro e w' ⟨rfl, rfl⟩
    rw [← HT.out, HP.out]
    go_wp2_with fail
    refine HC.out.mono ?_
    rintro e w1 ⟨rfl, hw1⟩
    go_wp2_with fail
    refine (Digits_any p _ (by omega)).mono ?_
    rintro e w' ⟨rfl, rfl⟩
    rw [HDP.out]
    go_wp2_with fail
    refine (Digits_any q _ (by omega)).mono ?_
    rintro e w' ⟨rfl, rfl⟩
    rw [HDQ.out]
    cases hq0 : q.toList == []
    · have HQ0 := Lib.hid hq0
      go_wp2
      go_ret
      exact ⟨ret_bool (by rw [HX.out, HQ0.out]), hw1⟩
    · have HQ0 := Lib.hid hq0
      go_wp2
      go_ret
      exact ⟨ret_bool (by rw [HX.out, HQ0.out]), hw1⟩
  have HDQ := Lib.hid (digRes_t hdq)
  have HQ0 : Hid ((q.toList == []) = false) := by
    show _ = _
    rw [ByteArray.toList_eq]
    have := digL_ne hdq
    cases hh : q.data.toList with
    | nil => exact absurd hh this
    | cons x r => rfl
  have HX : Hid (rangeL v.data.toList = decide (P ≤ Lk.sat (Lk.valL q.data.toList))) := by
    show _ = _
    have := digL_ne hdq
    rw [HY.out, hdq]
    cases hh : q.data.toList with
    | nil => exact absurd hh this
    | cons x r => rfl
  clear hdq
  generalize Lk.sat (Lk.valL q.data.toList) = Q at *
  unfold Lk.M64 at hpb hqb
  go_enter Try.func32, Try.ntmps32
  go_wp2_with fail
  refine (CutPrefix_any _ _ _).mono ?_
  rintro e w' ⟨rfl, rfl⟩
  rw [← HT.out, HP.out]
  go_wp2_with fail
  refine HC.out.mono ?_
  rintro e w1 ⟨rfl, hw1⟩
  go_wp2_with fail
  refine (Digits_any p _ (by omega)).mono ?_
  rintro e w' ⟨rfl, rfl⟩
  rw [HDP.out]
  go_wp2_with fail
  refine (Digits_any q _ (by omega)).mono ?_
  rintro e w' ⟨rfl, rfl⟩
  rw [HDQ.out]
  have hq0 := HQ0.out
  by_cases hpq : P ≤ Q
  · have hpq' : (P : Int) ≤ (Q : Int) := by omega
    go_wp2
    go_ret
    exact ⟨ret_bool (by rw [HX.out, decide_eq_true hpq]), hw1⟩
  · have hpq' : ¬ (P : Int) ≤ (Q : Int) := by omega
    go_wp2
    go_ret
    exact ⟨ret_bool (by rw [HX.out, decide_eq_false hpq]), hw1⟩

theorem kind_eq (a : ByteArray) (v : List UInt8) : kindOk a.data.toList v = if (a.toList == acceptT) = true then bytesOk v else if (a.toList == alangT) = true then langsOk v else if (a.toList == clangT) = true then langsOk v
    else if (a.toList == ctypeT) = true then bytesOk v && formL v else if (a.toList == rangeT) = true then rangeL v else false := by
  unfold kindOk
  rw [ByteArray.toList_eq]
  simp only [beq_iff_eq]

theorem head_at (w : World) (x1 x2 : ByteArray) : (w.alloc (Obj.cells #[.string x1, .string x2] 41)).cell? ⟨w.heap.size, 0, none⟩ = some (.string x1) := by simp

set_option maxHeartbeats 2000000 in
theorem Header_any (x1 x2 : ByteArray) (w : World) (h1 : x1.size ≤ maxLen) (h2 : x2.size ≤ maxLen) :
    Calls Try.prog 34 #[.agg #[.string x1, .string x2]] w fun e w' => e = .returned (.bool (safeH (hd (x1, x2)))) ∧ Below w.heap.size w w' := by
  obtain ⟨t, ht⟩ : ∃ t : ByteArray, t = ⟨(Lk.trimL x2.data.toList).toArray⟩ := ⟨_, rfl⟩
  obtain ⟨a, ha⟩ : ∃ a : ByteArray, a = ⟨(Lk.lower x1.data.toList).toArray⟩ := ⟨_, rfl⟩
  have htz : t.size = (Lk.trimL x2.data.toList).length := by rw [ht]; show (Lk.trimL x2.data.toList).toArray.size = _; simp
  have htm : t.size ≤ maxLen := by have := Lk.trim_len x2.data.toList; simp at this; omega
  have HTD : Hid (Lk.trimL x2.data.toList = t.data.toList) := by show _ = _; rw [ht]
  have HAD : Hid (Lk.lower x1.data.toList = a.data.toList) := by show _ = _; rw [ha]
  have HT := Lib.hid ht
  have HA := Lib.hid ha
  clear ha
  by_cases h128 : 128 < t.size
  · have HE : Hid (safeH (hd (x1, x2)) = false) := safe_long (h := hd (x1, x2)) (by show 128 < (Lk.trimL x2.data.toList).length; omega)
    clear htz ht
    go_enter Try.func34, Try.ntmps34
    go_wp2_with fail
    refine (Trim_any x2 _ h2).mono ?_
    rintro e w1 ⟨rfl, hw⟩
    rw [← HT.out]
    have HB : Hid (Below w.heap.size w w1) := by rw [← hw]; exact (Below.refl _ _).alloc (Nat.le_refl _) _
    clear hw
    go_wp2
    go_ret
    exact ⟨ret_bool HE.out.symm, HB.out⟩
  have HE : Hid (safeH (hd (x1, x2)) = kindOk a.data.toList t.data.toList) := by
    show _ = _
    rw [safe_short (h := hd (x1, x2)) (by show ¬ 128 < (Lk.trimL x2.data.toList).length; omega), ← HTD.out, ← HAD.out]; rfl
  clear htz ht
  have HK := Lib.hid (kind_eq a t.data.toList)
  unfold acceptT alangT clangT ctypeT rangeT at HK
  go_enter Try.func34, Try.ntmps34
  go_wp2_with fail
  refine (Trim_any x2 _ h2).mono ?_
  rintro e w1 ⟨rfl, hw⟩
  rw [← HT.out]
  have c1 : w1.cell? ⟨w.heap.size, 0, none⟩ = some (.string x1) := by rw [← hw]; simp
  have HB : Hid (Below w.heap.size w w1) := by rw [← hw]; exact (Below.refl _ _).alloc (Nat.le_refl _) _
  clear hw
  go_wp2_with fail
  refine (Lower_any x1 _ h1).mono ?_
  rintro e w2 ⟨rfl, hb2⟩
  rw [← HA.out]
  have HB2 : Hid (Below w.heap.size w w2) := HB.out.trans (hb2.mono HB.out.size)
  clear hb2 c1
  cases q1 : a.toList == [97, 99, 99, 101, 112, 116]
  case true =>
    have Q1 := Lib.hid q1
    go_wp2_with fail
    refine (allB_any t _ htm).mono ?_
    rintro e w' ⟨rfl, rfl⟩
    go_wp2
    go_ret
    exact ⟨ret_bool (by rw [HE.out, HK.out, Q1.out]; rfl), HB2.out⟩
  have Q1 := Lib.hid q1
  cases q2 : a.toList == [97, 99, 99, 101, 112, 116, 45, 108, 97, 110, 103, 117, 97, 103, 101]
  case true =>
    have Q2 := Lib.hid q2
    go_wp2_with fail
    refine (allL_any t _ htm).mono ?_
    rintro e w' ⟨rfl, rfl⟩
    go_wp2
    go_ret
    exact ⟨ret_bool (by rw [HE.out, HK.out, Q1.out, Q2.out]; rfl), HB2.out⟩
  have Q2 := Lib.hid q2
  cases q3 : a.toList == [99, 111, 110, 116, 101, 110, 116, 45, 108, 97, 110, 103, 117, 97, 103, 101]
  case true =>
    have Q3 := Lib.hid q3
    go_wp2_with fail
    refine (allL_any t _ htm).mono ?_
    rintro e w' ⟨rfl, rfl⟩
    go_wp2
    go_ret
    exact ⟨ret_bool (by rw [HE.out, HK.out, Q1.out, Q2.out, Q3.out]; rfl), HB2.out⟩
  have Q3 := Lib.hid q3
  cases q4 : a.toList == [99, 111, 110, 116, 101, 110, 116, 45, 116, 121, 112, 101]
  case true =>
    have Q4 := Lib.hid q4
    go_wp2_with fail
    refine (allB_any t _ htm).mono ?_
    rintro e w' ⟨rfl, rfl⟩
    cases hall : bytesOk t.data.toList
    · have HALL := Lib.hid hall
      go_wp2
      go_ret
      exact ⟨ret_bool (by rw [HE.out, HK.out, Q1.out, Q2.out, Q3.out, Q4.out, HALL.out]; rfl), HB2.out⟩
    · have HALL := Lib.hid hall
      go_wp2_with fail
      refine (isFormType_any t _ htm).mono ?_
      rintro e w3 ⟨rfl, hb3⟩
      have HB3 : Hid (Below w.heap.size w w3) := HB2.out.trans (hb3.mono HB2.out.size)
      clear hb3
      go_wp2
      go_ret
      exact ⟨ret_bool (by rw [HE.out, HK.out, Q1.out, Q2.out, Q3.out, Q4.out, HALL.out]; rfl), HB3.out⟩
  have Q4 := Lib.hid q4
  cases q5 : a.toList == [114, 97, 110, 103, 101]
  case true =>
    have Q5 := Lib.hid q5
    go_wp2_with fail
    refine (Range_any t _ htm).mono ?_
    rintro e w3 ⟨rfl, n, hw3⟩
    have HB3 : Hid (Below w.heap.size w w3) := by rw [hw3]; exact below_drewN HB2.out _
    clear hw3
    go_wp2
    go_ret
    exact ⟨ret_bool (by rw [HE.out, HK.out, Q1.out, Q2.out, Q3.out, Q4.out, Q5.out]; rfl), HB3.out⟩
  have Q5 := Lib.hid q5
  go_wp2
  go_ret
  exact ⟨ret_bool (by rw [HE.out, HK.out, Q1.out, Q2.out, Q3.out, Q4.out, Q5.out]; rfl), HB2.out⟩
end Go.Proofs.Ytinpfkbplflecaa
