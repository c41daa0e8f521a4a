/-
  The contract of header's Check over this seat's program: it returns what the plain mathematics says, and nothing that was there has turned. Conditions: the texts' sizes are such as any text's, values below 2^32 - 15.
-/
import Derived.Test.YtinpfkbplflecaaDHdr
namespace Go.Proofs.Ytinpfkbplflecaa
open Go.RowKit

set_option maxHeartbeats 1000000 in
theorem isName_any (s : ByteArray) (w : World) (hs : s.size ≤ maxLen) :
    Calls Try.prog 48 #[.string s] w fun e w' => e = .returned (.bool (nameOk s.data.toList)) ∧ w = w' := by
  have HS : Hid (s.data.toList.length = s.size) := by show _ = _; simp
  by_cases h : s.size ≤ 64
  · have HE : Hid (nameOk s.data.toList = Lk.tokL s.data.toList) := by show _ = _; unfold nameOk; rw [HS.out]; simp [h]
    go_enter Try.func48, Try.ntmps48
    go_wp2_with fail
    refine (Token_any s _ hs).mono ?_
    rintro e w' ⟨rfl, rfl⟩
    go_wp2
    go_ret
    exact ⟨ret_bool HE.out.symm, rfl⟩
  · have HE : Hid (nameOk s.data.toList = false) := by show _ = _; unfold nameOk; rw [HS.out]; simp; omega
    go_enter Try.func48, Try.ntmps48
    go_wp2
    go_ret
    exact ⟨ret_bool HE.out.symm, rfl⟩

theorem bad_any (l : List UInt8) : Lib.containsAny l [0, 10, 13] = badB l := by
  rw [containsAny_eq]
  unfold badB Lk.inL
  induction l with
  | nil => rfl
  | cons b r ih =>
    simp only [List.any_cons] at ih ⊢
    rw [ih]
    have h : ∀ c : UInt8, ([0, 10, 13] : List UInt8).contains c = (((c.toNat : Int) == 0) || ((c.toNat : Int) == 10) || ((c.toNat : Int) == 13)) := by
      intro c
      rw [Bool.eq_iff_iff]
      simp only [List.contains_cons, List.contains_nil, Bool.or_false, Bool.or_eq_true, beq_iff_eq]
      have e : ∀ k : Nat, k < 256 → (c = UInt8.ofNat k ↔ (c.toNat : Int) = k) := by
        intro k hk
        constructor
        · rintro rfl; simp; omega
        · intro h; apply UInt8.toNat_inj.1; simp; omega
      have e0 : (c = 0) = ((c.toNat : Int) = 0) := propext (e 0 (by omega))
      have e1 : (c = 10) = ((c.toNat : Int) = 10) := propext (e 10 (by omega))
      have e2 : (c = 13) = ((c.toNat : Int) = 13) := propext (e 13 (by omega))
      rw [e0, e1, e2]
      omega
    rw [h]
    cases ((b.toNat : Int) == 0) <;> cases ((b.toNat : Int) == 10) <;> cases ((b.toNat : Int) == 13) <;> simp
theorem asc_bad : Asc ⟨#[0, 10, 13]⟩ := by intro b hb; simp at hb; rcases hb with rfl | rfl | rfl <;> decide

set_option maxHeartbeats 1000000 in
theorem isValue_any (s : ByteArray) (w : World) :
    Calls Try.prog 49 #[.string s] w fun e w' => e = .returned (.bool (valOk s.data.toList)) ∧ Below w.heap.size w w' := by
  have HS : Hid (s.data.toList.length = s.size) := by show _ = _; simp
  by_cases h : s.size ≤ 4096
  · have HE : Hid (valOk s.data.toList = !Lib.containsAny s.data.toList (ByteArray.mk #[0, 10, 13]).data.toList) := by
      show _ = _; rw [show (ByteArray.mk #[0, 10, 13]).data.toList = [0, 10, 13] from rfl, bad_any]; unfold valOk; rw [HS.out]; simp [h]
    go_enter Try.func49, Try.ntmps49
    go_wp2_with fail
    refine (ContainsAny_asc s ⟨#[0, 10, 13]⟩ _ (by omega) asc_bad (by decide) (by decide)).mono ?_
    rintro e w' ⟨rfl, hb⟩
    generalize Lib.containsAny s.data.toList (ByteArray.mk #[0, 10, 13]).data.toList = q at *
    cases q
    · go_wp2
      go_ret
      exact ⟨ret_bool HE.out.symm, hb⟩
    · go_wp2
      go_ret
      exact ⟨ret_bool HE.out.symm, hb⟩
  · have HE : Hid (valOk s.data.toList = false) := by show _ = _; unfold valOk; rw [HS.out]; simp; omega
    go_enter Try.func49, Try.ntmps49
    go_wp2
    go_ret
    exact ⟨ret_bool HE.out.symm, Below.refl _ _⟩

set_option maxHeartbeats 1000000 in
theorem Check6_any (A : Option Addr) (len c B : Nat) (xs : List (ByteArray × ByteArray)) (w : World) (hlen : len = xs.length) (hB : B ≤ w.heap.size) (hx : PRow w B A xs) (hl : xs.length ≤ maxLen) (hs : ∀ x ∈ xs, x.1.size ≤ maxLen ∧ x.2.size ≤ maxLen) :
    Calls Try.prog 15 #[.slice A len c] w fun e w' => e = .returned (.int .i64 (checkH (xs.map hd))) ∧ Below w.heap.size w w' := by
  subst hlen
  unfold maxLen at hl
  have HX := Lib.hid hx
  have HS := Lib.hid hs
  clear hx hs
  by_cases h32 : 32 < xs.length
  · have HE : Hid (checkH (xs.map hd) = 4) := by show _ = _; unfold checkH; rw [if_pos (by simpa using h32)]
    go_enter Try.func15, Try.ntmps15
    go_wp2
    go_ret
    exact ⟨ret_int HE.out.symm, Below.refl _ _⟩
  have HE : Hid (checkH (xs.map hd) = if (xs.map hd).all okH then 0 else 6) := by show _ = _; unfold checkH; rw [if_neg (by simpa using h32)]
  go_enter Try.func15, Try.ntmps15
  go_wp2_with fail
  go_loopw [10] (fun i wr => ∃ k : Nat, k ≤ xs.length ∧ i = .int .i64 k ∧ (((xs.take k).map hd).all okH = true) ∧ Below w.heap.size w wr) (fun i _ => xs.length - (intOf i).toNat)
  case atStart => exact ⟨0, Nat.zero_le _, rfl, rfl, Below.refl _ _⟩
  case round =>
    obtain ⟨k, hk, rfl, hall, hb⟩ := hrel
    have HAL := Lib.hid hall
    have HBB := Lib.hid hb
    clear hall hb
    by_cases hlt : k < xs.length
    · obtain ⟨ad, hA, _, hc1, hc2⟩ := ((HX.out.mono hB).below HBB.out) k xs[k] (List.getElem?_eq_getElem hlt)
      have hz := HS.out xs[k] (List.getElem_mem hlt)
      have HD : Hid (xs.take (k + 1) = xs.take k ++ [xs[k]]) := List.take_succ_eq_append_getElem hlt
      have HM : Hid (hd xs[k] ∈ xs.map hd) := List.mem_map_of_mem (List.getElem_mem hlt)
      generalize xs[k] = x at *
      obtain ⟨x1, x2⟩ := x
      subst hA
      obtain ⟨W, hW⟩ : ∃ W, W = wr.alloc (.cells #[.string x1, .string x2] 41) := ⟨_, rfl⟩
      have HBW : Hid (Below w.heap.size w W) := by show Below _ _ _; rw [hW]; exact HBB.out.alloc HBB.out.size _
      have HBC : Hid (W.cell? ⟨wr.heap.size, 1, none⟩ = some (.string x2)) := by show _ = _; rw [hW]; simp
      obtain ⟨t, ht⟩ : ∃ t : ByteArray, t = ⟨(Lk.trimL x2.data.toList).toArray⟩ := ⟨_, rfl⟩
      have HT := Lib.hid ht
      have HTL : Hid (t.data.toList = Lk.trimL x2.data.toList) := by show _ = _; rw [ht]
      clear ht
      go_wp2_with fail
      rw [← hW]
      refine (isName_any x1 _ hz.1).mono ?_
      rintro e w' ⟨rfl, rfl⟩
      clear hW hc1 hc2
      have hbc := HBC.out
      cases hn : nameOk x1.data.toList
      · have HN := Lib.hid hn
        clear hn
        go_wp2
        go_ret
        refine ⟨ret_int ?_, HBW.out⟩
        rw [HE.out, if_neg]
        intro h
        have := List.all_eq_true.1 h _ HM.out
        simp [okH, hd, HN.out] at this
      · have HN := Lib.hid hn
        clear hn
        go_wp2_with fail
        refine (Trim_as x2 t _ hz.2 HT.out).mono ?_
        rintro e w' ⟨rfl, rfl⟩
        go_wp2_with fail
        refine (isValue_any t _).mono ?_
        rintro e w2 ⟨rfl, hb2⟩
        have HB2 : Hid (Below w.heap.size w w2) := HBW.out.trans (hb2.mono HBW.out.size)
        clear hb2 hbc
        cases hv : valOk t.data.toList
        · have HV := Lib.hid hv
          clear hv
          go_wp2
          go_ret
          refine ⟨ret_int ?_, HB2.out⟩
          rw [HE.out, if_neg]
          intro h
          have := List.all_eq_true.1 h _ HM.out
          simp [okH, hd, ← HTL.out, HV.out] at this
        · have HV := Lib.hid hv
          clear hv
          go_wp2
          go_roundw
          case rel =>
            refine ⟨k + 1, by omega, by go_num, ?_, HB2.out⟩
            rw [HD.out, List.map_append, List.all_append, HAL.out]
            simp [okH, hd, ← HTL.out, HV.out, HN.out]
          case measure => simp [intOf]; omega
    · obtain rfl : k = xs.length := by omega
      go_wp2
      go_ret
      refine ⟨ret_int ?_, HBB.out⟩
      have := HAL.out
      rw [List.take_length] at this
      rw [HE.out, this]; rfl
end Go.Proofs.Ytinpfkbplflecaa
