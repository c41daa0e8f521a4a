/-
  Contracts of the document's own answer of layer 3: Parse; and Count of layer 1. Conditions: the texts' sizes are such as any text's.
-/
import Derived.Test.YtfamllkmmiajoaaDoorGRef2
import Derived.Test.YtfamllkmmiajoaaDoorGParse
namespace Go.Proofs.YtfamllkmmiajoaaDoor
open Go.RowKit

def countV (d : List UInt8) (most : Nat) : Value := .tuple #[.int .u64 (if okC d most then (Lk.sat (Lk.valL d) : Int) else 0), .bool (okC d most)]
theorem countV_f {d : List UInt8} {most : Nat} (h : okC d most = false) : countV d most = .tuple #[.int .u64 0, .bool false] := by rw [countV, h]; rfl
theorem countV_t {d : List UInt8} {most : Nat} (h : okC d most = true) : countV d most = .tuple #[.int .u64 (Lk.sat (Lk.valL d) : Int), .bool true] := by rw [countV, h]; rfl

set_option maxHeartbeats 1000000 in
theorem refCount_any (s : ByteArray) (most : Nat) (w : World) (hs : s.size ≤ maxLen) (hm : most ≤ Lk.M64) :
    Calls Tryd.prog 55 #[.string s, .int .u64 (most : Int)] w fun e w' => e = .returned (countV s.data.toList most) ∧ w = w' := by
  have hs0 := hs
  unfold maxLen at hs
  have hl : s.data.toList.length = s.size := by simp
  cases hd : Lk.digL s.data.toList
  · have HD := Lib.hid (digRes_f hd)
    have HV : Hid (countV s.data.toList most = .tuple #[.int .u64 0, .bool false]) := countV_f (by rw [okC, hd]; rfl)
    clear hd hl
    go_enter Tryd.func55, Tryd.ntmps55
    go_wp2_with fail
    refine (refDigits_any _ _ hs0).mono ?_
    rintro e w' ⟨rfl, rfl⟩
    rw [HD.out]
    go_wp2
    go_ret2
    exact ⟨by rw [HV.out]; rfl, rfl⟩
  have HD := Lib.hid (digRes_t hd)
  by_cases h20 : 20 < s.size
  · have HV : Hid (countV s.data.toList most = .tuple #[.int .u64 0, .bool false]) := countV_f (by
      have : decide (s.data.toList.length ≤ 20) = false := by rw [hl]; simp; omega
      rw [okC, this]; simp)
    clear hd hl
    go_enter Tryd.func55, Tryd.ntmps55
    go_wp2_with fail
    refine (refDigits_any _ _ hs0).mono ?_
    rintro e w' ⟨rfl, rfl⟩
    rw [HD.out]
    go_wp2
    go_ret2
    exact ⟨by rw [HV.out]; rfl, rfl⟩
  have h20t : decide (s.data.toList.length ≤ 20) = true := by rw [hl]; simp; omega
  have hsat := Lk.sat_le (Lk.valL s.data.toList)
  have HO : Hid (okC s.data.toList most = ((numL (Lk.sat (Lk.valL s.data.toList)) == s.data.toList) && decide (Lk.sat (Lk.valL s.data.toList) ≤ most))) := by
    show _ = _; rw [okC, hd, h20t]; simp
  have HV : Hid (countV s.data.toList most = .tuple #[.int .u64 (if okC s.data.toList most then (Lk.sat (Lk.valL s.data.toList) : Int) else 0), .bool (okC s.data.toList most)]) := rfl
  clear hd h20t hl
  generalize Lk.sat (Lk.valL s.data.toList) = n at *
  have hM : most ≤ 18446744073709551615 := hm
  have hN : n ≤ 18446744073709551615 := hsat
  obtain ⟨u, hu⟩ : ∃ u : ByteArray, u = mk (numL n) := ⟨_, rfl⟩
  have HU := Lib.hid hu
  have hul : u.toList = numL n := by rw [hu, ByteArray.toList_eq, mk_data]
  cases hq : (u.toList == s.toList)
  case true =>
    have hq2 : (numL n == s.data.toList) = true := by
      have : u.toList = s.toList := by simpa using hq
      rw [hul, ByteArray.toList_eq] at this
      rw [this]; simp
    by_cases hmost : most < n
    · have HF : Hid (okC s.data.toList most = false) := by
        show _ = _; rw [HO.out]
        have : decide (n ≤ most) = false := by simp; omega
        rw [this]; simp
      clear hu hul hq2
      go_enter Tryd.func55, Tryd.ntmps55
      go_wp2_with fail
      refine (refDigits_any _ _ hs0).mono ?_
      rintro e w' ⟨rfl, rfl⟩
      rw [HD.out]
      go_wp2_with fail
      refine (Num_any n _ hsat).mono ?_
      rintro e w' ⟨rfl, rfl⟩
      rw [← HU.out]
      go_wp2
      go_ret2
      exact ⟨by rw [HV.out, HF.out]; rfl, rfl⟩
    · have HF : Hid (okC s.data.toList most = true) := by
        show _ = _; rw [HO.out, hq2]
        simp; omega
      clear hu hul hq2
      go_enter Tryd.func55, Tryd.ntmps55
      go_wp2_with fail
      refine (refDigits_any _ _ hs0).mono ?_
      rintro e w' ⟨rfl, rfl⟩
      rw [HD.out]
      go_wp2_with fail
      refine (Num_any n _ hsat).mono ?_
      rintro e w' ⟨rfl, rfl⟩
      rw [← HU.out]
      go_wp2
      go_ret2
      exact ⟨by rw [HV.out, HF.out]; rfl, rfl⟩
  case false =>
    have HF : Hid (okC s.data.toList most = false) := by
      show _ = _; rw [HO.out]
      have : (numL n == s.data.toList) = false := by
        rw [beq_eq_false_iff_ne]
        intro e
        rw [hul, e, ByteArray.toList_eq] at hq
        simp at hq
      rw [this]; simp
    clear hu hul
    go_enter Tryd.func55, Tryd.ntmps55
    go_wp2_with fail
    refine (refDigits_any _ _ hs0).mono ?_
    rintro e w' ⟨rfl, rfl⟩
    rw [HD.out]
    go_wp2_with fail
    refine (Num_any n _ hsat).mono ?_
    rintro e w' ⟨rfl, rfl⟩
    rw [← HU.out]
    go_wp2
    go_ret2
    exact ⟨by rw [HV.out, HF.out]; rfl, rfl⟩
end Go.Proofs.YtfamllkmmiajoaaDoor
