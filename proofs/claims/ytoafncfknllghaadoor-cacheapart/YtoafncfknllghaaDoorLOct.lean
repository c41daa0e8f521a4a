/-
  Contracts of octet over this seat's program, those that lean on nothing of the library. Conditions: those of each statement.
-/
import Derived.Test.YtoafncfknllghaaDoorLBase
import Derived.BigQuiet
import Derived.Deep.QuietTactic
import Derived.Lib.Strings
namespace Go.Proofs.YtoafncfknllghaaDoor
open Go.RowKit

set_option maxHeartbeats 400000 in
theorem lowerByte_any (c : Int) (w : World) (h0 : 0 ≤ c) (h1 : c ≤ 255) :
    Calls Tryd.prog 48 #[.int .u8 c] w fun e w' => e = .returned (.int .u8 (Lk.lowI c)) ∧ w = w' := by
  by_cases a : 65 ≤ c
  · by_cases b : c ≤ 90
    · go_enter Tryd.func48, Tryd.ntmps48
      go_wp2
      go_ret
      exact ⟨ret_int (by rw [Lk.lowI_up a b]), rfl⟩
    · go_enter Tryd.func48, Tryd.ntmps48
      go_wp2
      go_ret
      exact ⟨ret_int (by rw [Lk.lowI_not (by omega)]), rfl⟩
  · go_enter Tryd.func48, Tryd.ntmps48
    go_wp2
    go_ret
    exact ⟨ret_int (by rw [Lk.lowI_not (by omega)]), rfl⟩

end Go.Proofs.YtoafncfknllghaaDoor

namespace Go.Proofs.YtoafncfknllghaaDoor
open Go.RowKit

theorem ret_string {a b : ByteArray} (h : a = b) : Ending.returned (.string a) = .returned (.string b) := by rw [h]

theorem quiet_mine {f : FuncId} {args : Array Value} {w : World} {n : Nat} {v : Value}
    (h : Calls Tryd.prog f args (w.drewN n) fun e w' => e = .returned v ∧ w.drewN n = w') : Calls Tryd.prog f args (w.drewN n) fun e w'' => e = .returned v ∧ ∃ m, w'' = w.drewN m :=
  h.mono fun _ _ ⟨he, hm⟩ => ⟨he, n, hm.symm⟩

set_option maxHeartbeats 400000 in
theorem Fold_any (a b : ByteArray) (w : World) (ha : a.size ≤ maxLen) (_hb : b.size ≤ maxLen) :
    Calls Tryd.prog 49 #[.string a, .string b] w fun e w' => e = .returned (.bool (Lk.foldL a.data.toList b.data.toList)) ∧ ∃ n, w' = w.drewN n := by
  unfold maxLen at ha
  by_cases hl : a.size = b.size
  · have H : ((a.size : Int) != (b.size : Int)) = false := by simp [hl]
    have HL := Lib.hid hl
    clear hl
    go_enter Tryd.func49, Tryd.ntmps49
    go_wp2
    go_loopw [5, 13] (fun _ i wr => ∃ k m : Nat, k ≤ a.size ∧ i = .int .i64 k ∧ wr = w.drewN m ∧ Lk.lower (a.data.toList.take k) = Lk.lower (b.data.toList.take k)) (fun _ i _ => a.size - (intOf i).toNat)
    case atStart => exact ⟨0, 0, Nat.zero_le _, rfl, rfl, rfl⟩
    case round =>
      obtain ⟨k, m, hk, rfl, hw, hr⟩ := hrel
      have HR := Lib.hid hr
      have HW := Lib.hid hw
      clear hr hw
      by_cases hlt : k < a.size
      · have hlt2 : k < b.size := by have := HL.out; omega
        have ba := Lk.byte_bd a[k]
        have bb := Lk.byte_bd b[k]
        by_cases hc : Lk.lowI a[k].toNat = Lk.lowI b[k].toNat
        · have HC := Lib.hid hc
          have hne : (Lk.lowI a[k].toNat != Lk.lowI b[k].toNat) = false := by simp [hc]
          clear hc
          go_wp2_with fail
          go_quiet ((go_at_call 48; exact quiet_mine (lowerByte_any _ _ (by omega) (by omega))))
          go_wp2
          go_roundw
          case rel => exact ⟨k + 1, _, by omega, by go_num, by rw [HW.out, World.drewN_drewN], Lk.fold_step hlt hlt2 HR.out HC.out⟩
          case measure => simp [intOf]; omega
        · have HC := Lib.hid hc
          have hne : (Lk.lowI a[k].toNat != Lk.lowI b[k].toNat) = true := by simp [hc]
          clear hc
          go_wp2_with fail
          go_quiet ((go_at_call 48; exact quiet_mine (lowerByte_any _ _ (by omega) (by omega))))
          go_wp2
          go_ret
          exact ⟨ret_bool (by rw [Lk.fold_no hlt hlt2 HC.out]), _, by rw [HW.out, World.drewN_drewN]⟩
      · go_wp2
        go_ret
        exact ⟨ret_bool (by have h := HR.out; have := HL.out; rw [Lk.take_all a k (by omega), Lk.take_all b k (by omega)] at h; rw [Lk.foldL, h]; simp), m, HW.out⟩
  · have H : ((a.size : Int) != (b.size : Int)) = true := by simp; omega
    go_enter Tryd.func49, Tryd.ntmps49
    go_wp2
    go_ret
    exact ⟨ret_bool (by rw [Lk.foldL]; symm; simp; intro h; exact hl (by have := congrArg List.length h; simpa [Lk.lower] using this)), 0, rfl⟩
end Go.Proofs.YtoafncfknllghaaDoor

namespace Go.Proofs.YtoafncfknllghaaDoor
open Go.RowKit

theorem trim_fin {s : ByteArray} {k m : Nat} (hkm : k ≤ m) (hm : m ≤ s.size) (ha : (s.data.toList.take k).all Lk.sp = true) (hd : (s.data.toList.drop m).all Lk.sp = true)
    (hf : s.size ≤ k ∨ ∃ h : k < s.size, Lk.sp s[k] = false) (he : k = m ∨ k < m ∧ ∃ h : m - 1 < s.size, Lk.sp s[m - 1] = false) :
    s.extract k m = ⟨(Lk.trimL s.data.toList).toArray⟩ := by
  rw [Lib.extract_eq, Lk.trim_walk s.data.toList k m hkm (by simpa using hm) ha hd]
  rcases he with rfl | ⟨h1, h2, h3⟩
  · exact .inl rfl
  · rcases hf with h | ⟨h4, h5⟩
    · exact .inl (by omega)
    · exact .inr ⟨⟨by simpa using h4, h5⟩, by omega, by simpa using h2, h3⟩

end Go.Proofs.YtoafncfknllghaaDoor

namespace Go.Proofs.YtoafncfknllghaaDoor
open Go.RowKit

def digRes (l : List UInt8) : Value := .tuple #[.int .u64 (if Lk.digL l then (Lk.sat (Lk.valL l) : Int) else 0), .bool (Lk.digL l)]
theorem digRes_t {l : List UInt8} (h : Lk.digL l = true) : digRes l = .tuple #[.int .u64 (Lk.sat (Lk.valL l) : Int), .bool true] := by
  unfold digRes; rw [h]; rfl
theorem digRes_f {l : List UInt8} (h : Lk.digL l = false) : digRes l = .tuple #[.int .u64 0, .bool false] := by
  unfold digRes; rw [h]; rfl

end Go.Proofs.YtoafncfknllghaaDoor
