/-
  Contracts of octet over this seat's program, those that lean on nothing of the library. Conditions: those of each statement.
-/
import Derived.Test.YtoafncfknllghaaLBase
import Derived.BigQuiet
import Derived.Deep.QuietTactic
import Derived.Lib.Strings
namespace Go.Proofs.Ytoafncfknllghaa
open Go.RowKit

set_option maxHeartbeats 400000 in
theorem lowerByte_any (c : Int) (w : World) (h0 : 0 ≤ c) (h1 : c ≤ 255) :
    Calls Try.prog 34 #[.int .u8 c] w fun e w' => e = .returned (.int .u8 (Lk.lowI c)) ∧ w = w' := by
  by_cases a : 65 ≤ c
  · by_cases b : c ≤ 90
    · go_enter Try.func34, Try.ntmps34
      go_wp2
      go_ret
      exact ⟨ret_int (by rw [Lk.lowI_up a b]), rfl⟩
    · go_enter Try.func34, Try.ntmps34
      go_wp2
      go_ret
      exact ⟨ret_int (by rw [Lk.lowI_not (by omega)]), rfl⟩
  · go_enter Try.func34, Try.ntmps34
    go_wp2
    go_ret
    exact ⟨ret_int (by rw [Lk.lowI_not (by omega)]), rfl⟩

end Go.Proofs.Ytoafncfknllghaa

namespace Go.Proofs.Ytoafncfknllghaa
open Go.RowKit

theorem ret_string {a b : ByteArray} (h : a = b) : Ending.returned (.string a) = .returned (.string b) := by rw [h]

theorem quiet_mine {f : FuncId} {args : Array Value} {w : World} {n : Nat} {v : Value}
    (h : Calls Try.prog f args (w.drewN n) fun e w' => e = .returned v ∧ w.drewN n = w') : Calls Try.prog f args (w.drewN n) fun e w'' => e = .returned v ∧ ∃ m, w'' = w.drewN m :=
  h.mono fun _ _ ⟨he, hm⟩ => ⟨he, n, hm.symm⟩

end Go.Proofs.Ytoafncfknllghaa

namespace Go.Proofs.Ytoafncfknllghaa
open Go.RowKit

theorem trim_fin {s : ByteArray} {k m : Nat} (hkm : k ≤ m) (hm : m ≤ s.size) (ha : (s.data.toList.take k).all Lk.sp = true) (hd : (s.data.toList.drop m).all Lk.sp = true)
    (hf : s.size ≤ k ∨ ∃ h : k < s.size, Lk.sp s[k] = false) (he : k = m ∨ k < m ∧ ∃ h : m - 1 < s.size, Lk.sp s[m - 1] = false) :
    s.extract k m = ⟨(Lk.trimL s.data.toList).toArray⟩ := by
  rw [Lib.extract_eq, Lk.trim_walk s.data.toList k m hkm (by simpa using hm) ha hd]
  rcases he with rfl | ⟨h1, h2, h3⟩
  · exact .inl rfl
  · rcases hf with h | ⟨h4, h5⟩
    · exact .inl (by omega)
    · exact .inr ⟨⟨by simpa using h4, h5⟩, by omega, by simpa using h2, h3⟩

end Go.Proofs.Ytoafncfknllghaa

namespace Go.Proofs.Ytoafncfknllghaa
open Go.RowKit

def digRes (l : List UInt8) : Value := .tuple #[.int .u64 (if Lk.digL l then (Lk.sat (Lk.valL l) : Int) else 0), .bool (Lk.digL l)]
theorem digRes_t {l : List UInt8} (h : Lk.digL l = true) : digRes l = .tuple #[.int .u64 (Lk.sat (Lk.valL l) : Int), .bool true] := by
  unfold digRes; rw [h]; rfl
theorem digRes_f {l : List UInt8} (h : Lk.digL l = false) : digRes l = .tuple #[.int .u64 0, .bool false] := by
  unfold digRes; rw [h]; rfl

end Go.Proofs.Ytoafncfknllghaa
