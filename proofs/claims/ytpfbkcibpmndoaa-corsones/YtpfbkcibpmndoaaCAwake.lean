/-
  What layer 15's statements share: what the chapter tells by example, over this seat's program. Conditions: none.
-/
import Derived.Test.YtpfbkcibpmndoaaCRef
namespace Go.Proofs.Ytpfbkcibpmndoaa
open Go.RowKit

theorem aw15_1 : chkH (⟨#[104, 116, 116, 112, 58, 47, 47, 97]⟩ : ByteArray).data.toList true ([((⟨#[65, 99, 99, 101, 115, 115, 45, 67, 111, 110, 116, 114, 111, 108, 45, 65, 108, 108, 111, 119, 45, 79, 114, 105, 103, 105, 110]⟩ : ByteArray), (⟨#[42]⟩ : ByteArray))].map hd) = 15 := by decide
theorem aw15_2 : chkH (⟨#[104, 116, 116, 112, 58, 47, 47, 97]⟩ : ByteArray).data.toList false ([((⟨#[65, 99, 99, 101, 115, 115, 45, 67, 111, 110, 116, 114, 111, 108, 45, 65, 108, 108, 111, 119, 45, 79, 114, 105, 103, 105, 110]⟩ : ByteArray), (⟨#[42]⟩ : ByteArray))].map hd) = 0 := by decide
theorem aw15_3 : chkH (⟨#[104, 116, 116, 112, 58, 47, 47, 97]⟩ : ByteArray).data.toList false (([] : List (ByteArray × ByteArray)).map hd) = 15 := by decide
theorem aw15_s : Sm ([((⟨#[65, 99, 99, 101, 115, 115, 45, 67, 111, 110, 116, 114, 111, 108, 45, 65, 108, 108, 111, 119, 45, 79, 114, 105, 103, 105, 110]⟩ : ByteArray), (⟨#[42]⟩ : ByteArray))].map hd) := ⟨by decide, by decide⟩
/-- Check, told by a name for its answer -/
theorem chk_as (o : ByteArray) (cr : Bool) (A : Option Addr) (len c B : Nat) (xs : List (ByteArray × ByteArray)) (w : World) (k : Int) (hlen : len = xs.length) (hB : B ≤ w.heap.size) (hx : PRow w B A xs) (hsm : Sm (xs.map hd)) (hk : chkH o.data.toList cr (xs.map hd) = k) :
    Calls Try.prog 10 #[.string o, .bool cr, .slice A len c] w fun e w' => e = .returned (.int .i64 k) ∧ Below w.heap.size w w' := by
  rw [← hk]; exact CCheck_any o cr A len c B xs w hlen hB hx hsm

set_option maxHeartbeats 1000000 in
theorem awake15_any (w : World) : Calls Try.prog 9 #[] w fun e w' => e = .returned (.bool true) ∧ Below w.heap.size w w' := by
  obtain ⟨W, hW⟩ : ∃ W, W = w.alloc (.cells #[.string ⟨#[65, 99, 99, 101, 115, 115, 45, 67, 111, 110, 116, 114, 111, 108, 45, 65, 108, 108, 111, 119, 45, 79, 114, 105, 103, 105, 110]⟩, .string ⟨#[42]⟩] 35) := ⟨_, rfl⟩
  have HB : Hid (Below w.heap.size w W) := by show Below _ _ _; rw [hW]; exact (Below.refl _ _).alloc (Nat.le_refl _) _
  have HP : Hid (PRow W (w.heap.size + 1) (some ⟨w.heap.size, 0, none⟩) [((⟨#[65, 99, 99, 101, 115, 115, 45, 67, 111, 110, 116, 114, 111, 108, 45, 65, 108, 108, 111, 119, 45, 79, 114, 105, 103, 105, 110]⟩ : ByteArray), (⟨#[42]⟩ : ByteArray))]) := by show PRow _ _ _ _; rw [hW]; exact PRow.one_at _ _ _ _ _ rfl
  have HZ : Hid (w.heap.size + 1 ≤ W.heap.size) := by show _ ≤ _; rw [hW]; simp
  go_enter Try.func9, Try.ntmps9
  go_wp2_with fail
  rw [← hW]
  clear hW
  refine (chk_as _ true _ 1 1 (w.heap.size + 1) [((⟨#[65, 99, 99, 101, 115, 115, 45, 67, 111, 110, 116, 114, 111, 108, 45, 65, 108, 108, 111, 119, 45, 79, 114, 105, 103, 105, 110]⟩ : ByteArray), (⟨#[42]⟩ : ByteArray))] _ 15 rfl HZ.out HP.out aw15_s aw15_1).mono ?_
  rintro e w1 ⟨rfl, hb⟩
  have HP1 : Hid (PRow w1 (w.heap.size + 1) (some ⟨w.heap.size, 0, none⟩) [((⟨#[65, 99, 99, 101, 115, 115, 45, 67, 111, 110, 116, 114, 111, 108, 45, 65, 108, 108, 111, 119, 45, 79, 114, 105, 103, 105, 110]⟩ : ByteArray), (⟨#[42]⟩ : ByteArray))]) := HP.out.below (hb.mono HZ.out)
  have HB1 : Hid (Below w.heap.size w w1) := HB.out.trans (hb.mono HB.out.size)
  have HZ1 : Hid (w.heap.size + 1 ≤ w1.heap.size) := Nat.le_trans HZ.out hb.size
  clear hb
  go_wp2_with fail
  refine (chk_as _ false _ 1 1 (w.heap.size + 1) [((⟨#[65, 99, 99, 101, 115, 115, 45, 67, 111, 110, 116, 114, 111, 108, 45, 65, 108, 108, 111, 119, 45, 79, 114, 105, 103, 105, 110]⟩ : ByteArray), (⟨#[42]⟩ : ByteArray))] _ 0 rfl HZ1.out HP1.out aw15_s aw15_2).mono ?_
  rintro e w2 ⟨rfl, hb⟩
  have HB2 : Hid (Below w.heap.size w w2) := HB1.out.trans (hb.mono HB1.out.size)
  clear hb
  go_wp2_with fail
  refine (chk_as _ false none 0 0 w2.heap.size [] _ 15 rfl (Nat.le_refl _) (PRow.nil _ _ _) ⟨by decide, by decide⟩ aw15_3).mono ?_
  rintro e w3 ⟨rfl, hb⟩
  have HB3 : Hid (Below w.heap.size w w3) := HB2.out.trans (hb.mono HB2.out.size)
  clear hb
  go_wp2
  go_ret
  exact ⟨rfl, HB3.out⟩
end Go.Proofs.Ytpfbkcibpmndoaa
