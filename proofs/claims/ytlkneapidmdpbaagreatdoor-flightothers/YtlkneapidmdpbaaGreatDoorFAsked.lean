/-
  The contract of the statements' own asked over this seat's program: is a name one of six, whatever its letters' case? Condition: the name's size is such as any text's.
-/
import Derived.Test.YtlkneapidmdpbaaGreatDoorFMath3
namespace Go.Proofs.YtlkneapidmdpbaaGreatDoor
open Go.RowKit

abbrev preT : ByteArray := ⟨#[97, 99, 99, 101, 115, 115, 45, 99, 111, 110, 116, 114, 111, 108, 45, 97, 108, 108, 111, 119, 45]⟩
abbrev arr5 : Value := .agg #[.string ⟨#[111, 114, 105, 103, 105, 110]⟩, .string ⟨#[99, 114, 101, 100, 101, 110, 116, 105, 97, 108, 115]⟩, .string ⟨#[109, 101, 116, 104, 111, 100, 115]⟩, .string ⟨#[104, 101, 97, 100, 101, 114, 115]⟩, .string ⟨#[]⟩]
def seg5 (k : Int) : ByteArray := if k = 0 then ⟨#[111, 114, 105, 103, 105, 110]⟩ else if k = 1 then ⟨#[99, 114, 101, 100, 101, 110, 116, 105, 97, 108, 115]⟩ else if k = 2 then ⟨#[109, 101, 116, 104, 111, 100, 115]⟩ else if k = 3 then ⟨#[104, 101, 97, 100, 101, 114, 115]⟩ else ⟨#[]⟩
theorem idx5_0 (w : World) : (Instr.index 103 arr5 (.int .i64 0)).run Tryz.prog w = .ok (.string (seg5 0)) w := by kernel_rfl
theorem idx5_1 (w : World) : (Instr.index 103 arr5 (.int .i64 1)).run Tryz.prog w = .ok (.string (seg5 1)) w := by kernel_rfl
theorem idx5_2 (w : World) : (Instr.index 103 arr5 (.int .i64 2)).run Tryz.prog w = .ok (.string (seg5 2)) w := by kernel_rfl
theorem idx5_3 (w : World) : (Instr.index 103 arr5 (.int .i64 3)).run Tryz.prog w = .ok (.string (seg5 3)) w := by kernel_rfl
theorem idx5_4 (w : World) : (Instr.index 103 arr5 (.int .i64 4)).run Tryz.prog w = .ok (.string (seg5 4)) w := by kernel_rfl
def fiveN : List (List UInt8) := [orgN, crdN, metN, hdrN, preT.data.toList]
def askK (n : List UInt8) (k : Nat) : Bool := (fiveN.take k).any (fun x => Lk.foldL n x)
def askN (n : List UInt8) : Bool := askK n 5 || Lk.foldL n agN
theorem seg5_view {k : Nat} (h : k < 5) : (∀ w, (Instr.index 103 arr5 (.int .i64 (k : Int))).run Tryz.prog w = .ok (.string (seg5 (k : Int))) w) ∧ (seg5 (k : Int)).size ≤ 11 ∧
    ∀ n, askK n (k + 1) = (askK n k || Lk.foldL n (preT.data.toList ++ (seg5 (k : Int)).data.toList)) := by
  have key : ∀ n (l : List UInt8), fiveN.take (k + 1) = fiveN.take k ++ [l] → askK n (k + 1) = (askK n k || Lk.foldL n l) := by
    intro n l e; unfold askK; rw [e, List.any_append]; simp
  match k, h with
  | 0, _ => exact ⟨idx5_0, by decide, fun n => key n _ (by decide)⟩
  | 1, _ => exact ⟨idx5_1, by decide, fun n => key n _ (by decide)⟩
  | 2, _ => exact ⟨idx5_2, by decide, fun n => key n _ (by decide)⟩
  | 3, _ => exact ⟨idx5_3, by decide, fun n => key n _ (by decide)⟩
  | 4, _ => exact ⟨idx5_4, by decide, fun n => key n _ (by decide)⟩
theorem askN_no {n : List UInt8} (h : askN n = false) : Lk.foldL n orgN = false ∧ Lk.foldL n crdN = false ∧ Lk.foldL n metN = false ∧ Lk.foldL n hdrN = false ∧ Lk.foldL n agN = false := by
  unfold askN askK fiveN at h
  simp at h
  exact ⟨h.1.1, h.1.2.1, h.1.2.2.1, h.1.2.2.2.1, h.2⟩
theorem askN_yes {n : List UInt8} {k : Nat} (_h5 : k < 5) (h : askK n (k + 1) = true) : askN n = true := by
  unfold askN
  rw [Bool.or_eq_true]
  left
  unfold askK at h ⊢
  rw [List.any_eq_true] at h ⊢
  obtain ⟨x, hx, hf⟩ := h
  refine ⟨x, ?_, hf⟩
  have : fiveN.take 5 = fiveN := rfl
  rw [this]
  exact List.mem_of_mem_take hx

set_option maxHeartbeats 1000000 in
theorem asked_any (n : ByteArray) (w : World) (hn : n.size ≤ maxLen) :
    Calls Tryz.prog 35 #[.string n] w fun e w' => e = .returned (.bool (askN n.data.toList)) ∧ ∃ k, w' = w.drewN k := by
  have HN := Lib.hid hn
  clear hn
  go_enter Tryz.func35, Tryz.ntmps35
  go_wp2_with fail
  go_loopw [6] (fun i wr => ∃ (k m : Nat), k ≤ 5 ∧ i = .int .i64 k ∧ askK n.data.toList k = false ∧ wr = w.drewN m) (fun i _ => 5 - (intOf i).toNat)
  case atStart => exact ⟨0, 0, by omega, rfl, rfl, rfl⟩
  case round =>
    obtain ⟨k, m, hk, rfl, hf, hw⟩ := hrel
    have HF := Lib.hid hf
    have HW := Lib.hid hw
    clear hf hw
    by_cases hlt : k < 5
    · obtain ⟨hidx, hsz, hnx⟩ := seg5_view hlt
      have HNX := Lib.hid (hnx n.data.toList)
      obtain ⟨x, hx⟩ : ∃ x : ByteArray, preT ++ seg5 (k : Int) = x := ⟨_, rfl⟩
      have hxd : x.data.toList = preT.data.toList ++ (seg5 (k : Int)).data.toList := by rw [← hx]; simp
      have HXS : Hid (x.size ≤ maxLen) := by
        show _ ≤ _
        have h := congrArg List.length hxd
        simp at h
        have h2 : preT.size = 21 := rfl
        unfold maxLen; omega
      rw [← hxd] at HNX
      clear hnx hxd
      generalize seg5 (k : Int) = s at *
      go_wp2_with fail
      refine (Fold_any n x _ HN.out HXS.out).mono ?_
      rintro e w2 ⟨rfl, q, hw2⟩
      obtain ⟨f, hf⟩ : ∃ f, f = Lk.foldL n.data.toList x.data.toList := ⟨_, rfl⟩
      rw [← hf]
      have HK : Hid (askK n.data.toList (k + 1) = f) := by show _ = _; rw [HNX.out, HF.out, hf]; rfl
      have HW2 : Hid (w2 = w.drewN (m + q)) := by show _ = _; rw [hw2, HW.out, World.drewN_drewN]
      clear hf hw2
      cases f
      · go_wp2
        go_roundw
        case rel => exact ⟨k + 1, _, by omega, by go_num, HK.out, HW2.out⟩
        case measure => simp [intOf]; omega
      · have HV := Lib.hid (askN_yes hlt HK.out)
        go_wp2
        go_ret
        exact ⟨ret_bool HV.out.symm, _, HW2.out⟩
    · obtain rfl : k = 5 := by omega
      have HV : Hid (askN n.data.toList = Lk.foldL n.data.toList agN) := by show _ = _; unfold askN; rw [HF.out]; rfl
      go_wp2_with fail
      refine (Fold_any n _ _ HN.out (by unfold maxLen; decide)).mono ?_
      rintro e w2 ⟨rfl, q, hw2⟩
      have HW2 : Hid (w2 = w.drewN (m + q)) := by show _ = _; rw [hw2, HW.out, World.drewN_drewN]
      rw [show (ByteArray.mk #[97, 99, 99, 101, 115, 115, 45, 99, 111, 110, 116, 114, 111, 108, 45, 109, 97, 120, 45, 97, 103, 101]).data.toList = agN from rfl, ← HV.out]
      clear hw2
      go_wp2
      go_ret
      exact ⟨rfl, _, HW2.out⟩
end Go.Proofs.YtlkneapidmdpbaaGreatDoor
