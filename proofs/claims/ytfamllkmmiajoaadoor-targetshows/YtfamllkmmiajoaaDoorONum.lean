/-
  Contracts of the statements' helpers Text and Num, over this seat's program. Conditions: the numbers fit their kinds; a text of at most 1,000,000 bytes.
-/
import Derived.Test.YtfamllkmmiajoaaDoorOLower
import Derived.Test.YtfamllkmmiajoaaDoorOLow
import Derived.Test.YtfamllkmmiajoaaDoorKNum
namespace Go.Proofs.YtfamllkmmiajoaaDoor
open Go.RowKit

theorem infoB : (Tryd.prog.info? 5).map (fun i => (i.zero, i.size, i.bytes)) = some (some (.int .u8 0), 1, 1) := by kernel_rfl

theorem digit_at (d : Nat) (h : d ≤ 9) : (ByteArray.mk #[48, 49, 50, 51, 52, 53, 54, 55, 56, 57]).extract d (d + 1) = mk [UInt8.ofNat (48 + d)] := by
  have : ∀ d : Fin 10, ((ByteArray.mk #[48, 49, 50, 51, 52, 53, 54, 55, 56, 57]).extract d.val (d.val + 1)).data = (mk [UInt8.ofNat (48 + d.val)]).data := by decide +kernel
  have h2 := this ⟨d, by omega⟩
  exact WideShapes.bytes_inj (by rw [h2])

set_option maxHeartbeats 1000000 in
theorem Num_any (n0 : Nat) (w : World) (h0 : n0 ≤ Lk.M64) :
    Calls Tryd.prog 57 #[.int .u64 (n0 : Int)] w fun e w' => e = .returned (.string (mk (numL n0))) ∧ w = w' := by
  unfold Lk.M64 at h0
  go_enter Tryd.func57, Tryd.ntmps57
  go_wp2
  go_loop [0, 3] (fun a s => ∃ (n : Nat) (t : List UInt8), n ≤ n0 ∧ a = .int .u64 (n : Int) ∧ s = .string (mk t) ∧ t.length ≤ 26 ∧ numL n0 = numL n ++ t) (fun a _ => (intOf a).toNat)
  case atStart => exact ⟨n0, [], Nat.le_refl _, rfl, rfl, by simp, by simp⟩
  case round =>
    obtain ⟨n, t, hn, rfl, rfl, ht, he⟩ := hrel
    have hts : (mk t).size ≤ 26 := by rw [mk_size]; exact ht
    have HE := Lib.hid he
    have HLE : Hid ((numL n).length + t.length ≤ 26) := by
      have h1 := (numL_ok (n := n0) (by unfold Lk.M64; omega)).2.2
      show _ ≤ _
      rw [he, List.length_append] at h1; exact h1
    clear he
    by_cases h9 : n ≤ 9
    · have HD := Lib.hid (digit_at n h9)
      go_wp2
      go_ret
      exact ⟨ret_string (by rw [HD.out, mk_append, HE.out, numL_small h9]), rfl⟩
    · have HD := Lib.hid (digit_at (n % 10) (by omega))
      have HB := Lib.hid (numL_big h9 (by omega))
      go_wp2
      go_round
      case rel =>
        refine ⟨n / 10, UInt8.ofNat (48 + n % 10) :: t, by omega, by go_num, by rw [HD.out, mk_append]; rfl, ?_, by rw [HE.out, HB.out]; simp⟩
        have h1 := HLE.out
        rw [HB.out, List.length_append] at h1
        simp at h1 ⊢; omega
      case measure => simp [intOf]; omega

/-- a row of the call's own that holds bytes -/
theorem BRow.of_own {w : World} {base g n cap : Nat} {l : List UInt8} (h : w.ownsRow base 5 1 (.slice (some ⟨g, 0, none⟩) n cap) n (l.map (fun b => Value.int .u8 (b.toNat : Int)))) : BRow w g l := by
  intro j hj
  have hl := h.1
  rw [List.length_map, Nat.mul_one] at hl
  refine ⟨?_, h.frozenAt j⟩
  rw [h.cellAt j (by omega), List.getElem?_map, List.getElem?_eq_getElem hj]; rfl

end Go.Proofs.YtfamllkmmiajoaaDoor
