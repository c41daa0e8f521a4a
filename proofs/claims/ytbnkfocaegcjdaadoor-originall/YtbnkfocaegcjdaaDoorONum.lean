/-
  Contracts of the statements' helpers Text and Num, over this seat's program. Conditions: the numbers fit their kinds; a text of at most 1,000,000 bytes.
-/
import Derived.Test.YtbnkfocaegcjdaaDoorOLower
import Derived.Test.YtbnkfocaegcjdaaDoorOLow
import Derived.Test.YtbnkfocaegcjdaaDoorKNum
namespace Go.Proofs.YtbnkfocaegcjdaaDoor
open Go.RowKit

theorem infoB : (Tryd.prog.info? 5).map (fun i => (i.zero, i.size, i.bytes)) = some (some (.int .u8 0), 1, 1) := by kernel_rfl

theorem digit_at (d : Nat) (h : d ≤ 9) : (ByteArray.mk #[48, 49, 50, 51, 52, 53, 54, 55, 56, 57]).extract d (d + 1) = mk [UInt8.ofNat (48 + d)] := by
  have : ∀ d : Fin 10, ((ByteArray.mk #[48, 49, 50, 51, 52, 53, 54, 55, 56, 57]).extract d.val (d.val + 1)).data = (mk [UInt8.ofNat (48 + d.val)]).data := by decide +kernel
  have h2 := this ⟨d, by omega⟩
  exact WideShapes.bytes_inj (by rw [h2])

set_option maxHeartbeats 1000000 in
theorem Num_any (n0 : Nat) (w : World) (h0 : n0 ≤ Lk.M64) :
    Calls Tryd.prog 24 #[.int .u64 (n0 : Int)] w fun e w' => e = .returned (.string (mk (numL n0))) ∧ w = w' := by
  unfold Lk.M64 at h0
  go_enter Tryd.func24, Tryd.ntmps24
  go_wp2
  go_loop [0, 3] (fun a s => ∃ (n : Nat) (t : List UInt8), n ≤ n0 ∧ a = .int .u64 (n : Int) ∧ s = .string (mk t) ∧ t.length ≤ 26 ∧ numL n0 = numL n ++ t) (fun a _ => (intOf a).toNat)
  case atStart => exact ⟨n0, [], Nat.le_refl _, rfl, rfl, by simp, by simp⟩
  case round =>
    obtain ⟨n, t, hn, rfl, rfl, ht, he⟩ := hrel
    have hts : (mk t).size ≤ 26 := by rw [mk_size]; exact ht
    have HE := Lib.hid he
    have HLE : Hid ((numL n).length + t.length ≤ 26) := by
      have h1 := (numL_ok (n := n0) (by unfold Lk.M64; omega)).2.2
      show _ ≤ _
      rw [he, List.length_append] at h1; exact h1
    clear he
    by_cases h9 : n ≤ 9
    · have HD := Lib.hid (digit_at n h9)
      go_wp2
      go_ret
      exact ⟨ret_string (by rw [HD.out, mk_append, HE.out, numL_small h9]), rfl⟩
    · have HD := Lib.hid (digit_at (n % 10) (by omega))
      have HB := Lib.hid (numL_big h9 (by omega))
      go_wp2
      go_round
      case rel =>
        refine ⟨n / 10, UInt8.ofNat (48 + n % 10) :: t, by omega, by go_num, by rw [HD.out, mk_append]; rfl, ?_, by rw [HE.out, HB.out]; simp⟩
        have h1 := HLE.out
        rw [HB.out, List.length_append] at h1
        simp at h1 ⊢; omega
      case measure => simp [intOf]; omega

/-- a row of the call's own that holds bytes -/
theorem BRow.of_own {w : World} {base g n cap : Nat} {l : List UInt8} (h : w.ownsRow base 5 1 (.slice (some ⟨g, 0, none⟩) n cap) n (l.map (fun b => Value.int .u8 (b.toNat : Int)))) : BRow w g l := by
  intro j hj
  have hl := h.1
  rw [List.length_map, Nat.mul_one] at hl
  refine ⟨?_, h.frozenAt j⟩
  rw [h.cellAt j (by omega), List.getElem?_map, List.getElem?_eq_getElem hj]; rfl

set_option maxHeartbeats 1000000 in
theorem Text_any (n : Nat) (b : UInt8) (w : World) (hn : n ≤ 1000000) :
    Calls Tryd.prog 23 #[.int .i64 (n : Int), .int .u8 (b.toNat : Int)] w fun e w' => e = .returned (.string (mk (List.replicate n b))) ∧ Below w.heap.size w w' := by
  obtain ⟨i0, hi, hz0, hz1, hz2⟩ := info_parts infoB
  have hmax : max (n : Int) 0 = n := by omega
  have hbd := Lk.byte_bd b
  go_enter Tryd.func23, Tryd.ntmps23
  go_wp2_with (at_make; refine wpList_make_full _ rfl (.tmp 8) (.tmp 8) 51 rfl w.heap.size 5 i0 (.int .u8 0) 1 Tryd.underlying51 hi hz0 hz1 .i64 .i64 _ _ n rfl rfl rfl rfl ?c1 ?c2 ?c3 ?_)
  case c1 => rw [hz2]; omega
  case c2 => unfold maxLen; omega
  case c3 => exact Nat.le_refl _
  intro w1 hown hg
  have hb0 : BRow w1 w.heap.size (List.replicate n 0) := by
    refine BRow.of_own (base := w.heap.size) (n := n) (cap := n) ?_
    have e : (List.replicate n (0 : UInt8)).map (fun b => Value.int .u8 (b.toNat : Int)) = (madeCells #[Value.int .u8 0] n).toList := by
      have := toList_madeCells_one (.int .u8 0) n
      rw [List.map_replicate]
      exact this.symm
    rw [e]; exact hown
  have hbe : Below w.heap.size w w1 := (Below.refl _ _).grown hg (Nat.le_refl _) (by intro k hk; cases hk)
  have HB := Lib.hid hb0
  have BE := Lib.hid hbe
  clear hown hg hb0 hbe hmax
  go_wp2_with fail
  go_loopw [6] (fun i wr => ∃ k : Nat, k ≤ n ∧ i = .int .i64 k ∧ BRow wr w.heap.size (Lk.turned (fun _ _ => b) (List.replicate n 0) k) ∧ Below w.heap.size w wr) (fun i _ => n - (intOf i).toNat)
  case atStart => exact ⟨0, Nat.zero_le _, rfl, by rw [Lk.turned_zero]; exact HB.out, BE.out⟩
  case round =>
    obtain ⟨k, hk, rfl, hr, hb⟩ := hrel
    have HR := Lib.hid hr
    clear hr
    by_cases hlt : k < n
    · have hl : k < (List.replicate n (0 : UInt8)).length := by simpa using hlt
      have hl2 : k < (Lk.turned (fun _ _ => b) (List.replicate n 0) k).length := by rw [Lk.turned_len]; exact hl
      obtain ⟨hc, hf⟩ := HR.out k hl2
      have HN : Hid (BRow (wr.setCell ⟨w.heap.size, k, none⟩ (.int .u8 (b.toNat : Int))) w.heap.size (Lk.turned (fun _ _ => b) (List.replicate n 0) (k + 1))) := by
        have := HR.out.set_ k b hl2
        rw [Lk.turned_succ (fun _ _ => b) _ _ hl] at this
        exact this
      obtain ⟨u, hu⟩ : ∃ u, u = (((Lk.turned (fun _ _ => b) (List.replicate n 0) k)[k]'hl2).toNat : Int) := ⟨_, rfl⟩
      rw [← hu] at hc
      clear hl hl2 hu
      go_wp2
      go_roundw
      case rel => exact ⟨k + 1, by omega, by go_num, HN.out, below_set hb _⟩
      case measure => simp [intOf]; omega
    · have hcv := conv_back (cap := n) HR.out (n := n) (by rw [Lk.turned_len]; simp)
      rw [Lk.turned_all _ _ _ (by simp; omega)] at hcv
      have HX : Hid ((List.replicate n (0 : UInt8)).mapIdx (fun _ _ => b) = List.replicate n b) := by
        show _ = _
        apply List.ext_getElem <;> simp
      rw [HX.out] at hcv
      go_wp2
      go_ret
      exact ⟨rfl, hb⟩
end Go.Proofs.YtbnkfocaegcjdaaDoor
