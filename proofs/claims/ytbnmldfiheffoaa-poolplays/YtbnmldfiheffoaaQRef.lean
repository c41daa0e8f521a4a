/-
  The contracts of the document's own New, Used, Can, Host, Idle, Expire and close of connections over this seat's program. Conditions: the pool lies there, not more than a hundred of each kind.
-/
import Derived.Test.YtbnmldfiheffoaaQRow2
import Derived.Test.YtbnmldfiheffoaaQSort
import Derived.Test.YtbnmldfiheffoaaQMath2
namespace Go.Proofs.Ytbnmldfiheffoaa
open Go.RowKit

set_option maxHeartbeats 1600000 in
theorem rNew_any (n : Int) (kp : Nat) (w : World) :
    Calls Try.prog 11 #[.int .i64 n, .int .u64 (kp : Int)] w fun e w' => ∃ g gt, e = .returned (.pointer (some ⟨g, 0, none⟩)) ∧ RpAt w' g gt (.slice none 0 0) (.slice none 0 0) (.slice none 0 0) ⟨clampT n, kp, 0, [], [], []⟩ ∧ Only [] w w' ∧ w.heap.size ≤ g ∧ w.heap.size ≤ gt := by
  obtain ⟨m, hm⟩ : ∃ m, m = clampT n := ⟨_, rfl⟩
  obtain ⟨z, hz⟩ : ∃ z : Int, z = min (max n 1) 32 := ⟨_, rfl⟩
  have HZ : Hid (z = (m : Int)) := by show _ = _; rw [hz, hm]; unfold clampT; split <;> (try split) <;> omega
  rw [← hm]
  have HZZ := Lib.hid hz
  clear hm hz
  go_enter Try.func11, Try.ntmps11
  go_wp2_with fail
  refine (tNew_any 32 w).mono ?_
  rintro e w1 ⟨rfl, ht, ho, hs⟩
  rw [show clampT 32 = 32 by rfl] at ht
  have HT := Lib.hid ht
  have HO := Lib.hid ho
  have HS := Lib.hid hs
  obtain ⟨gt, hgt⟩ : ∃ gt, gt = w.heap.size := ⟨_, rfl⟩
  obtain ⟨g, hg⟩ : ∃ g, g = w1.heap.size := ⟨_, rfl⟩
  rw [← hgt] at HT HS ⊢
  have HGT := Lib.hid hgt
  have HG := Lib.hid hg
  obtain ⟨W2, hW2⟩ : ∃ W2, W2 = w1.alloc (.cells #[.int .i64 z, .int .i64 0, .int .u64 (kp : Int), .slice none 0 0, .slice none 0 0, .pointer (some ⟨gt, 0, none⟩)] 47) := ⟨_, rfl⟩
  have HO2 : Hid (Only [] w1 W2) := by show Only _ _ _; rw [hW2]; exact (Only.refl _ _).alloc _
  have HH2 : Hid (RpHead W2 g m kp 0 gt (.slice none 0 0) (.slice none 0 0)) := by
    show RpHead _ _ _ _ _ _ _ _
    rw [hW2, hg]
    exact ⟨by simp [HZ.out], by simp, by simp, by simp, by simp, by simp, by simp, by simp, by simp⟩
  have HGN : Hid (gt < g) := by show _ < _; rw [HG.out]; have := HS.out; omega
  clear ht ho hs hgt
  go_wp2_with fail
  rw [← HZZ.out, ← hW2, ← hg]
  clear hW2 hg
  go_wp2
  go_ret
  refine ⟨g, gt, rfl, ⟨HH2.out, HT.out.old HO2.out, CRow.nil, CRow.nil, ?_⟩, HO.out.trans HO2.out, by rw [HG.out]; exact HO.out.size, by rw [HGT.out]; exact Nat.le_refl _⟩
  have hne : g ≠ gt := by have := HGN.out; omega
  constructor <;> simp [ownL, Value.ownBlock, hne]

theorem usedB_take {l : List Cn} {k : ByteArray} {j : Nat} (h : j < l.length) : usedB (l.take (j + 1)) k = usedB (l.take j) k + (if (nthC l j).k = k then 1 else 0) := by
  rw [List.take_succ_eq_append_getElem h, usedB_snoc, nthC_eq h]
set_option maxHeartbeats 1600000 in
theorem rUsed_any (g gt : Nat) (vt vb vi : Value) (s : Pv) (key : ByteArray) (w : World) (h : RpAt w g gt vt vb vi s) (hb : s.b.length ≤ 100) :
    Calls Try.prog 26 #[.pointer (some ⟨g, 0, none⟩), .string key] w fun e w' => e = .returned (.int .i64 (usedB s.b key : Int)) ∧ w = w' := by
  obtain ⟨A, cap, rfl, _, hcm⟩ := h.rb.slice
  unfold maxLen at hcm
  have HP := Lib.hid h
  have hc3 := h.hd.c3
  have hgl := h.hd.lt
  clear h
  go_enter Try.func26, Try.ntmps26
  go_wp2_with fail
  go_loop [5, 6] (fun n i => ∃ (k u : Nat), k ≤ s.b.length ∧ i = .int .i64 (k : Int) ∧ n = .int .i64 (u : Int) ∧ u ≤ k ∧ u = usedB (s.b.take k) key) (fun _ i => s.b.length - (intOf i).toNat)
  case atStart => exact ⟨0, 0, by omega, rfl, rfl, by omega, rfl⟩
  case round =>
    obtain ⟨k, u, hk, rfl, rfl, huk, hu⟩ := hrel
    have HU := Lib.hid hu
    clear hu
    by_cases hlt : k < s.b.length
    · obtain ⟨gb, cap2, e2, _, _, _⟩ := HP.out.rb.some_ (by omega)
      obtain ⟨rfl, rfl⟩ : A = some ⟨gb, 0, none⟩ ∧ cap = cap2 := by
        injection e2 with e1 e2 e3
        exact ⟨e1, e3⟩
      obtain ⟨_, f1, _⟩ := HP.out.rb.el rfl hlt
      have HT := Lib.hid (usedB_take (k := key) hlt)
      obtain ⟨x, hx⟩ : ∃ x, x = nthC s.b k := ⟨_, rfl⟩
      rw [← hx] at f1 HT
      clear hx e2
      obtain ⟨x1, x2, x3⟩ := x
      simp only at f1 HT
      by_cases he : x2 = key
      · have hb : (x2.toList == key.toList) = true := by rw [he]; exact beq_self_eq_true _
        have HE : Hid (u + 1 = usedB (s.b.take (k + 1)) key) := by show _ = _; rw [HT.out, if_pos he, HU.out]
        clear he
        go_wp2
        go_round
        case rel => exact ⟨k + 1, u + 1, by omega, by go_num, by go_num, by omega, HE.out⟩
        case measure => simp [intOf]; omega
      · have hb : (x2.toList == key.toList) = false := by
          rw [← Bool.not_eq_true, beq_iff_eq]
          intro h
          exact he (WideShapes.bytes_inj (by rw [ByteArray.toList_eq, ByteArray.toList_eq] at h; exact h))
        have HE : Hid (u = usedB (s.b.take (k + 1)) key) := by show _ = _; rw [HT.out, if_neg he, HU.out]; rfl
        clear he
        go_wp2
        go_round
        case rel => exact ⟨k + 1, u, by omega, by go_num, rfl, by omega, HE.out⟩
        case measure => simp [intOf]; omega
    · obtain rfl : k = s.b.length := by omega
      have HE : Hid (u = usedB s.b key) := by show _ = _; rw [HU.out, List.take_length]
      go_wp2
      go_ret
      exact ⟨ret_int (by rw [← HE.out]), rfl⟩
set_option maxHeartbeats 1000000 in
theorem rCan_any (g gt : Nat) (vt vb vi : Value) (s : Pv) (k : ByteArray) (w : World) (h : RpAt w g gt vt vb vi s) (hbl : s.b.length ≤ 100) :
    Calls Try.prog 14 #[.pointer (some ⟨g, 0, none⟩), .string k] w fun e w' => e = .returned (.bool (canP s k)) ∧ Only [] w w' := by
  obtain ⟨A, cap, rfl, _, _⟩ := h.rb.slice
  have hgl := h.hd.lt
  obtain ⟨F, hF⟩ : ∃ F : World → Prop, ∀ W, F W ↔ (W.cell? ⟨g, 3, none⟩ = some (.slice A s.b.length cap) ∧ W.cell? ⟨g, 0, none⟩ = some (.int .i64 (s.t : Int))) := ⟨_, fun _ => Iff.rfl⟩
  have hx4 : ∀ p : Held F, p.w.cell? ⟨g, 3, none⟩ = some (.slice A s.b.length cap) := fun p => ((hF _).1 p.h).1
  have hx0 : ∀ p : Held F, p.w.cell? ⟨g, 0, none⟩ = some (.int .i64 (s.t : Int)) := fun p => ((hF _).1 p.h).2
  have HFO : Hid (∀ W, Only [] w W → F W) := by
    show ∀ W, _
    intro W ho
    exact (hF _).2 ⟨(h.old ho).hd.c3, (h.old ho).hd.c0⟩
  have HPD := Lib.hid (h.old ((Only.refl _ w).drew))
  clear hF h
  obtain ⟨u, hu'⟩ : ∃ u, u = usedB s.b k := ⟨_, rfl⟩
  have HU : Hid (usedB s.b k = u) := hu'.symm
  by_cases h1 : s.b.length < s.t
  · have HE : Hid (decide (u < 6) = canP s k) := by show _ = _; unfold canP; rw [← hu', decide_eq_true h1, Bool.true_and]
    generalize canP s k = q at *
    clear hu'
    go_enter Try.func14, Try.ntmps14
    go_wp2_with fail
    refine mix_start F (by kernel_rfl) ?_
    refine mix_seg [0, 1, 2, 3, 4, 5, 6, 7, 8, 9, 10, 11, 12] (by kernel_rfl) (HFO.out _ ((Only.refl _ w).drew)) ?_
    simp only [segOf, pickOps, pickOp]
    repeat (go_big_quiet_step (rfl))
    refine wpQuiet_nil ?_
    refine mix_run 13 (by kernel_rfl) ?_
    simp only [segOf, pickOps, pickOp]
    go_wp2_with fail
    refine (rUsed_any g gt vt _ vi s k _ HPD.out hbl).mono ?_
    rintro e w1 ⟨rfl, rfl⟩
    rw [HU.out]
    go_wp2_with fail
    refine MixPost.normal (HFO.out _ ((Only.refl _ w).drew)) ?_
    refine mix_seg [14, 15, 16] (by kernel_rfl) (HFO.out _ ((Only.refl _ w).drew)) ?_
    simp only [segOf, pickOps, pickOp]
    repeat (go_big_quiet_step (rfl))
    refine wpQuiet_nil ?_
    refine mix_done (by kernel_rfl) ?_
    go_wp2
    go_ret
    exact ⟨ret_bool (by rw [← HE.out]; simp; omega), (Only.refl _ w).drew⟩
  · have HE : Hid (false = canP s k) := by show _ = _; unfold canP; rw [decide_eq_false h1, Bool.false_and]
    generalize canP s k = q at *
    clear hu'
    go_enter Try.func14, Try.ntmps14
    go_wp2_with fail
    refine mix_start F (by kernel_rfl) ?_
    refine mix_seg [0, 1, 2, 3, 4, 5, 6, 7, 8, 9, 10, 11, 12] (by kernel_rfl) (HFO.out _ ((Only.refl _ w).drew)) ?_
    simp only [segOf, pickOps, pickOp]
    repeat (go_big_quiet_step (rfl))
    refine wpQuiet_nil ?_
    refine mix_run 13 (by kernel_rfl) ?_
    simp only [segOf, pickOps, pickOp]
    go_wp2_with fail
    refine MixPost.normal (HFO.out _ ((Only.refl _ w).drew)) ?_
    refine mix_seg [14, 15, 16] (by kernel_rfl) (HFO.out _ ((Only.refl _ w).drew)) ?_
    simp only [segOf, pickOps, pickOp]
    repeat (go_big_quiet_step (rfl))
    refine wpQuiet_nil ?_
    refine mix_done (by kernel_rfl) ?_
    go_wp2
    go_ret
    exact ⟨ret_bool (by rw [← HE.out]), (Only.refl _ w).drew⟩
end Go.Proofs.Ytbnmldfiheffoaa
