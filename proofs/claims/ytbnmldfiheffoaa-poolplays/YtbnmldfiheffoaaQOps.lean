/-
  The contracts of Pool.Expire, Busy, Used, Can, Idle, Host over this seat's program. Conditions: the pool lies there, not more than a hundred are idle.
-/
import Derived.Test.YtbnmldfiheffoaaQShut
namespace Go.Proofs.Ytbnmldfiheffoaa
open Go.RowKit

set_option maxHeartbeats 800000 in
theorem pExpire_any (g gt : Nat) (vt vb vi : Value) (s : Pv) (now : Nat) (w : World) (h : PoAt w g gt vt vb vi s) (hl : s.i.length ≤ 100) :
    Calls Try.prog 20 #[.pointer (some ⟨g, 0, none⟩), .int .u64 (now : Int)] w fun e w' => ∃ r vi', e = .returned r ∧ IRow w' r (shutG (dueB now) s) ∧ NewL w.heap.size r ∧ PoAt w' g gt vt vb vi' (shutP (dueB now) s) ∧ Only (g :: ownL vi) w w' ∧ Grow w.heap.size vi vi' := by
  have eg : ∀ args w, (callFunc 45 args).run Try.prog w = .ok (.enter 45 args) w := enters_of Try.func45 (by kernel_rfl) rfl
  obtain ⟨W1, hW1⟩ : ∃ W1, W1 = w.alloc (.cells #[.int .u64 (now : Int)] 22) := ⟨_, rfl⟩
  have HO1 : Hid (Only [] w W1) := by show Only _ _ _; rw [hW1]; exact (Only.refl _ _).alloc _
  have HK1 : Hid (W1.cell? ⟨w.heap.size, 0, none⟩ = some (.int .u64 (now : Int))) := by show _ = _; rw [hW1]; simp
  have HP1 := Lib.hid (h.old HO1.out)
  have HC : Hid (∀ (W : World) (x : Cn), Only (ownL vi) W1 W → Calls Try.prog 45 (#[linkV x] ++ #[.pointer (some ⟨w.heap.size, 0, none⟩)]) W fun e w' => e = .returned (.bool (dueB now x)) ∧ Only [] W w') := by
    show ∀ (W : World) (x : Cn), _
    intro W x hO
    exact pexp1_any now w.heap.size x W ((hO.cell (p := ⟨w.heap.size, 0, none⟩) (block_of_cell (a := ⟨w.heap.size, 0, none⟩) HK1.out) (fun hm => by have := h.oi _ hm; exact absurd this (Nat.lt_irrefl _))).trans HK1.out)
  have hcon := shut_any 45 #[.pointer (some ⟨w.heap.size, 0, none⟩)] (dueB now) g gt vt vb vi s W1 HP1.out hl eg HC.out
  have HSZ : Hid (w.heap.size ≤ W1.heap.size) := HO1.out.size
  clear h eg
  go_enter Try.func20, Try.ntmps20
  go_wp2_with fail
  rw [← hW1]
  clear hW1
  refine hcon.mono ?_
  rintro e w' ⟨r, vi', rfl, h1, h2, h3, h4, h5⟩
  have H1 := Lib.hid h1
  have H2 := Lib.hid h2
  have H3 := Lib.hid h3
  have H4 := Lib.hid h4
  have H5 := Lib.hid h5
  clear hcon h1 h2 h3 h4 h5
  go_wp2
  go_ret
  exact ⟨r, vi', rfl, H1.out, fun x hx => Nat.le_trans HSZ.out (H2.out x hx), H3.out, (HO1.out.mono (by simp)).trans H4.out, fun x hx => (H5.out x hx).imp id (Nat.le_trans HSZ.out)⟩

set_option maxHeartbeats 400000 in
theorem pBusy_any (g gt : Nat) (vt vb vi : Value) (s : Pv) (w : World) (h : PoAt w g gt vt vb vi s) :
    Calls Try.prog 24 #[.pointer (some ⟨g, 0, none⟩)] w fun e w' => e = .returned (.int .i64 (s.b.length : Int)) ∧ w = w' := by
  obtain ⟨A, cap, rfl, _, _⟩ := h.rb.slice
  have hc4 := h.hd.c4
  have hgl := h.hd.lt
  clear h
  go_enter Try.func24, Try.ntmps24
  go_wp2
  go_ret
  exact ⟨rfl, rfl⟩
set_option maxHeartbeats 400000 in
theorem pUsed_any (g gt : Nat) (vt vb vi : Value) (s : Pv) (k : ByteArray) (w : World) (h : PoAt w g gt vt vb vi s) :
    Calls Try.prog 25 #[.pointer (some ⟨g, 0, none⟩), .string k] w fun e w' => e = .returned (.int .i64 (usedC s.h k : Int)) ∧ Only [] w w' := by
  have hc3 := h.hd.c3
  have hgl := h.hd.lt
  have HT := Lib.hid h.tb
  clear h
  go_enter Try.func25, Try.ntmps25
  go_wp2_with fail
  refine (hUsed_any gt 32 vt s.h k w HT.out).mono ?_
  rintro e w1 ⟨rfl, ho⟩
  have HO := Lib.hid ho
  clear ho
  go_wp2
  go_ret
  exact ⟨rfl, HO.out⟩
set_option maxHeartbeats 1000000 in
theorem pCan_any (g gt : Nat) (vt vb vi : Value) (s : Pv) (k : ByteArray) (w : World) (h : PoAt w g gt vt vb vi s) (hu : usedC s.h k = usedB s.b k) :
    Calls Try.prog 13 #[.pointer (some ⟨g, 0, none⟩), .string k] w fun e w' => e = .returned (.bool (canP s k)) ∧ Only [] w w' := by
  obtain ⟨A, cap, rfl, _, _⟩ := h.rb.slice
  have hgl := h.hd.lt
  obtain ⟨F, hF⟩ : ∃ F : World → Prop, ∀ W, F W ↔ (W.cell? ⟨g, 4, none⟩ = some (.slice A s.b.length cap) ∧ W.cell? ⟨g, 0, none⟩ = some (.int .i64 (s.t : Int))) := ⟨_, fun _ => Iff.rfl⟩
  have hx4 : ∀ p : Held F, p.w.cell? ⟨g, 4, none⟩ = some (.slice A s.b.length cap) := fun p => ((hF _).1 p.h).1
  have hx0 : ∀ p : Held F, p.w.cell? ⟨g, 0, none⟩ = some (.int .i64 (s.t : Int)) := fun p => ((hF _).1 p.h).2
  have HFO : Hid (∀ W, Only [] w W → F W) := by
    show ∀ W, _
    intro W ho
    exact (hF _).2 ⟨(h.old ho).hd.c4, (h.old ho).hd.c0⟩
  have HP := Lib.hid h
  have HPD := Lib.hid (h.old ((Only.refl _ w).drew))
  clear hF h
  obtain ⟨u, hu'⟩ : ∃ u, u = usedB s.b k := ⟨_, rfl⟩
  have HU : Hid (usedC s.h k = u) := by show _ = _; rw [hu, ← hu']
  by_cases h1 : s.b.length < s.t
  · have HE : Hid (decide (u < 6) = canP s k) := by show _ = _; unfold canP; rw [← hu', decide_eq_true h1, Bool.true_and]
    generalize canP s k = q at *
    clear hu hu'
    go_enter Try.func13, Try.ntmps13
    go_wp2_with fail
    refine mix_start F (by kernel_rfl) ?_
    refine mix_seg [0, 1, 2, 3, 4, 5, 6, 7, 8, 9, 10, 11, 12, 13, 14, 15, 16] (by kernel_rfl) (HFO.out _ ((Only.refl _ w).drew)) ?_
    simp only [segOf, pickOps, pickOp]
    repeat (go_big_quiet_step (rfl))
    refine wpQuiet_nil ?_
    refine mix_run 17 (by kernel_rfl) ?_
    simp only [segOf, pickOps, pickOp]
    go_wp2_with fail
    refine (pUsed_any g gt vt _ vi s k _ HPD.out).mono ?_
    rintro e w1 ⟨rfl, ho⟩
    rw [HU.out]
    have HO := Lib.hid ho.of_drew
    clear ho
    go_wp2_with fail
    refine MixPost.normal (HFO.out _ HO.out) ?_
    refine mix_seg [18, 19, 20] (by kernel_rfl) (HFO.out _ HO.out) ?_
    simp only [segOf, pickOps, pickOp]
    repeat (go_big_quiet_step (rfl))
    refine wpQuiet_nil ?_
    refine mix_done (by kernel_rfl) ?_
    go_wp2
    go_ret
    exact ⟨ret_bool (by rw [← HE.out]; simp; omega), HO.out⟩
  · have HE : Hid (false = canP s k) := by show _ = _; unfold canP; rw [decide_eq_false h1, Bool.false_and]
    generalize canP s k = q at *
    clear hu hu'
    go_enter Try.func13, Try.ntmps13
    go_wp2_with fail
    refine mix_start F (by kernel_rfl) ?_
    refine mix_seg [0, 1, 2, 3, 4, 5, 6, 7, 8, 9, 10, 11, 12, 13, 14, 15, 16] (by kernel_rfl) (HFO.out _ ((Only.refl _ w).drew)) ?_
    simp only [segOf, pickOps, pickOp]
    repeat (go_big_quiet_step (rfl))
    refine wpQuiet_nil ?_
    refine mix_run 17 (by kernel_rfl) ?_
    simp only [segOf, pickOps, pickOp]
    go_wp2_with fail
    refine MixPost.normal (HFO.out _ ((Only.refl _ w).drew)) ?_
    refine mix_seg [18, 19, 20] (by kernel_rfl) (HFO.out _ ((Only.refl _ w).drew)) ?_
    simp only [segOf, pickOps, pickOp]
    repeat (go_big_quiet_step (rfl))
    refine wpQuiet_nil ?_
    refine mix_done (by kernel_rfl) ?_
    go_wp2
    go_ret
    exact ⟨ret_bool (by rw [← HE.out]), (Only.refl _ w).drew⟩

set_option maxHeartbeats 1600000 in
/-- what a connection's host is: among those in use, among the idle ones, or none -/
theorem pHost_any (g gt : Nat) (vt vb vi : Value) (s : Pv) (i : Int) (w : World) (h : PoAt w g gt vt vb vi s) :
    Calls Try.prog 22 #[.pointer (some ⟨g, 0, none⟩), .int .i64 i] w fun e w' => e = .returned (.tuple #[.string (hostS s i), .bool (hostB s i)]) ∧ Only [] w w' := by
  obtain ⟨Ab, capb, rfl, hb1, hb2⟩ := h.rb.slice
  obtain ⟨Ai, capi, rfl, hi1, hi2⟩ := h.ri.slice
  unfold maxLen at hb2 hi2
  have HP := Lib.hid h
  have hc4 := h.hd.c4
  have hgl := h.hd.lt
  clear h
  obtain ⟨k, hk⟩ : ∃ k, k = s.b.findIdx (connB i) := ⟨_, rfl⟩
  by_cases h1 : k < s.b.length
  · have HI : Hid (firstI (connB i) s.b = (k : Int)) := by show _ = _; rw [firstI_yes (by rw [← hk]; exact h1), ← hk]
    have HE : Hid (hostS s i = (nthC s.b k).k ∧ hostB s i = true) := by
      show _ ∧ _; unfold hostS hostB; rw [← hk, if_pos h1, decide_eq_true h1, Bool.true_or]; exact ⟨rfl, rfl⟩
    rw [HE.out.1, HE.out.2]
    have hk0 : (0 : Int) ≤ (k : Int) := by omega
    clear hk HE
    go_enter Try.func22, Try.ntmps22
    go_wp2_with fail
    refine (pfind_any 83 _ s.b i w HP.out.rb).mono ?_
    rintro e w1 ⟨rfl, ho⟩
    rw [HI.out]
    have HO := Lib.hid ho
    have HP1 := Lib.hid (HP.out.old ho)
    have hd4 := HP1.out.hd.c4
    clear ho hc4
    obtain ⟨gb, cap2, e2, _, _, _⟩ := HP1.out.rb.some_ (by omega)
    obtain ⟨rfl, rfl⟩ : Ab = some ⟨gb, 0, none⟩ ∧ capb = cap2 := by
      injection e2 with e1 e2 e3
      exact ⟨e1, e3⟩
    obtain ⟨_, f1, _⟩ := HP1.out.rb.el rfl h1
    go_wp2
    go_ret2
    exact ⟨rfl, HO.out⟩
  · have HI : Hid (firstI (connB i) s.b = -1) := firstI_no (by rw [← hk]; exact h1)
    obtain ⟨j, hj⟩ : ∃ j, j = s.i.findIdx (connB i) := ⟨_, rfl⟩
    by_cases h2 : j < s.i.length
    · have HJ : Hid (firstI (connB i) s.i = (j : Int)) := by show _ = _; rw [firstI_yes (by rw [← hj]; exact h2), ← hj]
      have HE : Hid (hostS s i = (nthC s.i j).k ∧ hostB s i = true) := by
        show _ ∧ _; unfold hostS hostB; rw [← hk, ← hj, if_neg h1, if_pos h2, decide_eq_true h2, Bool.or_true]; exact ⟨rfl, rfl⟩
      rw [HE.out.1, HE.out.2]
      have hj0 : (0 : Int) ≤ (j : Int) := by omega
      clear hk hj HE
      go_enter Try.func22, Try.ntmps22
      go_wp2_with fail
      refine (pfind_any 83 _ s.b i w HP.out.rb).mono ?_
      rintro e w1 ⟨rfl, ho⟩
      rw [HI.out]
      have HO := Lib.hid ho
      have HP1 := Lib.hid (HP.out.old ho)
      have hd5 := HP1.out.hd.c5
      have hgl1 := HP1.out.hd.lt
      clear ho hc4
      go_wp2_with fail
      refine (pfind_any 83 _ s.i i w1 HP1.out.ri).mono ?_
      rintro e w2 ⟨rfl, ho⟩
      rw [HJ.out]
      have HO2 := Lib.hid ho
      have HP2 := Lib.hid (HP1.out.old ho)
      have hd5' := HP2.out.hd.c5
      clear ho hd5
      obtain ⟨gb, cap2, e2, _, _, _⟩ := HP2.out.ri.some_ (by omega)
      obtain ⟨rfl, rfl⟩ : Ai = some ⟨gb, 0, none⟩ ∧ capi = cap2 := by
        injection e2 with e1 e2 e3
        exact ⟨e1, e3⟩
      obtain ⟨_, f1, _⟩ := HP2.out.ri.el rfl h2
      go_wp2
      go_ret2
      exact ⟨rfl, HO.out.trans HO2.out⟩
    · have HJ : Hid (firstI (connB i) s.i = -1) := firstI_no (by rw [← hj]; exact h2)
      have HE : Hid (hostS s i = ⟨#[]⟩ ∧ hostB s i = false) := by
        show _ ∧ _; unfold hostS hostB; rw [← hk, ← hj, if_neg h1, if_neg h2, decide_eq_false h1, decide_eq_false h2]; exact ⟨rfl, rfl⟩
      rw [HE.out.1, HE.out.2]
      clear hk hj HE
      go_enter Try.func22, Try.ntmps22
      go_wp2_with fail
      refine (pfind_any 83 _ s.b i w HP.out.rb).mono ?_
      rintro e w1 ⟨rfl, ho⟩
      rw [HI.out]
      have HO := Lib.hid ho
      have HP1 := Lib.hid (HP.out.old ho)
      have hd5 := HP1.out.hd.c5
      have hgl1 := HP1.out.hd.lt
      clear ho hc4
      go_wp2_with fail
      refine (pfind_any 83 _ s.i i w1 HP1.out.ri).mono ?_
      rintro e w2 ⟨rfl, ho⟩
      rw [HJ.out]
      have HO2 := Lib.hid ho
      clear ho hd5
      go_wp2
      go_ret2
      exact ⟨rfl, HO.out.trans HO2.out⟩

set_option maxRecDepth 8000 in
set_option maxHeartbeats 2000000 in
theorem pIdle_any (g gt : Nat) (vt vb vi : Value) (s : Pv) (w : World) (h : PoAt w g gt vt vb vi s) (hl : s.i.length ≤ 100) :
    Calls Try.prog 27 #[.pointer (some ⟨g, 0, none⟩)] w fun e w' => ∃ r, e = .returned r ∧ IRow w' r (sortI (connsL s.i)) ∧ NewL w.heap.size r ∧ Only [] w w' := by
  obtain ⟨i0, hi, hz0, hz1, hz2⟩ := rec_info infoI
  obtain ⟨A, cap, rfl, hlc, hcm⟩ := h.ri.slice
  unfold maxLen at hcm
  have HP := Lib.hid h
  have HL := Lib.hid hl
  have hc5 := h.hd.c5
  have hgl := h.hd.lt
  clear h
  go_enter Try.func27, Try.ntmps27
  go_wp2_with (at_make; refine wpList_make_own _ rfl _ _ 39 rfl 0 3 i0 (.int .i64 0) 1 Try.underlying39 hi hz0 hz1 _ _ _ s.i.length rfl rfl rfl ?d1 ?d2 ?d3 ?_)
  case d1 => rw [hz2]; have := HL.out; omega
  case d2 => have := HL.out; unfold maxLen; omega
  case d3 => exact Nat.zero_le _
  intro w1 hr1 hg1
  have HR1 : Hid (IRow w1 (.slice (some ⟨w.heap.size, 0, none⟩) 0 s.i.length) []) := hr1
  have HO1 : Hid (Only [] w w1) := Only.of_grown_own hg1 (by simp)
  have hd1 := (HP.out.old HO1.out).hd.c5
  have hg1l := (HP.out.old HO1.out).hd.lt
  clear hr1 hg1 hc5 hi hz0 hz1 hz2
  go_wp2_with fail
  go_loopw [3, 19] (fun c i wr => ∃ (k : Nat) (vc : Value), vc = c ∧ k ≤ s.i.length ∧ i = .int .i64 k ∧ IRow wr vc (connsL (s.i.take k)) ∧ NewL w.heap.size vc ∧ Only [] w wr) (fun _ i _ => s.i.length - (intOf i).toNat)
  case atStart => exact ⟨0, _, rfl, Nat.zero_le _, rfl, HR1.out, (by intro x hx; simp [ownL, Value.ownBlock] at hx; omega), HO1.out⟩
  case round =>
    obtain ⟨k, vc, hvc, hk, rfl, hs, hv, ho⟩ := hrel
    subst hvc
    have HS := Lib.hid hs
    have HV := Lib.hid hv
    have HO := Lib.hid ho
    clear hs hv ho
    by_cases hlt : k < s.i.length
    · have HPR := Lib.hid (HP.out.old HO.out)
      obtain ⟨gb, cap2, e2, _, _, _⟩ := HPR.out.ri.some_ (by omega)
      obtain ⟨rfl, rfl⟩ : A = some ⟨gb, 0, none⟩ ∧ cap = cap2 := by
        injection e2 with e1 e2 e3
        exact ⟨e1, e3⟩
      obtain ⟨f1, f2, f3⟩ := HPR.out.ri.el rfl hlt
      have HT : Hid (connsL (s.i.take (k + 1)) = connsL (s.i.take k) ++ [((nthC s.i k).n : Int)]) := by
        show _ = _; unfold connsL; rw [List.take_succ_eq_append_getElem hlt, List.map_append, nthC_eq hlt]; rfl
      obtain ⟨x, hx⟩ : ∃ x, x = nthC s.i k := ⟨_, rfl⟩
      rw [← hx] at f1 f2 f3 HT
      clear hx e2
      obtain ⟨x1, x2, x3⟩ := x
      simp only at f1 f2 f3 HT
      obtain ⟨G, hG⟩ : ∃ G, G = connsL (s.i.take k) := ⟨_, rfl⟩
      have HGL : Hid (G.length ≤ 100) := by show _ ≤ _; rw [hG, connsL, List.length_map, List.length_take]; have := HL.out; omega
      rw [← hG] at HS HT
      clear hG
      obtain ⟨Ac, capc, hce, _⟩ := HS.out.slice
      subst hce
      obtain ⟨W3, hW3⟩ : ∃ W3, W3 = (wr.alloc (.cells #[.int .i64 (x1 : Int), .string x2, .int .u64 (x3 : Int)] 83)).alloc (.cells #[.int .i64 (x1 : Int)] 3) := ⟨_, rfl⟩
      have HN3 : Hid (W3.cell? ⟨wr.heap.size + 1, 0, none⟩ = some (.int .i64 (x1 : Int))) := by show _ = _; rw [hW3]; exact cell_second _ _ _ _
      have HO3 : Hid (Only [] wr W3) := by show Only _ _ _; rw [hW3]; exact ((Only.refl _ _).alloc _).alloc _
      have HZ3 : Hid (W3.heap.size = wr.heap.size + 2) := by show _ = _; rw [hW3]; simp
      have HS3 := Lib.hid (HS.out.old HO3.out)
      go_wp2_with (at_builtin; rw [← hW3]; refine wpList_append_int rfl (.tmp 23) (.tmp 26) rfl _ G rfl HS3.out (wr.heap.size + 1) x1 rfl HN3.out (by have := HGL.out; omega) ?_)
      intro g2 cap2 w4 hr4 ho4 hg4
      rw [← hW3] at ho4
      clear hW3
      have HO4 : Hid (Only [] w w4) := (HO.out.trans HO3.out).next ho4.out (fun y hy => .inr (HV.out y hy))
      have HV4 : Hid (w.heap.size ≤ g2) := by
        show _ ≤ _
        rcases hg4.out with h1 | h1
        · exact HV.out g2 h1
        · have h2 := HO.out.size; omega
      clear ho4 hg4
      go_wp2_with fail
      go_roundw
      case rel => exact ⟨k + 1, _, rfl, by omega, by go_num, by rw [HT.out]; exact hr4.out, (by intro x hx; simp [ownL, Value.ownBlock] at hx; subst hx; exact HV4.out), HO4.out⟩
      case measure => simp [intOf]; omega
    · obtain rfl : k = s.i.length := by omega
      rw [List.take_length] at HS
      go_wp2_with fail
      refine (SortI_any _ (connsL s.i) wr HS.out (by rw [connsL, List.length_map]; have := HL.out; omega)).mono ?_
      rintro e w' ⟨rfl, hs', ho'⟩
      have HS' := Lib.hid hs'
      have HO' := Lib.hid ho'
      clear hs' ho'
      go_wp2
      go_ret
      exact ⟨_, rfl, HS'.out, HV.out, HO.out.next HO'.out (fun y hy => .inr (HV.out y hy))⟩
end Go.Proofs.Ytbnmldfiheffoaa
