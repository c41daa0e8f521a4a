/-
  The contracts of the document's own Host, Idle, Expire and close of connections over this seat's program. Conditions: the pool lies there, not more than a hundred of each kind.
-/
import Derived.Test.YtbnmldfiheffoaaQRef
namespace Go.Proofs.Ytbnmldfiheffoaa
open Go.RowKit

theorem host_hit {s : Pv} {i : Int} {k : Nat} (hk : k < (s.b ++ s.i).length) (h1 : connB i (nthC (s.b ++ s.i) k) = true) (h2 : ∀ j, j < k → connB i (nthC (s.b ++ s.i) j) = false) : hostS s i = (nthC (s.b ++ s.i) k).k ∧ hostB s i = true := by
  have h3 := first_first hk h1 h2
  rw [List.findIdx_append] at h3
  unfold hostS hostB
  by_cases hb : s.b.findIdx (connB i) < s.b.length
  · rw [if_pos hb] at h3
    rw [if_pos hb, h3, decide_eq_true (by omega), Bool.true_or]
    refine ⟨?_, rfl⟩
    rw [h3] at hb
    rw [nthC_eq hb, nthC_eq hk, List.getElem_append_left hb]
  · rw [if_neg hb] at h3
    have hi : s.i.findIdx (connB i) < s.i.length := by rw [List.length_append] at hk; omega
    rw [if_neg hb, if_pos hi, decide_eq_true hi, Bool.or_true]
    refine ⟨?_, rfl⟩
    rw [nthC_eq hi, nthC_eq hk, List.getElem_append_right (by omega)]
    congr 2
    omega
theorem host_miss {s : Pv} {i : Int} (h : ∀ j, j < (s.b ++ s.i).length → connB i (nthC (s.b ++ s.i) j) = false) : hostS s i = ⟨#[]⟩ ∧ hostB s i = false := by
  have hb : ¬ s.b.findIdx (connB i) < s.b.length := by
    intro hb
    have h1 := first_hit hb
    have h2 := h (s.b.findIdx (connB i)) (by rw [List.length_append]; omega)
    rw [nthC_eq (by rw [List.length_append]; omega), List.getElem_append_left hb] at h2
    rw [nthC_eq hb, h2] at h1
    cases h1
  have hi : ¬ s.i.findIdx (connB i) < s.i.length := by
    intro hi
    have h1 := first_hit hi
    have h2 := h (s.b.length + s.i.findIdx (connB i)) (by rw [List.length_append]; omega)
    rw [nthC_eq (by rw [List.length_append]; omega), List.getElem_append_right (by omega)] at h2
    simp only [Nat.add_sub_cancel_left] at h2
    rw [nthC_eq hi, h2] at h1
    cases h1
  unfold hostS hostB
  rw [if_neg hb, if_neg hi, decide_eq_false hb, decide_eq_false hi]
  exact ⟨rfl, rfl⟩

set_option maxRecDepth 8000 in
set_option maxHeartbeats 2000000 in
theorem rHost_any (g gt : Nat) (vt vb vi : Value) (s : Pv) (i : Int) (w : World) (h : RpAt w g gt vt vb vi s) (hbl : s.b.length ≤ 100) (hil : s.i.length ≤ 100) :
    Calls Try.prog 23 #[.pointer (some ⟨g, 0, none⟩), .int .i64 i] w fun e w' => e = .returned (.tuple #[.string (hostS s i), .bool (hostB s i)]) ∧ Only [] w w' := by
  have HL : Hid (s.b.length ≤ 100 ∧ s.i.length ≤ 100) := ⟨hbl, hil⟩
  obtain ⟨F, hF⟩ : ∃ F : World → Prop, ∀ W, F W ↔ (W.cell? ⟨g, 3, none⟩ = some vb ∧ W.cell? ⟨g, 4, none⟩ = some vi) := ⟨_, fun _ => Iff.rfl⟩
  have hx3 : ∀ p : Held F, p.w.cell? ⟨g, 3, none⟩ = some vb := fun p => ((hF _).1 p.h).1
  have hx4 : ∀ p : Held F, p.w.cell? ⟨g, 4, none⟩ = some vi := fun p => ((hF _).1 p.h).2
  have HFO : Hid (∀ W, Only [] w W → F W) := by
    show ∀ W, _
    intro W ho
    exact (hF _).2 ⟨(h.old ho).hd.c3, (h.old ho).hd.c4⟩
  clear hF
  obtain ⟨W0, hW0⟩ : ∃ W0, W0 = w.drew := ⟨_, rfl⟩
  have HO0 : Hid (Only [] w W0) := by show Only _ _ _; rw [hW0]; exact (Only.refl _ _).drew
  have HP0 := Lib.hid (h.old HO0.out)
  have HP := Lib.hid h
  clear h hbl hil
  have hsb : ∃ Ab nb cb, vb = .slice Ab nb cb := by obtain ⟨A, c, e, _⟩ := HP.out.rb.slice; exact ⟨_, _, _, e⟩
  have hsi : ∃ Ai ni ci, vi = .slice Ai ni ci := by obtain ⟨A, c, e, _⟩ := HP.out.ri.slice; exact ⟨_, _, _, e⟩
  obtain ⟨Ab, nb, cb, rfl⟩ := hsb
  obtain ⟨Ai, ni, ci, rfl⟩ := hsi
  obtain ⟨L, hL⟩ : ∃ L, L = s.b ++ s.i := ⟨_, rfl⟩
  have HHIT : Hid (∀ k, k < L.length → connB i (nthC L k) = true → (∀ j, j < k → connB i (nthC L j) = false) → hostS s i = (nthC L k).k ∧ hostB s i = true) := by
    show ∀ k, _; rw [hL]; intro k h1 h2 h3; exact host_hit h1 h2 h3
  have HMISS : Hid ((∀ j, j < L.length → connB i (nthC L j) = false) → hostS s i = ⟨#[]⟩ ∧ hostB s i = false) := by
    show _ → _; rw [hL]; exact host_miss
  have HLE := Lib.hid hL
  clear hL
  generalize hostS s i = rs at *
  generalize hostB s i = rb at *
  go_enter Try.func23, Try.ntmps23
  go_wp2_with fail
  refine mix_start F (by kernel_rfl) ?_
  rw [← hW0]
  clear hW0
  refine mix_seg [0, 1, 2, 3, 5, 6, 7, 8] (by kernel_rfl) (HFO.out _ HO0.out) ?_
  simp only [segOf, pickOps, pickOp]
  repeat (go_big_quiet_step (rfl))
  refine wpQuiet_nil ?_
  refine mix_run 4 (by kernel_rfl) ?_
  simp only [segOf, pickOps, pickOp]
  refine wpList_append_part cE rfl (.const (.slice none 0 0)) (.tmp 11) 44 80 rfl Try.underlying44 (.agg #[.int .i64 0, .string ⟨#[]⟩, .int .u64 0]) 32 infoCR rfl 0 (.slice none 0 0) [] rfl ERow.nil _ s.b rfl (ERow.part HP0.out.rb) (by have := HL.out; simp; omega) (by omega) (Nat.zero_le _) ?_
  intro v1 w1 hr1 ho1 hg1
  have HR1 : Hid (CRow 80 w1 v1 s.b) := hr1.out
  have HO1 : Hid (Only [] w w1) := HO0.out.trans (ho1.out.mono (by intro z hz; simp [ownL, Value.ownBlock] at hz))
  have HN1 : Hid (NewL w.heap.size v1) := by show NewL _ _; intro z hz; have := HO0.out.size; rcases hg1.out z hz with h3 | h3; simp [ownL, Value.ownBlock] at h3; omega
  have HP1 := Lib.hid (HP.out.old HO1.out)
  clear hr1 ho1 hg1
  go_wp2_with fail
  refine MixPost.normal (HFO.out _ HO1.out) ?_
  refine mix_run 9 (by kernel_rfl) ?_
  simp only [segOf, pickOps, pickOp]
  refine wpList_append_part cE rfl (.tmp 12) (.tmp 16) 44 80 rfl Try.underlying44 (.agg #[.int .i64 0, .string ⟨#[]⟩, .int .u64 0]) 32 infoCR rfl 0 v1 s.b rfl HR1.out _ s.i rfl (ERow.part HP1.out.ri) (by have := HL.out; omega) (by omega) (Nat.zero_le _) ?_
  intro v2 w2 hr2 ho2 hg2
  have HO2 : Hid (Only [] w w2) := HO1.out.next ho2.out (fun z hz => .inr (HN1.out z hz))
  have HN2 : Hid (NewL w.heap.size v2) := by show NewL _ _; intro z hz; have := HO1.out.size; rcases hg2.out z hz with h3 | h3; exact HN1.out z h3; omega
  have HR2 : Hid (CRow 80 w2 v2 L) := by rw [HLE.out]; exact hr2.out
  clear hr2 ho2 hg2
  obtain ⟨A, cap, rfl, _, hcm⟩ := HR2.out.slice
  unfold maxLen at hcm
  go_wp2_with fail
  refine MixPost.normal (HFO.out _ HO2.out) ?_
  refine mix_seg [10] (by kernel_rfl) (HFO.out _ HO2.out) ?_
  simp only [segOf, pickOps, pickOp]
  repeat (go_big_quiet_step (rfl))
  refine wpQuiet_nil ?_
  refine mix_done (by kernel_rfl) ?_
  clear hx3 hx4
  go_wp2_with fail
  go_loop [7] (fun i_ => ∃ (k : Nat), k ≤ L.length ∧ i_ = .int .i64 (k : Int) ∧ ∀ j, j < k → connB i (nthC L j) = false) (fun i_ => L.length - (intOf i_).toNat)
  case atStart => exact ⟨0, by omega, rfl, fun j hj => absurd hj (Nat.not_lt_zero _)⟩
  case round =>
    obtain ⟨k, hk, rfl, hno⟩ := hrel
    have HNO := Lib.hid hno
    clear hno
    by_cases hlt : k < L.length
    · obtain ⟨gb, cap2, e2, _, _, _⟩ := HR2.out.some_ (by omega)
      obtain ⟨rfl, rfl⟩ : A = some ⟨gb, 0, none⟩ ∧ cap = cap2 := by
        injection e2 with e1 e2 e3
        exact ⟨e1, e3⟩
      obtain ⟨f0, f1, _⟩ := HR2.out.el rfl hlt
      have HH := Lib.hid (HHIT.out k hlt)
      have HS : Hid (connB i (nthC L k) = false → ∀ j, j < k + 1 → connB i (nthC L j) = false) := by
        show _ → _
        intro h1 j hj
        by_cases e : j = k
        · rw [e]; exact h1
        · exact HNO.out j (by omega)
      obtain ⟨x, hx⟩ : ∃ x, x = nthC L k := ⟨_, rfl⟩
      rw [← hx] at f0 f1 HH HS
      clear hx e2
      obtain ⟨x1, x2, x3⟩ := x
      simp only at f0 f1 HH
      by_cases he : (x1 : Int) = i
      · have HE := Lib.hid (HH.out (decide_eq_true he) HNO.out)
        clear HH HS
        go_wp2
        go_ret2
        exact ⟨by rw [HE.out.1, HE.out.2]; rfl, HO2.out⟩
      · have HE := Lib.hid (HS.out (decide_eq_false he))
        clear HH HS
        go_wp2
        go_round
        case rel => exact ⟨k + 1, by omega, by go_num, HE.out⟩
        case measure => simp [intOf]; omega
    · obtain rfl : k = L.length := by omega
      have HE := Lib.hid (HMISS.out HNO.out)
      go_wp2
      go_ret2
      exact ⟨by rw [HE.out.1, HE.out.2]; rfl, HO2.out⟩

set_option maxRecDepth 8000 in
set_option maxHeartbeats 2000000 in
theorem rIdle_any (g gt : Nat) (vt vb vi : Value) (s : Pv) (w : World) (h : RpAt w g gt vt vb vi s) (hl : s.i.length ≤ 100) :
    Calls Try.prog 28 #[.pointer (some ⟨g, 0, none⟩)] w fun e w' => ∃ r, e = .returned r ∧ IRow w' r (sortI (connsL s.i)) ∧ NewL w.heap.size r ∧ Only [] w w' := by
  obtain ⟨A, cap, rfl, hlc, hcm⟩ := h.ri.slice
  unfold maxLen at hcm
  have HP := Lib.hid h
  have HL := Lib.hid hl
  have hgl := h.hd.lt
  clear h
  go_enter Try.func28, Try.ntmps28
  go_wp2_with fail
  go_loopw [3, 4] (fun c i wr => ∃ (k : Nat) (vc : Value), vc = c ∧ k ≤ s.i.length ∧ i = .int .i64 k ∧ IRow wr vc (connsL (s.i.take k)) ∧ NewL w.heap.size vc ∧ Only [] w wr) (fun _ i _ => s.i.length - (intOf i).toNat)
  case atStart => exact ⟨0, _, rfl, Nat.zero_le _, rfl, IRow.nil, (by intro x hx; simp [ownL, Value.ownBlock] at hx), Only.refl _ _⟩
  case round =>
    obtain ⟨k, vc, hvc, hk, rfl, hs, hv, ho⟩ := hrel
    subst hvc
    have HS := Lib.hid hs
    have HV := Lib.hid hv
    have HO := Lib.hid ho
    clear hs hv ho
    have HPR := Lib.hid (HP.out.old HO.out)
    have hc4 := HPR.out.hd.c4
    have hgr := HPR.out.hd.lt
    by_cases hlt : k < s.i.length
    · obtain ⟨gb, cap2, e2, _, _, _⟩ := HPR.out.ri.some_ (by omega)
      obtain ⟨rfl, rfl⟩ : A = some ⟨gb, 0, none⟩ ∧ cap = cap2 := by
        injection e2 with e1 e2 e3
        exact ⟨e1, e3⟩
      obtain ⟨f1, f2, f3⟩ := HPR.out.ri.el rfl hlt
      have HT : Hid (connsL (s.i.take (k + 1)) = connsL (s.i.take k) ++ [((nthC s.i k).n : Int)]) := by
        show _ = _; unfold connsL; rw [List.take_succ_eq_append_getElem hlt, List.map_append, nthC_eq hlt]; rfl
      obtain ⟨x, hx⟩ : ∃ x, x = nthC s.i k := ⟨_, rfl⟩
      rw [← hx] at f1 f2 f3 HT
      clear hx e2
      obtain ⟨x1, x2, x3⟩ := x
      simp only at f1 f2 f3 HT
      obtain ⟨G, hG⟩ : ∃ G, G = connsL (s.i.take k) := ⟨_, rfl⟩
      have HGL : Hid (G.length ≤ 100) := by show _ ≤ _; rw [hG, connsL, List.length_map, List.length_take]; have := HL.out; omega
      rw [← hG] at HS HT
      clear hG
      obtain ⟨Ac, capc, hce, _⟩ := HS.out.slice
      subst hce
      obtain ⟨W3, hW3⟩ : ∃ W3, W3 = wr.alloc (.cells #[.int .i64 (x1 : Int)] 3) := ⟨_, rfl⟩
      have HN3 : Hid (W3.cell? ⟨wr.heap.size, 0, none⟩ = some (.int .i64 (x1 : Int))) := by show _ = _; rw [hW3]; simp
      have HO3 : Hid (Only [] wr W3) := by show Only _ _ _; rw [hW3]; exact (Only.refl _ _).alloc _
      have HZ3 : Hid (W3.heap.size = wr.heap.size + 1) := by show _ = _; rw [hW3]; simp
      have HS3 := Lib.hid (HS.out.old HO3.out)
      clear f2 f3
      go_wp2_with (at_builtin; rw [← hW3]; refine wpList_append_int rfl (.tmp 14) (.tmp 23) rfl _ G rfl HS3.out wr.heap.size x1 rfl HN3.out (by have := HGL.out; omega) ?_)
      intro g2 cap2 w4 hr4 ho4 hg4
      rw [← hW3] at ho4
      clear hW3
      have HO4 : Hid (Only [] w w4) := (HO.out.trans HO3.out).next ho4.out (fun y hy => .inr (HV.out y hy))
      have HV4 : Hid (w.heap.size ≤ g2) := by
        show _ ≤ _
        rcases hg4.out with h1 | h1
        · exact HV.out g2 h1
        · have h2 := HO.out.size; have h3 := HZ3.out; omega
      clear ho4 hg4
      go_wp2_with fail
      go_roundw
      case rel => exact ⟨k + 1, _, rfl, by omega, by go_num, by rw [HT.out]; exact hr4.out, (by intro x hx; simp [ownL, Value.ownBlock] at hx; subst hx; exact HV4.out), HO4.out⟩
      case measure => simp [intOf]; omega
    · obtain rfl : k = s.i.length := by omega
      rw [List.take_length] at HS
      go_wp2_with fail
      refine (Sorted_any _ (connsL s.i) wr HS.out (by rw [connsL, List.length_map]; have := HL.out; omega)).mono ?_
      rintro e w' ⟨r, rfl, hs', hn', ho'⟩
      have HS' := Lib.hid hs'
      have HN' := Lib.hid hn'
      have HO' := Lib.hid ho'
      clear hs' hn' ho'
      go_wp2
      go_ret
      exact ⟨r, rfl, HS'.out, (fun x hx => Nat.le_trans HO.out.size (HN'.out x hx)), HO.out.trans HO'.out⟩
end Go.Proofs.Ytbnmldfiheffoaa
