/-
  The contracts of the document's own Sweep and Clear of entries over this seat's program. Conditions: the cache lies there.
-/
import Derived.Test.YtoafncfknllghaaDoorBClone
namespace Go.Proofs.YtoafncfknllghaaDoor
open Go.RowKit

set_option maxRecDepth 8000 in
set_option maxHeartbeats 4000000 in
theorem mSweep_any (g n : Nat) (v : Value) (l : List En) (t : Nat) (w : World) (h : CaAt w g n v l) :
    Calls Tryd.prog 14 #[.pointer (some ⟨g, 0, none⟩), .int .u64 (t : Int)] w fun r w' => r = .returned (.int .i64 ((l.length - (sweepL t l).length : Nat) : Int)) ∧ CaStep w w' g n v (sweepL t l) := by
  obtain ⟨A, cap, hv, hlc, hcm⟩ := h.row.slice
  unfold maxLen at hcm
  have HH := Lib.hid h
  have hgl := h.lt
  have hln := h.len
  have hn2 := h.n2
  have HFL : Hid (sweepL t l = l.filter (fun e => !expB t e)) := rfl
  obtain ⟨m, hm⟩ : ∃ m, m = sweepL t l := ⟨_, rfl⟩
  rw [← hm] at HFL ⊢
  clear hm
  have HML : Hid (m.length ≤ l.length) := by show _ ≤ _; rw [HFL.out]; exact List.length_filter_le _ _
  obtain ⟨N, hN⟩ : ∃ N, N = l.length := ⟨_, rfl⟩
  have HN := Lib.hid hN
  rw [← hN] at hv hlc hln HML ⊢
  clear hN h
  subst hv
  go_enter Tryd.func14, Tryd.ntmps14
  go_wp2_with fail
  go_loopw [5, 6] (fun c i wr => ∃ (k : Nat) (vc : Value), k ≤ N ∧ vc = c ∧ i = .int .i64 k ∧ EnRow wr vc ((l.take k).filter (fun e => !expB t e)) ∧ NewL w.heap.size vc ∧ Only [] w wr) (fun _ i _ => N - (intOf i).toNat)
  case atStart => exact ⟨0, _, Nat.zero_le _, rfl, rfl, EnRow.nil, (by intro x hx; simp [ownL, Value.ownBlock] at hx), Only.refl _ _⟩
  case round =>
    obtain ⟨k, vc, hk, hvc, rfl, hr, hn, ho⟩ := hrel
    subst hvc
    have HR := Lib.hid hr
    have HV := Lib.hid hn
    have HO := Lib.hid ho
    clear hr hn ho
    have HA := Lib.hid (HH.out.old HO.out)
    have hc1 := HA.out.c1
    have hg1 := HA.out.lt
    have HK := Lib.hid (keepE_len (p := fun e => !expB t e) (l := l) (k := k) (by have := HN.out; omega))
    by_cases hlt : k < N
    · obtain ⟨gi, cap2, hv2, hgi, _, _⟩ := HA.out.row.some_ (by have := HN.out; omega)
      rw [← HN.out] at hv2
      obtain ⟨rfl, rfl⟩ : A = some ⟨gi, 0, none⟩ ∧ cap = cap2 := by
        injection hv2 with e1 e2 e3
        exact ⟨e1, e3⟩
      obtain ⟨f0, f1, f2, f3, f4, f5⟩ := HA.out.row.el (l := l) HN.out (k := k) (by rw [← HN.out]; exact hlt)
      have HT := Lib.hid (keepE_take (p := fun e => !expB t e) (l := l) (k := k) (by have := HN.out; omega))
      obtain ⟨F, hF⟩ : ∃ F, F = (l.take k).filter (fun e => !expB t e) := ⟨_, rfl⟩
      rw [← hF] at HR HK HT
      clear hF
      obtain ⟨x, hx⟩ : ∃ x, x = nthE l k := ⟨_, rfl⟩
      rw [← hx] at f0 f1 f2 f3 f4 f5 HT
      clear hv2 hx
      by_cases hcmp : t < x.t
      · have HT2 : Hid ((l.take (k + 1)).filter (fun e => !expB t e) = F ++ [x]) := by show _ = _; rw [HT.out, if_pos (by simp [expB]; omega)]
        clear HT
        have hd : decide (t < x.t) = true := decide_eq_true hcmp
        obtain ⟨W1, hW1⟩ : ∃ W1, W1 = wr.alloc (.cells #[.string x.k.o, .string x.k.u, .bool x.k.c, .string x.m, .string x.h, .int .u64 (x.t : Int)] 34) := ⟨_, rfl⟩
        obtain ⟨B2, hB2⟩ : ∃ B2, B2 = wr.heap.size := ⟨_, rfl⟩
        have HO1 : Hid (Only [] wr W1) := by show Only _ _ _; rw [hW1]; exact (Only.refl _ _).alloc _
        have HB2 : Hid (EnBox W1 B2 x) := by show EnBox _ _ _; rw [hW1, hB2]; exact EnBox.new _ _ _
        have HR1 := Lib.hid (HR.out.old HO1.out)
        obtain ⟨Ac, capc, hce, _⟩ := HR1.out.slice
        subst hce
        go_wp2_with (at_builtin; rw [← hW1, ← hB2]; refine wpList_append_ent rfl (.tmp 27) (.tmp 35) rfl _ F rfl HR1.out B2 x rfl HB2.out (by have := HK.out; omega) ?_)
        intro g2 cap2 w4 hr4 ho4 hg4
        rw [← hW1] at ho4
        clear hW1 hB2 f0 f1 f2 f3 f4 f5 hd
        have HO4 : Hid (Only [] w w4) := (HO.out.trans HO1.out).next ho4.out (fun y hy => .inr (HV.out y hy))
        have HV4 : Hid (w.heap.size ≤ g2) := by
          show _ ≤ _
          rcases hg4.out with h1 | h1
          · exact HV.out g2 h1
          · have h1' := HO.out.size; have h2 := HO1.out.size; omega
        clear ho4 hg4 hc1
        go_wp2_with fail
        go_roundw
        case rel =>
          refine ⟨k + 1, _, by omega, rfl, by go_num, by rw [HT2.out]; exact hr4.out, ?_, HO4.out⟩
          intro y hy
          simp [ownL, Value.ownBlock] at hy
          subst hy; exact HV4.out
        case measure => simp [intOf]; omega
      · have HT2 : Hid ((l.take (k + 1)).filter (fun e => !expB t e) = F) := by show _ = _; rw [HT.out, if_neg (by simp [expB]; omega)]
        clear HT
        have hd : decide (t < x.t) = false := decide_eq_false hcmp
        go_wp2_with fail
        clear f0 f1 f2 f3 f4 f5 hd hc1
        go_wp2
        go_roundw
        case rel => exact ⟨k + 1, vc, by omega, rfl, by go_num, by rw [HT2.out]; exact HR.out, HV.out, HO.out⟩
        case measure => simp [intOf]; omega
    · obtain rfl : k = N := by omega
      have HTK : Hid (l.take k = l) := List.take_of_length_le (by have := HN.out; omega)
      rw [HTK.out, ← HFL.out] at HR
      obtain ⟨Ac, capc, hce, hcl, hcc⟩ := HR.out.slice
      unfold maxLen at hcc
      have hml := HML.out
      obtain ⟨M, hM⟩ : ∃ M, M = m.length := ⟨_, rfl⟩
      have HM := Lib.hid hM
      rw [← hM] at hce hml hcl
      clear hM
      have hz1 := HA.out.z1
      obtain ⟨W2, hW2⟩ : ∃ W2, W2 = wr.setCell ⟨g, 1, none⟩ vc := ⟨_, rfl⟩
      have HG : Hid (Grow w.heap.size (.slice A k cap) vc) := fun x hx => .inr (HV.out x hx)
      have HC2 : Hid (CaAt W2 g n vc m) := by show CaAt _ _ _ _ _; rw [hW2]; exact HH.out.turn (HO.out.mono (by simp)) HR.out HG.out (by rw [← HM.out]; omega)
      have HO2 : Hid (Only (g :: ownL (.slice A k cap)) w W2) := by show Only _ _ _; rw [hW2]; exact (HO.out.mono (by simp)).setCell (p := ⟨g, 1, none⟩) (by simp) _
      subst hce
      go_wp2_with fail
      rw [← hW2]
      clear hW2 hz1 hc1
      go_wp2
      go_ret
      exact ⟨ret_int (by have := HM.out; omega), _, HC2.out, HO2.out, HG.out⟩
set_option maxRecDepth 8000 in
set_option maxHeartbeats 4000000 in
theorem mClear_any (g n : Nat) (v : Value) (l : List En) (k0 : Cl) (w : World) (h : CaAt w g n v l) :
    Calls Tryd.prog 16 #[.pointer (some ⟨g, 0, none⟩), cellV k0] w fun r w' => r = .returned (.int .i64 ((l.length - (clearL k0 l).length : Nat) : Int)) ∧ CaStep w w' g n v (clearL k0 l) := by
  obtain ⟨A, cap, hv, hlc, hcm⟩ := h.row.slice
  unfold maxLen at hcm
  have HH := Lib.hid h
  have hgl := h.lt
  have hln := h.len
  have hn2 := h.n2
  have HFL : Hid (clearL k0 l = l.filter (fun e => !ofB k0 e)) := rfl
  obtain ⟨m, hm⟩ : ∃ m, m = clearL k0 l := ⟨_, rfl⟩
  rw [← hm] at HFL ⊢
  clear hm
  have HML : Hid (m.length ≤ l.length) := by show _ ≤ _; rw [HFL.out]; exact List.length_filter_le _ _
  obtain ⟨N, hN⟩ : ∃ N, N = l.length := ⟨_, rfl⟩
  have HN := Lib.hid hN
  rw [← hN] at hv hlc hln HML ⊢
  clear hN h
  subst hv
  obtain ⟨w1, hw1⟩ : ∃ w1, w1 = w.alloc (.cells #[.string k0.o, .string k0.u, .bool k0.c] 24) := ⟨_, rfl⟩
  obtain ⟨B1, hB1⟩ : ∃ B1, B1 = w.heap.size := ⟨_, rfl⟩
  have HOB : Hid (Only [] w w1) := by show Only _ _ _; rw [hw1]; exact (Only.refl _ _).alloc _
  have HXB : Hid (ClBox w1 B1 k0) := by show ClBox _ _ _; rw [hw1, hB1]; exact ClBox.new _ _ _
  simp only [cellV]
  go_enter Tryd.func16, Tryd.ntmps16
  go_wp2_with fail
  rw [← hw1, ← hB1]
  clear hw1 hB1
  have HH := Lib.hid (HH.out.old HOB.out)
  go_loopw [5, 6] (fun c i wr => ∃ (k : Nat) (vc : Value), k ≤ N ∧ vc = c ∧ i = .int .i64 k ∧ EnRow wr vc ((l.take k).filter (fun e => !ofB k0 e)) ∧ NewL w1.heap.size vc ∧ Only [] w1 wr ∧ ClBox wr B1 k0) (fun _ i _ => N - (intOf i).toNat)
  case atStart => exact ⟨0, _, Nat.zero_le _, rfl, rfl, EnRow.nil, (by intro x hx; simp [ownL, Value.ownBlock] at hx), Only.refl _ _, HXB.out⟩
  case round =>
    obtain ⟨k, vc, hk, hvc, rfl, hr, hn, ho, hxb⟩ := hrel
    subst hvc
    have HR := Lib.hid hr
    have HV := Lib.hid hn
    have HO := Lib.hid ho
    have HX := Lib.hid hxb
    clear hr hn ho hxb
    have HA := Lib.hid (HH.out.old HO.out)
    have hc1 := HA.out.c1
    have hg1 := HA.out.lt
    have HK := Lib.hid (keepE_len (p := fun e => !ofB k0 e) (l := l) (k := k) (by have := HN.out; omega))
    by_cases hlt : k < N
    · obtain ⟨gi, cap2, hv2, hgi, _, _⟩ := HA.out.row.some_ (by have := HN.out; omega)
      rw [← HN.out] at hv2
      obtain ⟨rfl, rfl⟩ : A = some ⟨gi, 0, none⟩ ∧ cap = cap2 := by
        injection hv2 with e1 e2 e3
        exact ⟨e1, e3⟩
      obtain ⟨f0, f1, f2, f3, f4, f5⟩ := HA.out.row.el (l := l) HN.out (k := k) (by rw [← HN.out]; exact hlt)
      have HT := Lib.hid (keepE_take (p := fun e => !ofB k0 e) (l := l) (k := k) (by have := HN.out; omega))
      obtain ⟨F, hF⟩ : ∃ F, F = (l.take k).filter (fun e => !ofB k0 e) := ⟨_, rfl⟩
      rw [← hF] at HR HK HT
      clear hF
      obtain ⟨x, hx⟩ : ∃ x, x = nthE l k := ⟨_, rfl⟩
      rw [← hx] at f0 f1 f2 f3 f4 f5 HT
      have HXX := Lib.hid hx
      clear hv2 hx
      obtain ⟨q, hq⟩ : ∃ q, q = ofB k0 x := ⟨_, rfl⟩
      obtain ⟨d0, d1, d2⟩ := HX.out
      have hcmp : ∀ W, (binOp .neq 24 (.agg #[.string x.k.o, .string x.k.u, .bool x.k.c]) (.agg #[.string k0.o, .string k0.u, .bool k0.c])).run Tryd.prog W = .ok (.bool (!q)) W := fun W => by rw [neqE_cell, hq]; rfl
      have HQ := Lib.hid hq
      clear hq
      cases q
      · have HT2 : Hid ((l.take (k + 1)).filter (fun e => !ofB k0 e) = F ++ [x]) := by show _ = _; rw [HT.out, if_pos (by rw [← HQ.out]; rfl)]
        clear HT
        go_wp2_with fail
        go_quiet (fail)
        obtain ⟨W9, hW9⟩ : ∃ W9, W9 = wr.drewN nq := ⟨_, rfl⟩
        have HO9 : Hid (Only [] wr W9) := by show Only _ _ _; rw [hW9]; exact (Only.refl _ _).drewN _
        rw [← hW9]
        clear hW9
        obtain ⟨f0, f1, f2, f3, f4, f5⟩ := (HA.out.old HO9.out).row.el (l := l) HN.out (k := k) (by rw [← HN.out]; exact hlt)
        rw [← HXX.out] at f0 f1 f2 f3 f4 f5
        have hc1 := (HA.out.old HO9.out).c1
        have hg1 := (HA.out.old HO9.out).lt
        obtain ⟨W1, hW1⟩ : ∃ W1, W1 = W9.alloc (.cells #[.string x.k.o, .string x.k.u, .bool x.k.c, .string x.m, .string x.h, .int .u64 (x.t : Int)] 34) := ⟨_, rfl⟩
        obtain ⟨B2, hB2⟩ : ∃ B2, B2 = W9.heap.size := ⟨_, rfl⟩
        have HO1 : Hid (Only [] wr W1) := by show Only _ _ _; rw [hW1]; exact HO9.out.alloc _
        have HB2 : Hid (EnBox W1 B2 x) := by show EnBox _ _ _; rw [hW1, hB2]; exact EnBox.new _ _ _
        have HR1 := Lib.hid (HR.out.old HO1.out)
        obtain ⟨Ac, capc, hce, _⟩ := HR1.out.slice
        subst hce
        go_wp2_with (at_builtin; rw [← hW1, ← hB2]; refine wpList_append_ent rfl (.tmp 27) (.tmp 35) rfl _ F rfl HR1.out B2 x rfl HB2.out (by have := HK.out; omega) ?_)
        intro g2 cap2 w4 hr4 ho4 hg4
        rw [← hW1] at ho4
        clear hW1 hB2 f0 f1 f2 f3 f4 f5 d0 d1 d2 hcmp
        have HO4 : Hid (Only [] w1 w4) := (HO.out.trans HO1.out).next ho4.out (fun y hy => .inr (HV.out y hy))
        have HV4 : Hid (w1.heap.size ≤ g2) := by
          show _ ≤ _
          rcases hg4.out with h1 | h1
          · exact HV.out g2 h1
          · have h1' := HO.out.size; have h2 := HO1.out.size; have h3 := HO9.out.size; omega
        have HX4 : Hid (ClBox w4 B1 k0) := (HX.out.old HO1.out).only ho4.out (fun hm => by have := HV.out _ hm; have := HXB.out.lt; omega)
        clear ho4 hg4 hc1
        go_wp2_with fail
        go_roundw
        case rel =>
          refine ⟨k + 1, _, by omega, rfl, by go_num, by rw [HT2.out]; exact hr4.out, ?_, HO4.out, HX4.out⟩
          intro y hy
          simp [ownL, Value.ownBlock] at hy
          subst hy; exact HV4.out
        case measure => simp [intOf]; omega
      · have HT2 : Hid ((l.take (k + 1)).filter (fun e => !ofB k0 e) = F) := by show _ = _; rw [HT.out, if_neg (by rw [← HQ.out]; simp)]
        clear HT
        go_wp2_with fail
        go_quiet (fail)
        obtain ⟨W9, hW9⟩ : ∃ W9, W9 = wr.drewN nq := ⟨_, rfl⟩
        have HO9 : Hid (Only [] wr W9) := by show Only _ _ _; rw [hW9]; exact (Only.refl _ _).drewN _
        rw [← hW9]
        clear hW9
        clear f0 f1 f2 f3 f4 f5 d0 d1 d2 hcmp hc1
        go_wp2
        go_roundw
        case rel => exact ⟨k + 1, vc, by omega, rfl, by go_num, by rw [HT2.out]; exact HR.out.old HO9.out, HV.out, HO.out.trans HO9.out, HX.out.old HO9.out⟩
        case measure => simp [intOf]; omega
    · obtain rfl : k = N := by omega
      have HTK : Hid (l.take k = l) := List.take_of_length_le (by have := HN.out; omega)
      rw [HTK.out, ← HFL.out] at HR
      obtain ⟨Ac, capc, hce, hcl, hcc⟩ := HR.out.slice
      unfold maxLen at hcc
      have hml := HML.out
      obtain ⟨M, hM⟩ : ∃ M, M = m.length := ⟨_, rfl⟩
      have HM := Lib.hid hM
      rw [← hM] at hce hml hcl
      clear hM
      have hz1 := HA.out.z1
      obtain ⟨W2, hW2⟩ : ∃ W2, W2 = wr.setCell ⟨g, 1, none⟩ vc := ⟨_, rfl⟩
      have HG : Hid (Grow w1.heap.size (.slice A k cap) vc) := fun x hx => .inr (HV.out x hx)
      have HC2 : Hid (CaAt W2 g n vc m) := by show CaAt _ _ _ _ _; rw [hW2]; exact HH.out.turn (HO.out.mono (by simp)) HR.out HG.out (by rw [← HM.out]; omega)
      have HO2 : Hid (Only (g :: ownL (.slice A k cap)) w1 W2) := by show Only _ _ _; rw [hW2]; exact (HO.out.mono (by simp)).setCell (p := ⟨g, 1, none⟩) (by simp) _
      subst hce
      go_wp2_with fail
      rw [← hW2]
      clear hW2 hz1 hc1
      go_wp2
      go_ret
      exact ⟨ret_int (by have := HM.out; omega), CaStep.next (HOB.out.mono (by simp)) (Grow.refl _ _) ⟨_, HC2.out, HO2.out, HG.out⟩⟩
end Go.Proofs.YtoafncfknllghaaDoor
