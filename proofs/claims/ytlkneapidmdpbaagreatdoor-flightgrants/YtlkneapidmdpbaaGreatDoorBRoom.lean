/-
  The contract of the cache's makeRoom over this seat's program. Conditions: the cache lies there.
-/
import Derived.Test.YtlkneapidmdpbaaGreatDoorBOps
namespace Go.Proofs.YtlkneapidmdpbaaGreatDoor
open Go.RowKit

set_option maxHeartbeats 4000000 in
theorem cRoom_any (g n : Nat) (v : Value) (l : List En) (w : World) (h : CaAt w g n v l) :
    Calls Tryz.prog 70 #[.pointer (some ⟨g, 0, none⟩)] w fun r w' => r = .returned (.tuple #[]) ∧ CaStep w w' g n v (roomL n l) := by
  obtain ⟨A, cap, hv, hlc, hcm⟩ := h.row.slice
  unfold maxLen at hcm
  have HH := Lib.hid h
  have hc0 := h.c0
  have hc1 := h.c1
  have hgl := h.lt
  have hn1 := h.n1
  have hn2 := h.n2
  have hln := h.len
  clear h
  by_cases h0 : l.length = 0
  · have HRM := Lib.hid (roomL_no (n := n) (l := l) (by omega))
    obtain ⟨m, hm⟩ : ∃ m, m = l.length := ⟨_, rfl⟩
    rw [← hm] at hv
    obtain rfl : m = 0 := by omega
    subst hv
    clear hm
    go_enter Tryz.func70, Tryz.ntmps70
    go_wp2_with fail
    go_quiet (fail)
    go_wp2
    refine bodyPost_ret (results_none rfl _ _ _) rfl ?_
    exact ⟨rfl, by rw [HRM.out]; exact CaStep.same HH.out ((Only.refl _ w).drewN _)⟩
  subst hv
  have hz : ((l.length : Int) == 0) = false := by simp; intro h; apply h0; rw [h]; rfl
  by_cases hfull : l.length < n
  · have HRM := Lib.hid (roomL_no (n := n) (l := l) (by omega))
    have hlt : decide (l.length < n) = true := decide_eq_true (by omega)
    go_enter Tryz.func70, Tryz.ntmps70
    go_wp2_with fail
    go_quiet (fail)
    go_wp2
    refine bodyPost_ret (results_none rfl _ _ _) rfl ?_
    exact ⟨rfl, by rw [HRM.out]; exact CaStep.same HH.out ((Only.refl _ w).drewN _)⟩
  have HRM := Lib.hid (roomL_yes (n := n) (l := l) (by omega))
  have hlt : decide (l.length < n) = false := decide_eq_false (by omega)
  obtain ⟨gi, cap2, hv2, hgi, _, _⟩ := HH.out.row.some_ (by omega)
  obtain ⟨rfl, rfl⟩ : A = some ⟨gi, 0, none⟩ ∧ cap = cap2 := by
    injection hv2 with e1 e2 e3
    exact ⟨e1, e3⟩
  clear hv2
  obtain ⟨N, hN⟩ : ∃ N, N = l.length := ⟨_, rfl⟩
  have HN := Lib.hid hN
  rw [← hN] at hlc hc1 hz hlt h0 hln HH ⊢
  clear hN
  have HLT := Lib.hid hlt
  go_enter Tryz.func70, Tryz.ntmps70
  go_wp2_with fail
  go_quiet (fail)
  clear hc0 hz hlt
  obtain ⟨W0, hW0⟩ : ∃ W0, W0 = w.drewN nq := ⟨_, rfl⟩
  have HO0 : Hid (Only [] w W0) := by show Only _ _ _; rw [hW0]; exact (Only.refl _ w).drewN _
  have hc0 := (HH.out.old HO0.out).c1
  have hg0 := (HH.out.old HO0.out).lt
  rw [← hW0]
  clear hW0 hc1 hgl
  go_wp2_with fail
  go_loopw [2, 28] (fun pl i wr => ∃ k : Nat, k ≤ N ∧ i = .int .i64 k ∧ pl = .int .i64 ((leastI l k : Nat) : Int) ∧ Only [] w wr) (fun _ i _ => N - (intOf i).toNat)
  case atStart => exact ⟨0, Nat.zero_le _, rfl, rfl, HO0.out⟩
  case round =>
    obtain ⟨k, hk, rfl, rfl, ho⟩ := hrel
    have HO := Lib.hid ho
    clear ho
    have HA := Lib.hid (HH.out.old HO.out)
    by_cases hlt : k < N
    · obtain ⟨f0, f1, f2, f3, f4, f5⟩ := HA.out.row.el (l := l) HN.out (k := k) (by rw [← HN.out]; exact hlt)
      have HPL : Hid (leastI l k < N) := by
        show _ < _
        by_cases h1 : k = 0
        · subst h1; show 0 < N; omega
        · have := leastI_lt l (k := k) (by omega); omega
      have HLS : Hid (leastI l (k + 1) = if (nthE l k).t < (nthE l (leastI l k)).t then k else leastI l k) := rfl
      obtain ⟨p, hp⟩ : ∃ p, p = leastI l k := ⟨_, rfl⟩
      rw [← hp] at HPL HLS ⊢
      clear hp
      have hpl := HPL.out
      obtain ⟨x, hx⟩ : ∃ x, x = nthE l k := ⟨_, rfl⟩
      rw [← hx] at f0 f1 f2 f3 f4 f5 HLS
      clear hx
      obtain ⟨y, hy⟩ : ∃ y, y = nthE l p := ⟨_, rfl⟩
      rw [← hy] at HLS
      have HY : Hid (∀ W, Only [] w W → W.cell? ⟨gi, p * 6 + 5, none⟩ = some (.int .u64 (y.t : Int))) := by
        show ∀ W, _
        intro W ho
        have h1 := ((HH.out.old ho).row.el (l := l) HN.out (k := p) (by rw [← HN.out]; exact hpl)).c5
        rw [hy]; exact h1
      clear hy
      obtain ⟨W1, hW1⟩ : ∃ W1, W1 = wr.alloc (.cells #[.string x.k.o, .string x.k.u, .bool x.k.c, .string x.m, .string x.h, .int .u64 (x.t : Int)] 64) := ⟨_, rfl⟩
      obtain ⟨B1, hB1⟩ : ∃ B1, B1 = wr.heap.size := ⟨_, rfl⟩
      have HO1 : Hid (Only [] w W1) := by show Only _ _ _; rw [hW1]; exact HO.out.alloc _
      have HB1 : Hid (EnBox W1 B1 x) := by show EnBox _ _ _; rw [hW1, hB1]; exact EnBox.new _ _ _
      have d5 := HB1.out.c5
      have hy1 := HY.out W1 HO1.out
      have hc1 := (HH.out.old HO1.out).c1
      have hg1 := (HH.out.old HO1.out).lt
      by_cases hcmp : x.t < y.t
      · have hd : decide (x.t < y.t) = true := decide_eq_true (by omega)
        have HE : Hid (leastI l (k + 1) = k) := by show _ = _; rw [HLS.out, if_pos hcmp]
        clear HLS hcmp
        go_wp2_with fail
        rw [← hW1, ← hB1]
        clear hW1 hB1 f0 f1 f2 f3 f4 f5
        go_quiet (fail)
        clear d5 hy1 hc1 hd
        go_wp2
        go_roundw
        case rel => exact ⟨k + 1, by omega, by go_num, by rw [HE.out], HO1.out.drewN _⟩
        case measure => simp [intOf]; omega
      · have hd : decide (x.t < y.t) = false := decide_eq_false (by omega)
        have HE : Hid (leastI l (k + 1) = p) := by show _ = _; rw [HLS.out, if_neg hcmp]
        clear HLS hcmp
        go_wp2_with fail
        rw [← hW1, ← hB1]
        clear hW1 hB1 f0 f1 f2 f3 f4 f5
        go_quiet (fail)
        clear d5 hy1 hc1 hd
        go_wp2
        go_roundw
        case rel => exact ⟨k + 1, by omega, by go_num, by rw [HE.out], HO1.out.drewN _⟩
        case measure => simp [intOf]; omega
    · obtain rfl : k = N := by omega
      have HPL : Hid (leastI l k < k) := leastI_lt l (by omega)
      have HRM2 := HRM.out
      rw [← HN.out] at HRM2
      obtain ⟨p, hp⟩ : ∃ p, p = leastI l k := ⟨_, rfl⟩
      rw [← hp] at HPL HRM2 ⊢
      clear hp
      have HRM3 := Lib.hid HRM2
      clear HRM2
      have hpl := HPL.out
      have hcon := delE_any gi cap p (p + 1) k l wr HN.out rfl HA.out.row hpl hlc (by omega)
      have hc1 := HA.out.c1
      have hg1 := HA.out.lt
      rw [show ((p + 1 : Nat) : Int) = (p : Int) + 1 by omega] at hcon
      go_wp2_with fail
      refine hcon.mono ?_
      rintro r w1 ⟨rfl, hr1, ho1⟩
      have HR1 := Lib.hid hr1
      have HO1 := Lib.hid ho1
      clear hcon hc1 hr1 ho1
      obtain ⟨v1, hv1⟩ : ∃ v1, v1 = Value.slice (some ⟨gi, 0, none⟩) (k - 1) cap := ⟨_, rfl⟩
      have hne : g ≠ gi := by have := HH.out.ne; simpa [ownL, Value.ownBlock] using this
      have hd1 : w1.cell? ⟨g, 1, none⟩ = some (.slice (some ⟨gi, 0, none⟩) k cap) := (HO1.out.cell (p := ⟨g, 1, none⟩) hg1 (by simpa using hne)).trans HA.out.c1
      have hz1 : w1.frozen? ⟨g, 1, none⟩ = false := (HO1.out.frozen (p := ⟨g, 1, none⟩) hg1 (by simpa using hne)).trans HA.out.z1
      obtain ⟨W2, hW2⟩ : ∃ W2, W2 = w1.setCell ⟨g, 1, none⟩ v1 := ⟨_, rfl⟩
      have HL : Hid ((roomL n l).length ≤ n) := by show _ ≤ _; have := (roomL_len (n := n) (l := l) hn1 HH.out.len).1; omega
      have HC2 : Hid (CaAt W2 g n v1 (roomL n l)) := by
        show CaAt _ _ _ _ _
        rw [hW2]
        refine HA.out.turn (by simpa [ownL, Value.ownBlock] using HO1.out) ?_ (by rw [hv1]; exact fun x hx => .inl hx) HL.out
        rw [HRM3.out, hv1]
        exact HR1.out
      have HO2 : Hid (Only (g :: ownL (.slice (some ⟨gi, 0, none⟩) k cap)) w W2) := by
        show Only _ _ _
        rw [hW2]
        exact ((HO.out.mono (by simp)).trans (HO1.out.mono (by simp [ownL, Value.ownBlock]))).setCell (p := ⟨g, 1, none⟩) (by simp) _
      have HG : Hid (Grow w.heap.size (.slice (some ⟨gi, 0, none⟩) k cap) v1) := by show Grow _ _ _; rw [hv1]; exact fun x hx => .inl hx
      rw [hv1] at hW2
      go_wp2_with fail
      rw [← hW2]
      clear hW2 hd1 hz1
      go_wp2
      go_end0
      exact ⟨rfl, v1, HC2.out, HO2.out, HG.out⟩
end Go.Proofs.YtlkneapidmdpbaaGreatDoor
