/-
  The contracts of refusal, remove, Of, Members, Want and Len over this seat's program. Conditions: those of each statement.
-/
import Derived.Test.YtcljmdpnbfefbaaXOps
import Derived.Laws.ResultCell
namespace Go.Proofs.Ytcljmdpnbfefbaa
open Go.RowKit

theorem Only.five {w w1 : World} {B : Nat} (h : Only [] w w1) (hB : w.heap.size ≤ B) (a b c x y : Value) : Only [] w (((((w1.setCell ⟨B, 0, none⟩ a).setCell ⟨B, 1, none⟩ b).setCell ⟨B, 2, none⟩ c).setCell ⟨B, 3, none⟩ x).setCell ⟨B, 4, none⟩ y) :=
  ((((h.setNew (p := ⟨B, 0, none⟩) hB _).setNew (p := ⟨B, 1, none⟩) hB _).setNew (p := ⟨B, 2, none⟩) hB _).setNew (p := ⟨B, 3, none⟩) hB _).setNew (p := ⟨B, 4, none⟩) hB _
section
variable (g : Nat) (v : Value) (l : List Px) (s : Sv) (w : World) (h : ShAt eP 1 w g v s.last l) (hl : l.map Px.p = s.l)
include h hl
set_option maxHeartbeats 1600000 in
theorem srefusal_any (i : Int) (ok : Ok s) : Calls Try.prog 28 #[.pointer (some ⟨g, 0, none⟩), .int .i64 i] w fun e w' => e = .returned (.int .i64 (joinC i s : Int)) ∧ Only [] w w' := by
  have HH := Lib.hid h
  have HL := Lib.hid hl
  have HK := Lib.hid ok
  have hhome := shome_any g v l s w h hl i
  have hgl : g < w.heap.size := h.lt
  clear h hl ok
  by_cases h1 : i < 1
  · have HE : Hid (joinC i s = 2) := by show _ = _; unfold joinC; rw [if_pos h1]
    rw [HE.out]
    clear hhome
    go_enter Try.func28, Try.ntmps28
    go_wp2
    go_ret
    exact ⟨rfl, Only.refl _ _⟩
  by_cases h2 : homeK i s < s.l.length
  · have HE : Hid (joinC i s = 16) := by show _ = _; unfold joinC; rw [if_neg h1, if_pos h2]
    rw [HE.out]
    rw [spotI_yes h2] at hhome
    obtain ⟨k, hk⟩ : ∃ k, k = s.l.findIdx (hasI i) := ⟨_, rfl⟩
    rw [← hk] at hhome
    have hk0 : (0 : Int) ≤ (k : Int) := by omega
    clear h2 hk
    have h1' : 1 ≤ i := by omega
    go_enter Try.func28, Try.ntmps28
    go_wp2_with fail
    refine hhome.mono ?_
    rintro e w1 ⟨rfl, ho⟩
    clear hhome
    go_wp2
    go_ret
    exact ⟨rfl, ho⟩
  · have HE : Hid (joinC i s = if 64 ≤ sumL s.l then 10 else 0) := by show _ = _; unfold joinC; rw [if_neg h1, if_neg h2]
    rw [HE.out]
    rw [spotI_no h2] at hhome
    have h1' : 1 ≤ i := by omega
    obtain ⟨q, hq⟩ : ∃ q, q = sumL s.l := ⟨_, rfl⟩
    have HQ := Lib.hid hq
    rw [← hq]
    clear h2 hq
    by_cases h3 : 64 ≤ q
    · rw [if_pos h3]
      go_enter Try.func28, Try.ntmps28
      go_wp2_with fail
      refine hhome.mono ?_
      rintro e w1 ⟨rfl, ho⟩
      have HO1 := Lib.hid ho
      clear hhome ho
      go_wp2_with fail
      refine (stotal_any g v l s w1 (HH.out.old HO1.out) HL.out HK.out.sum HK.out.len).mono ?_
      rintro e w2 ⟨rfl, ho⟩
      rw [← HQ.out]
      have HO2 := Lib.hid (HO1.out.trans ho)
      clear ho
      go_wp2
      go_ret
      exact ⟨rfl, HO2.out⟩
    · rw [if_neg h3]
      go_enter Try.func28, Try.ntmps28
      go_wp2_with fail
      refine hhome.mono ?_
      rintro e w1 ⟨rfl, ho⟩
      have HO1 := Lib.hid ho
      clear hhome ho
      go_wp2_with fail
      refine (stotal_any g v l s w1 (HH.out.old HO1.out) HL.out HK.out.sum HK.out.len).mono ?_
      rintro e w2 ⟨rfl, ho⟩
      rw [← HQ.out]
      have HO2 := Lib.hid (HO1.out.trans ho)
      clear ho
      go_wp2
      go_ret
      exact ⟨rfl, HO2.out⟩

set_option maxHeartbeats 800000 in
theorem sremove_any (k : Nat) (hk : k < s.l.length) : Calls Try.prog 33 #[.pointer (some ⟨g, 0, none⟩), .int .i64 (k : Int)] w fun e w' => e = .returned (.tuple #[]) ∧ ShStep eP 1 w w' g (foot g v l) (outK k s) ∧ ∃ n cap gv, v = .slice (some ⟨gv, 0, none⟩) n cap ∧ Only [g, gv] w w' := by
  have hkl : k < l.length := by rw [map_len hl]; exact hk
  obtain ⟨gv, cap, hv, hgs, hlc, hcm⟩ := h.row.some_ (by omega)
  obtain ⟨n, hn⟩ : ∃ n, n = l.length := ⟨_, rfl⟩
  rw [← hn] at hv hkl hlc
  subst hv
  unfold maxLen at hcm
  have HH := Lib.hid h
  have HL := Lib.hid hl
  have HN := Lib.hid hn
  have hc1 := h.c1
  have hz1 := h.z1
  have hgl := h.lt
  have hgv : g ≠ gv := by
    obtain ⟨d1, _⟩ := foot_nodup.1 h.nd
    intro e; subst e; exact d1 (by simp [ownL, Value.ownBlock])
  have HGV := Lib.hid hgv
  have hd := delP_any gv cap k (k + 1) n l w hn rfl h.row hkl hlc hcm
  have hk62 : k < 9223372036854775807 := by omega
  rw [show (((k + 1 : Nat)) : Int) = (k : Int) + 1 by omega] at hd
  clear h hl hn hk hgv
  go_enter Try.func33, Try.ntmps33
  go_wp2_with fail
  refine hd.mono ?_
  rintro e w1 ⟨rfl, hr1, ho1⟩
  have HR1 := Lib.hid hr1
  have HO1 := Lib.hid ho1
  have hov : ownL (.slice (some ⟨gv, 0, none⟩) n cap) = [gv] := by simp [ownL, Value.ownBlock]
  have hcc : w1.cell? ⟨g, 1, none⟩ = some (.slice (some ⟨gv, 0, none⟩) n cap) := (ho1.cell (p := ⟨g, 1, none⟩) hgl (by simpa using HGV.out)).trans hc1
  have hzz : w1.frozen? ⟨g, 1, none⟩ = false := (ho1.frozen (p := ⟨g, 1, none⟩) hgl (by simpa using HGV.out)).trans hz1
  have HOV := Lib.hid hov
  have HT := Lib.hid (HH.out.erase k (by rw [hov]; exact ho1) hr1 (v' := .slice (some ⟨gv, 0, none⟩) (n - 1) cap) (fun x hx => .inl hx))
  clear hd hr1 ho1 hc1 hz1 hov
  go_wp2
  go_end0
  refine ⟨rfl, ⟨_, _, HT.out, map_erase HL.out k, ?_, ?_⟩, n, cap, gv, rfl, ?_⟩
  · refine Only.setCell (HO1.out.mono ?_) (p := ⟨g, 1, none⟩) (mem_foot.2 (.inl rfl)) _
    intro x hx
    exact mem_foot.2 (.inr (.inl (by rw [HOV.out]; exact hx)))
  · intro y hy
    left
    rcases mem_foot.1 hy with h1 | h1 | h1
    · exact mem_foot.2 (.inl h1)
    · exact mem_foot.2 (.inr (.inl h1))
    · exact mem_foot.2 (.inr (.inr ((feet_erase l k).mem h1)))
  · exact Only.setCell (HO1.out.mono (by simp)) (p := ⟨g, 1, none⟩) (by simp) _

/-- the number of a place -/
def ofN (i : Int) (s : Sv) : Nat := leaveN i s
set_option maxHeartbeats 800000 in
theorem sOf_any (i : Int) : Calls Try.prog 21 #[.pointer (some ⟨g, 0, none⟩), .int .i64 i] w fun e w' => e = .returned (.int .i64 (ofN i s : Int)) ∧ Only [] w w' := by
  have HH := Lib.hid h
  have HL := Lib.hid hl
  have hhome := shome_any g v l s w h hl i
  have hgl : g < w.heap.size := h.lt
  by_cases h2 : homeK i s < s.l.length
  · have hkl : s.l.findIdx (hasI i) < l.length := by rw [map_len hl]; exact h2
    have HE : Hid (ofN i s = (nthP s.l (s.l.findIdx (hasI i))).n) := by show _ = _; unfold ofN leaveN; rw [if_pos h2]; rfl
    rw [HE.out]
    rw [spotI_yes h2] at hhome
    obtain ⟨k, hk⟩ : ∃ k, k = s.l.findIdx (hasI i) := ⟨_, rfl⟩
    rw [← hk] at hhome hkl ⊢
    obtain ⟨gv, cap, hv, hgs, hlc, hcm⟩ := h.row.some_ (by omega)
    have hX : (nthX l k).p = nthP s.l k := nthX_p hl
    obtain ⟨n, hn⟩ : ∃ n, n = l.length := ⟨_, rfl⟩
    rw [← hn] at hv hkl hlc
    subst hv
    unfold maxLen at hcm
    have HN := Lib.hid hn
    rw [← hX]
    clear h hl h2 hk hX hn HE
    go_enter Try.func21, Try.ntmps21
    go_wp2_with fail
    refine hhome.mono ?_
    rintro e w1 ⟨rfl, ho⟩
    have hh1 := HH.out.old ho
    have hc1 := hh1.c1
    obtain ⟨f0, f1, f2, f3, f4, f5, f6⟩ := hh1.row.el HN.out (k := k) (by rw [← HN.out]; exact hkl)
    clear hhome hh1
    go_wp2
    go_ret
    exact ⟨rfl, ho⟩
  · have HE : Hid (ofN i s = 0) := by show _ = _; unfold ofN leaveN; rw [if_neg h2]
    rw [HE.out]
    rw [spotI_no h2] at hhome
    clear h hl h2
    go_enter Try.func21, Try.ntmps21
    go_wp2_with fail
    refine hhome.mono ?_
    rintro e w1 ⟨rfl, ho⟩
    clear hhome
    go_wp2
    go_ret
    exact ⟨rfl, ho⟩
set_option maxHeartbeats 800000 in
theorem sMembers_any (k0 : Int) (ok : Ok s) : Calls Try.prog 23 #[.pointer (some ⟨g, 0, none⟩), .int .i64 k0] w fun e w' => ∃ r, e = .returned r ∧ IRow w' r (doneR k0 s) ∧ NewL w.heap.size r ∧ Only [] w w' := by
  have HH := Lib.hid h
  have HL := Lib.hid hl
  have hhome := sfind_any g v l s w h hl k0
  have hgl : g < w.heap.size := h.lt
  by_cases h2 : spotK k0 s < s.l.length
  · have hkl : s.l.findIdx (numB k0) < l.length := by rw [map_len hl]; exact h2
    have HM : Hid ((nthP s.l (s.l.findIdx (numB k0))).i.length ≤ 64) := ok.mem (nthP_mem h2)
    have HE : Hid (doneR k0 s = (nthP s.l (s.l.findIdx (numB k0))).i) := by show _ = _; unfold doneR; rw [if_pos h2]; rfl
    rw [HE.out]
    rw [spotI_yes h2] at hhome
    obtain ⟨k, hk⟩ : ∃ k, k = s.l.findIdx (numB k0) := ⟨_, rfl⟩
    rw [← hk] at hhome hkl HM ⊢
    obtain ⟨gv, cap, hv, hgs, hlc, hcm⟩ := h.row.some_ (by omega)
    have hX : (nthX l k).p = nthP s.l k := nthX_p hl
    have HMEM : Hid (nthX l k ∈ l) := nthX_mem hkl
    obtain ⟨n, hn⟩ : ∃ n, n = l.length := ⟨_, rfl⟩
    rw [← hn] at hv hkl hlc
    subst hv
    unfold maxLen at hcm
    have HN := Lib.hid hn
    rw [← hX] at HM ⊢
    clear h hl h2 hk hX hn HE ok
    go_enter Try.func23, Try.ntmps23
    go_wp2_with fail
    refine hhome.mono ?_
    rintro e w1 ⟨rfl, ho⟩
    have hh1 := HH.out.old ho
    have hc1 := hh1.c1
    have hcl := nClone_any (nthX l k).v (nthX l k).p.i w1 (hh1.ids _ HMEM.out) (by have := HM.out; omega)
    obtain ⟨f0, f1, f2, f3, f4, f5, f6⟩ := hh1.row.el HN.out (k := k) (by rw [← HN.out]; exact hkl)
    simp only [Px.v] at hcl
    have HS1 := Lib.hid ho.size
    clear hhome hh1
    go_wp2_with fail
    refine hcl.mono ?_
    rintro e w2 ⟨r, rfl, hr, hnl, ho2⟩
    obtain ⟨A2, c2, hr2, _, _⟩ := hr.slice
    have HR := Lib.hid hr
    have HNL := Lib.hid hnl
    clear hcl hr hnl
    subst hr2
    go_wp2
    go_ret
    exact ⟨_, rfl, HR.out, fun x hx => Nat.le_trans HS1.out (HNL.out x hx), ho.trans ho2⟩
  · have HE : Hid (doneR k0 s = []) := by show _ = _; unfold doneR; rw [if_neg h2]
    rw [HE.out]
    rw [spotI_no h2] at hhome
    clear h hl h2
    go_enter Try.func23, Try.ntmps23
    go_wp2_with fail
    refine hhome.mono ?_
    rintro e w1 ⟨rfl, ho⟩
    clear hhome
    go_wp2
    go_ret
    exact ⟨_, rfl, IRow.nil, NewL.none_ _, ho⟩
set_option maxHeartbeats 1600000 in
theorem sWant_any (k0 : Int) : Calls Try.prog 19 #[.pointer (some ⟨g, 0, none⟩), .int .i64 k0] w fun e w' => e = .returned (.tuple #[wV (wantW k0 s), .bool (wantO k0 s)]) ∧ Only [] w w' := by
  have HH := Lib.hid h
  have HL := Lib.hid hl
  obtain ⟨W1, hW1⟩ : ∃ W1, W1 = w.alloc (.cells #[.string ⟨#[]⟩, .string ⟨#[]⟩, .bool false, .string ⟨#[]⟩, .string ⟨#[]⟩] 31) := ⟨_, rfl⟩
  obtain ⟨B, hB⟩ : ∃ B, B = w.heap.size := ⟨_, rfl⟩
  have HO1 : Hid (Only [] w W1) := by show Only _ _ _; rw [hW1]; exact (Only.refl _ _).alloc _
  have HX1 : Hid (WtAt W1 B 0 zW) := by show WtAt _ _ _ _; rw [hW1, hB]; exact WtAt.new _ zW _
  have HZ1 : Hid (∀ j, W1.frozen? ⟨B, j, none⟩ = false) := by show ∀ j, _; intro j; rw [hW1, hB]; simp
  have HB := Lib.hid hB
  have hhome := sfind_any g v l s W1 (h.old HO1.out) hl k0
  have hgl : g < w.heap.size := h.lt
  have hgl1 : g < W1.heap.size := Nat.lt_of_lt_of_le hgl HO1.out.size
  by_cases h2 : spotK k0 s < s.l.length
  · have hkl : s.l.findIdx (numB k0) < l.length := by rw [map_len hl]; exact h2
    have HE : Hid (wantW k0 s = (nthP s.l (s.l.findIdx (numB k0))).w ∧ wantO k0 s = true) := by show _ ∧ _; unfold wantW wantO; rw [if_pos h2]; exact ⟨rfl, decide_eq_true h2⟩
    rw [HE.out.1, HE.out.2]
    rw [spotI_yes h2] at hhome
    obtain ⟨k, hk⟩ : ∃ k, k = s.l.findIdx (numB k0) := ⟨_, rfl⟩
    rw [← hk] at hhome hkl ⊢
    obtain ⟨gv, cap, hv, hgs, hlc, hcm⟩ := h.row.some_ (by omega)
    have hX : (nthX l k).p = nthP s.l k := nthX_p hl
    obtain ⟨n, hn⟩ : ∃ n, n = l.length := ⟨_, rfl⟩
    rw [← hn] at hv hkl hlc
    subst hv
    unfold maxLen at hcm
    have HN := Lib.hid hn
    rw [← hX]
    obtain ⟨x, hx⟩ : ∃ x, x = nthX l k := ⟨_, rfl⟩
    rw [← hx]
    have HX := Lib.hid hx
    clear h hl h2 hk hX hn HE hx
    go_enter Try.func19, Try.ntmps19
    go_wp2_with fail
    rw [← hW1]
    try rw [← hB]
    clear hW1 hB
    refine hhome.mono ?_
    rintro e w1 ⟨rfl, ho⟩
    have hh1 := HH.out.old (HO1.out.trans ho)
    have hc1 := hh1.c1
    have hgl2 := hh1.lt
    obtain ⟨f0, f1, f2, f3, f4, f5, f6⟩ := hh1.row.el HN.out (k := k) (by rw [← HN.out]; exact hkl)
    obtain ⟨b0, b1, b2, b3, b4⟩ := HX1.out.old ho
    have hBL := HX1.out.lt
    have z0 : w1.frozen? ⟨B, 0, none⟩ = false := (ho.frozen (p := ⟨B, 0, none⟩) hBL (by simp)).trans (HZ1.out 0)
    have z1 : w1.frozen? ⟨B, 1, none⟩ = false := (ho.frozen (p := ⟨B, 1, none⟩) hBL (by simp)).trans (HZ1.out 1)
    have z2 : w1.frozen? ⟨B, 2, none⟩ = false := (ho.frozen (p := ⟨B, 2, none⟩) hBL (by simp)).trans (HZ1.out 2)
    have z3 : w1.frozen? ⟨B, 3, none⟩ = false := (ho.frozen (p := ⟨B, 3, none⟩) hBL (by simp)).trans (HZ1.out 3)
    have z4 : w1.frozen? ⟨B, 4, none⟩ = false := (ho.frozen (p := ⟨B, 4, none⟩) hBL (by simp)).trans (HZ1.out 4)
    rw [← HX.out] at f0 f1 f2 f3 f4 f5 f6
    clear HX
    obtain ⟨⟨xn, xw, xi⟩, xA, xc⟩ := x
    simp only at f1 f2 f3 f4 f5
    clear hhome hh1
    go_wp2
    refine bodyPost_ret (by rw [results_cell_tmp rfl]; go_simp; rfl) rfl ?_
    exact ⟨rfl, (HO1.out.trans ho).five (by rw [HB.out]; exact Nat.le_refl _) _ _ _ _ _⟩
  · have HE : Hid (wantW k0 s = zW ∧ wantO k0 s = false) := by show _ ∧ _; unfold wantW wantO; rw [if_neg h2]; exact ⟨rfl, decide_eq_false h2⟩
    rw [HE.out.1, HE.out.2]
    rw [spotI_no h2] at hhome
    clear h hl h2
    go_enter Try.func19, Try.ntmps19
    go_wp2_with fail
    rw [← hW1]
    try rw [← hB]
    clear hW1 hB
    refine hhome.mono ?_
    rintro e w1 ⟨rfl, ho⟩
    obtain ⟨b0, b1, b2, b3, b4⟩ := HX1.out.old ho
    have hBL := HX1.out.lt
    have z0 : w1.frozen? ⟨B, 0, none⟩ = false := (ho.frozen (p := ⟨B, 0, none⟩) hBL (by simp)).trans (HZ1.out 0)
    have z1 : w1.frozen? ⟨B, 1, none⟩ = false := (ho.frozen (p := ⟨B, 1, none⟩) hBL (by simp)).trans (HZ1.out 1)
    have z2 : w1.frozen? ⟨B, 2, none⟩ = false := (ho.frozen (p := ⟨B, 2, none⟩) hBL (by simp)).trans (HZ1.out 2)
    have z3 : w1.frozen? ⟨B, 3, none⟩ = false := (ho.frozen (p := ⟨B, 3, none⟩) hBL (by simp)).trans (HZ1.out 3)
    have z4 : w1.frozen? ⟨B, 4, none⟩ = false := (ho.frozen (p := ⟨B, 4, none⟩) hBL (by simp)).trans (HZ1.out 4)
    clear hhome
    go_wp2
    refine bodyPost_ret (by rw [results_cell_tmp rfl]; go_simp; rfl) rfl ?_
    exact ⟨rfl, (HO1.out.trans ho).five (by rw [HB.out]; exact Nat.le_refl _) _ _ _ _ _⟩
set_option maxHeartbeats 400000 in
theorem sLen_any : Calls Try.prog 25 #[.pointer (some ⟨g, 0, none⟩)] w fun e w' => e = .returned (.int .i64 (s.l.length : Int)) ∧ Only [] w w' := by
  obtain ⟨A, cap, hv, hlc, hcm⟩ := h.row.slice
  have hc1 := h.c1
  have hgl := h.lt
  have HE : Hid (l.length = s.l.length) := map_len hl
  obtain ⟨n, hn⟩ : ∃ n, n = l.length := ⟨_, rfl⟩
  rw [← HE.out]
  rw [← hn] at hv ⊢
  subst hv
  clear h hl hn hlc hcm
  go_enter Try.func25, Try.ntmps25
  go_wp2
  go_ret
  exact ⟨rfl, Only.refl _ _⟩
end
end Go.Proofs.Ytcljmdpnbfefbaa
