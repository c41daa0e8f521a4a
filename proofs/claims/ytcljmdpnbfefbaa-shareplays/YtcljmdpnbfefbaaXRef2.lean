/-
  The contracts of the document's own Members, Want, out and Done over this seat's program. Conditions: those of each statement.
-/
import Derived.Test.YtcljmdpnbfefbaaXRef
import Derived.Deep.CutRange
namespace Go.Proofs.Ytcljmdpnbfefbaa
open Go.RowKit

section
variable (g : Nat) (v : Value) (l : List Px) (s : Sv) (w : World) (h : ShAt eR 0 w g v s.last l) (hl : l.map Px.p = s.l)
include h hl
set_option maxHeartbeats 800000 in
theorem rMembers_any (k0 : Int) (ok : Ok s) : Calls Try.prog 24 #[.pointer (some ⟨g, 0, none⟩), .int .i64 k0] w fun e w' => ∃ r, e = .returned r ∧ IRow w' r (doneR k0 s) ∧ NewL w.heap.size r ∧ Only [] w w' := by
  have HH := Lib.hid h
  have HL := Lib.hid hl
  have hhome := rat_any g v l s w h hl k0
  have hgl : g < w.heap.size := h.lt
  by_cases h2 : spotK k0 s < s.l.length
  · have hkl : s.l.findIdx (numB k0) < l.length := by rw [map_len hl]; exact h2
    have HM : Hid ((nthP s.l (s.l.findIdx (numB k0))).i.length ≤ 64) := ok.mem (nthP_mem h2)
    have HE : Hid (doneR k0 s = (nthP s.l (s.l.findIdx (numB k0))).i) := by show _ = _; unfold doneR; rw [if_pos h2]; rfl
    rw [HE.out]
    rw [spotI_yes h2] at hhome
    obtain ⟨k, hk⟩ : ∃ k, k = s.l.findIdx (numB k0) := ⟨_, rfl⟩
    rw [← hk] at hhome hkl HM ⊢
    obtain ⟨gv, cap, hv, hgs, hlc, hcm⟩ := h.row.some_ (by omega)
    have hX : (nthX l k).p = nthP s.l k := nthX_p hl
    have HMEM : Hid (nthX l k ∈ l) := nthX_mem hkl
    obtain ⟨n, hn⟩ : ∃ n, n = l.length := ⟨_, rfl⟩
    rw [← hn] at hv hkl hlc
    subst hv
    unfold maxLen at hcm
    have HN := Lib.hid hn
    rw [← hX] at HM ⊢
    clear h hl h2 hk hX hn HE ok
    go_enter Try.func24, Try.ntmps24
    go_wp2_with fail
    refine hhome.mono ?_
    rintro e w1 ⟨rfl, hww⟩
    subst hww
    have hc1 := HH.out.c1
    obtain ⟨f0, f1, f2, f3, f4, f5, f6⟩ := HH.out.row.el HN.out (k := k) (by rw [← HN.out]; exact hkl)
    have HPT : Hid (PartAt nE w (nthX l k).v (nthX l k).p.i) := ERow.part (HH.out.ids _ HMEM.out)
    obtain ⟨x, hx⟩ : ∃ x, x = nthX l k := ⟨_, rfl⟩
    rw [← hx] at HPT f6 HM
    have HXX := Lib.hid hx
    obtain ⟨⟨xn, xw, xi⟩, xA, xc⟩ := x
    simp only [Px.v] at HPT f6 HM
    clear hhome hx
    go_wp2_with (at_builtin; refine wpList_append_ints rfl (.const (.slice none 0 0)) (.tmp 18) rfl _ [] rfl IRow.nil _ xi rfl HPT.out (by have := HM.out; simp; omega) ?_)
    intro r w2 hr2 ho2 hg2
    obtain ⟨A2, c2, hrv, _, _⟩ := IRow.slice hr2.out
    have HR : Hid (IRow w2 r xi) := hr2.out
    have HNL : Hid (NewL w.heap.size r) := by
      show NewL _ _
      intro y hy
      rcases hg2.out y hy with h1 | h1
      · simp [ownL, Value.ownBlock] at h1
      · omega
    have HO2 : Hid (Only [] w w2) := ho2.out
    clear hr2 ho2 hg2
    subst hrv
    go_wp2
    go_ret
    exact ⟨_, rfl, by rw [← HXX.out]; exact HR.out, HNL.out, HO2.out⟩
  · have HE : Hid (doneR k0 s = []) := by show _ = _; unfold doneR; rw [if_neg h2]
    rw [HE.out]
    rw [spotI_no h2] at hhome
    clear h hl h2
    go_enter Try.func24, Try.ntmps24
    go_wp2_with fail
    refine hhome.mono ?_
    rintro e w1 ⟨rfl, rfl⟩
    clear hhome
    go_wp2
    go_ret
    exact ⟨_, rfl, IRow.nil, NewL.none_ _, Only.refl _ _⟩
set_option maxHeartbeats 1600000 in
theorem rWant_any (k0 : Int) : Calls Try.prog 20 #[.pointer (some ⟨g, 0, none⟩), .int .i64 k0] w fun e w' => e = .returned (.tuple #[wV (wantW k0 s), .bool (wantO k0 s)]) ∧ Only [] w w' := by
  have HH := Lib.hid h
  have HL := Lib.hid hl
  obtain ⟨W1, hW1⟩ : ∃ W1, W1 = w.alloc (.cells #[.string ⟨#[]⟩, .string ⟨#[]⟩, .bool false, .string ⟨#[]⟩, .string ⟨#[]⟩] 31) := ⟨_, rfl⟩
  obtain ⟨B, hB⟩ : ∃ B, B = w.heap.size := ⟨_, rfl⟩
  have HO1 : Hid (Only [] w W1) := by show Only _ _ _; rw [hW1]; exact (Only.refl _ _).alloc _
  have HX1 : Hid (WtAt W1 B 0 zW) := by show WtAt _ _ _ _; rw [hW1, hB]; exact WtAt.new _ zW _
  have HZ1 : Hid (∀ j, W1.frozen? ⟨B, j, none⟩ = false) := by show ∀ j, _; intro j; rw [hW1, hB]; simp
  have HB := Lib.hid hB
  have hhome := rat_any g v l s W1 (h.old HO1.out) hl k0
  have hgl : g < w.heap.size := h.lt
  have hgl1 : g < W1.heap.size := Nat.lt_of_lt_of_le hgl HO1.out.size
  by_cases h2 : spotK k0 s < s.l.length
  · have hkl : s.l.findIdx (numB k0) < l.length := by rw [map_len hl]; exact h2
    have HE : Hid (wantW k0 s = (nthP s.l (s.l.findIdx (numB k0))).w ∧ wantO k0 s = true) := by show _ ∧ _; unfold wantW wantO; rw [if_pos h2]; exact ⟨rfl, decide_eq_true h2⟩
    rw [HE.out.1, HE.out.2]
    rw [spotI_yes h2] at hhome
    obtain ⟨k, hk⟩ : ∃ k, k = s.l.findIdx (numB k0) := ⟨_, rfl⟩
    rw [← hk] at hhome hkl ⊢
    obtain ⟨gv, cap, hv, hgs, hlc, hcm⟩ := h.row.some_ (by omega)
    have hX : (nthX l k).p = nthP s.l k := nthX_p hl
    obtain ⟨n, hn⟩ : ∃ n, n = l.length := ⟨_, rfl⟩
    rw [← hn] at hv hkl hlc
    subst hv
    unfold maxLen at hcm
    have HN := Lib.hid hn
    rw [← hX]
    obtain ⟨x, hx⟩ : ∃ x, x = nthX l k := ⟨_, rfl⟩
    rw [← hx]
    have HX := Lib.hid hx
    clear h hl h2 hk hX hn HE hx
    go_enter Try.func20, Try.ntmps20
    go_wp2_with fail
    rw [← hW1]
    try rw [← hB]
    clear hW1 hB
    refine hhome.mono ?_
    rintro e w1 ⟨rfl, hww⟩
    subst hww
    have hh1 := HH.out.old HO1.out
    have hc1 := hh1.c1
    have hgl2 := hh1.lt
    obtain ⟨f0, f1, f2, f3, f4, f5, f6⟩ := hh1.row.el HN.out (k := k) (by rw [← HN.out]; exact hkl)
    obtain ⟨b0, b1, b2, b3, b4⟩ := HX1.out
    have hBL := HX1.out.lt
    have z0 := HZ1.out 0
    have z1 := HZ1.out 1
    have z2 := HZ1.out 2
    have z3 := HZ1.out 3
    have z4 := HZ1.out 4
    rw [← HX.out] at f0 f1 f2 f3 f4 f5 f6
    clear HX
    obtain ⟨⟨xn, xw, xi⟩, xA, xc⟩ := x
    simp only at f1 f2 f3 f4 f5
    clear hhome hh1
    go_wp2
    refine bodyPost_ret (by rw [results_cell_tmp rfl]; go_simp; rfl) rfl ?_
    exact ⟨rfl, HO1.out.five (by rw [HB.out]; exact Nat.le_refl _) _ _ _ _ _⟩
  · have HE : Hid (wantW k0 s = zW ∧ wantO k0 s = false) := by show _ ∧ _; unfold wantW wantO; rw [if_neg h2]; exact ⟨rfl, decide_eq_false h2⟩
    rw [HE.out.1, HE.out.2]
    rw [spotI_no h2] at hhome
    clear h hl h2
    go_enter Try.func20, Try.ntmps20
    go_wp2_with fail
    rw [← hW1]
    try rw [← hB]
    clear hW1 hB
    refine hhome.mono ?_
    rintro e w1 ⟨rfl, hww⟩
    subst hww
    obtain ⟨b0, b1, b2, b3, b4⟩ := HX1.out
    have hBL := HX1.out.lt
    have z0 := HZ1.out 0
    have z1 := HZ1.out 1
    have z2 := HZ1.out 2
    have z3 := HZ1.out 3
    have z4 := HZ1.out 4
    clear hhome
    go_wp2
    refine bodyPost_ret (by rw [results_cell_tmp rfl]; go_simp; rfl) rfl ?_
    exact ⟨rfl, HO1.out.five (by rw [HB.out]; exact Nat.le_refl _) _ _ _ _ _⟩
set_option maxRecDepth 20000 in
set_option maxHeartbeats 4000000 in
theorem rout_any (k : Nat) (hk : k < s.l.length) (hn64 : s.l.length ≤ 100) : Calls Try.prog 36 #[.pointer (some ⟨g, 0, none⟩), .int .i64 (k : Int)] w fun e w' => e = .returned (.tuple #[]) ∧ ShStep eR 0 w w' g (foot g v l) (outK k s) ∧ Only [g] w w' := by
  have hkl0 : k < l.length := by rw [map_len hl]; exact hk
  have HLEN : Hid (l.length ≤ 100) := by show _ ≤ _; rw [map_len hl]; exact hn64
  obtain ⟨gv, cap, hv, hgs, hlc, hcm⟩ := h.row.some_ (by omega)
  obtain ⟨n, hn⟩ : ∃ n, n = l.length := ⟨_, rfl⟩
  rw [← hn] at hv hkl0 hlc
  subst hv
  unfold maxLen at hcm
  have HH := Lib.hid h
  have HL := Lib.hid hl
  have HN := Lib.hid hn
  obtain ⟨W0, hW0⟩ : ∃ W0, W0 = w.drew := ⟨_, rfl⟩
  have HO0 : Hid (Only [] w W0) := by show Only _ _ _; rw [hW0]; exact (Only.refl _ _).drew
  have HQ0 := Lib.hid (HH.out.old HO0.out)
  obtain ⟨A2, hA, HPD⟩ : ∃ A2 : Addr, (if cap = k + 1 then (some (⟨gv, 0, none⟩ : Addr)) else some ⟨gv, (k + 1) * 7, none⟩) = some A2 ∧ Hid (∀ W', PRow eR W' (.slice (some ⟨gv, 0, none⟩) n cap) l → PartAt pE W' (.slice (some A2) (n - (k + 1)) (cap - (k + 1))) (l.drop (k + 1))) := by
    have hkk : k + 1 ≤ l.length := by omega
    subst hn
    by_cases hc : cap = k + 1
    · exact ⟨⟨gv, 0, none⟩, by rw [if_pos hc], fun W' hW' => ERow.partDrop hW' hkk (by rw [if_pos hc])⟩
    · exact ⟨⟨gv, (k + 1) * 7, none⟩, by rw [if_neg hc], fun W' hW' => ERow.partDrop hW' hkk (by rw [if_neg hc]; rfl)⟩
  have HPTK : Hid (PartAt pE W0 (.slice (some ⟨gv, 0, none⟩) k cap) (l.take k)) := by
    have h1 := HQ0.out.row
    show PartAt _ _ _ _
    subst hn
    exact ERow.partTake h1 (by omega)
  have hic : k ≤ cap := by omega
  have hkl : k ≤ n := by omega
  have hkl1 : k + 1 ≤ n := by omega
  have hjc : k + 1 ≤ cap := by omega
  have hgl0 := HQ0.out.lt
  have hk0 := HQ0.out.c1
  clear h hl hk hn64 hn
  go_enter Try.func36, Try.ntmps36
  go_wp2_with fail
  refine mix_start (fun _ => True) (by kernel_rfl) ?_
  rw [← hW0]
  clear hW0
  have hne : Nonempty (Held (fun _ => True)) := ⟨⟨W0, trivial⟩⟩
  refine mix_seg [0, 1, 2, 3, 5, 8, 9, 10, 12, 13] (by kernel_rfl) trivial ?_
  simp only [segOf, pickOps, pickOp]
  repeat (go_big_quiet_step (fail))
  refine wpQuiet_nil ?_
  refine mix_several [4, 11] (by kernel_rfl) ?_
  intro i1 hi1
  simp only [List.mem_cons, List.not_mem_nil, or_false] at hi1
  rcases hi1 with rfl | rfl
  · simp only [segOf, pickOps, pickOp]
    go_wp2_with fail
    refine MixPost.normal trivial ?_
    refine mix_seg [6] (by kernel_rfl) trivial ?_
    simp only [segOf, pickOps, pickOp]
    repeat (go_big_quiet_step (fail))
    refine wpQuiet_nil ?_
    refine mix_several [7, 11] (by kernel_rfl) ?_
    intro i1 hi1
    simp only [List.mem_cons, List.not_mem_nil, or_false] at hi1
    rcases hi1 with rfl | rfl
    · simp only [segOf, pickOps, pickOp]
      refine wpList_append_pres rfl (.const (.slice none 0 0)) (.tmp 10) 48 76 rfl Try.underlying48 infoR (.slice none 0 0) [] rfl PRow.nil _ (l.take k) rfl HPTK.out (by have := HLEN.out; simp; omega) ?_
      intro v1 w1 hr1 ho1 hg1
      have HR1 : Hid (PRow eR w1 v1 (l.take k)) := hr1.out
      have HO1 : Hid (Only [] W0 w1) := ho1.out.mono (by intro z hz; simp [ownL, Value.ownBlock] at hz)
      have HN1 : Hid (NewL w.heap.size v1) := by show NewL _ _; intro z hz; have := HO0.out.size; rcases hg1.out z hz with h3 | h3; simp [ownL, Value.ownBlock] at h3; omega
      have HQ1 := Lib.hid (HQ0.out.old HO1.out)
      clear hr1 ho1 hg1
      go_wp2_with fail
      refine MixPost.normal trivial ?_
      have hk1 := HQ1.out.c1
      clear hk0
      refine mix_run 11 (by kernel_rfl) ?_
      simp only [segOf, pickOps, pickOp]
      go_wp2_with fail
      refine MixPost.normal trivial ?_
      clear hk1
      refine mix_seg [14] (by kernel_rfl) trivial ?_
      simp only [segOf, pickOps, pickOp]
      repeat (go_big_quiet_step (fail))
      refine wpQuiet_nil ?_
      refine mix_run 15 (by kernel_rfl) ?_
      simp only [segOf, pickOps, pickOp]
      refine wpList_append_pres rfl (.tmp 11) (.tmp 18) 48 76 rfl Try.underlying48 infoR v1 (l.take k) rfl HR1.out (.slice (some A2) (n - (k + 1)) (cap - (k + 1))) (l.drop (k + 1)) (by simp [Act.eval]) (HPD.out w1 HQ1.out.row) (by have := HLEN.out; rw [List.length_take, List.length_drop]; omega) ?_
      intro v2 w2 hr2 ho2 hg2
      have HR2 : Hid (PRow eR w2 v2 (l.eraseIdx k)) := by show PRow _ _ _ _; rw [List.eraseIdx_eq_take_drop_succ]; exact hr2.out
      have HO2 : Hid (Only [] w w2) := (HO0.out.trans HO1.out).next ho2.out (fun z hz => .inr (HN1.out z hz))
      have HN2 : Hid (NewL w.heap.size v2) := by show NewL _ _; intro z hz; have := HO0.out.size; have := HO1.out.size; rcases hg2.out z hz with h3 | h3; exact HN1.out z h3; omega
      have HH2 := Lib.hid (HH.out.old HO2.out)
      clear hr2 ho2 hg2
      obtain ⟨Av, capv, ev, _⟩ := HR2.out.slice
      obtain ⟨nv, hnv⟩ : ∃ nv, nv = (l.eraseIdx k).length := ⟨_, rfl⟩
      rw [← hnv] at ev
      clear hnv
      subst ev
      obtain ⟨W3, hW3⟩ : ∃ W3, W3 = w2.setCell ⟨g, 1, none⟩ (.slice Av nv capv) := ⟨_, rfl⟩
      have HO3 : Hid (Only [g] w W3) := by show Only _ _ _; rw [hW3]; exact (HO2.out.mono (by simp)).setCell (p := ⟨g, 1, none⟩) (by simp) _
      have HG3 : Hid (Grow w.heap.size (.slice (some ⟨gv, 0, none⟩) n cap) (.slice Av nv capv)) := fun x hx => .inr (HN2.out x hx)
      have HQ3 : Hid (ShAt eR 0 W3 g (.slice Av nv capv) s.last (l.eraseIdx k)) := by
        show ShAt _ _ _ _ _ _ _
        rw [hW3]
        exact HH.out.erase k (HO2.out.mono (by simp)) HR2.out HG3.out
      have hk2 := HH2.out.c1
      have hk3 := HH2.out.z1
      have hk4 := HH2.out.lt
      go_wp2_with fail
      refine MixPost.normal trivial ?_
      refine mix_seg [16, 17] (by kernel_rfl) trivial ?_
      simp only [segOf, pickOps, pickOp]
      repeat (go_big_quiet_step (rfl))
      refine wpQuiet_nil ?_
      refine mix_run 18 (by kernel_rfl) ?_
      simp only [segOf, pickOps, pickOp]
      go_wp2_with fail
      rw [← hW3]
      clear hW3 hk2 hk3
      refine MixPost.normal trivial ?_
      refine mix_done (by kernel_rfl) ?_
      go_wp2
      go_end0
      refine ⟨rfl, ⟨_, _, HQ3.out, map_erase HL.out k, HO3.out.mono (fun y hy => mem_foot.2 (.inl (by simpa using hy))), fun y hy => ?_⟩, HO3.out⟩
      rcases mem_foot.1 hy with h1 | h1 | h1
      · exact .inl (mem_foot.2 (.inl h1))
      · exact .inr (HN2.out y h1)
      · exact .inl (mem_foot.2 (.inr (.inr ((feet_erase l k).mem h1))))
    · simp only [segOf, pickOps, pickOp]
      go_wp2_with fail
      refine MixPost.normal trivial ?_
      clear hk0
      refine mix_seg [14] (by kernel_rfl) trivial ?_
      simp only [segOf, pickOps, pickOp]
      repeat (go_big_quiet_step (fail))
      refine wpQuiet_nil ?_
      refine mix_run 7 (by kernel_rfl) ?_
      simp only [segOf, pickOps, pickOp]
      refine wpList_append_pres rfl (.const (.slice none 0 0)) (.tmp 10) 48 76 rfl Try.underlying48 infoR (.slice none 0 0) [] rfl PRow.nil _ (l.take k) rfl HPTK.out (by have := HLEN.out; simp; omega) ?_
      intro v1 w1 hr1 ho1 hg1
      have HR1 : Hid (PRow eR w1 v1 (l.take k)) := hr1.out
      have HO1 : Hid (Only [] W0 w1) := ho1.out.mono (by intro z hz; simp [ownL, Value.ownBlock] at hz)
      have HN1 : Hid (NewL w.heap.size v1) := by show NewL _ _; intro z hz; have := HO0.out.size; rcases hg1.out z hz with h3 | h3; simp [ownL, Value.ownBlock] at h3; omega
      have HQ1 := Lib.hid (HQ0.out.old HO1.out)
      clear hr1 ho1 hg1
      go_wp2_with fail
      refine MixPost.normal trivial ?_
      refine mix_run 15 (by kernel_rfl) ?_
      simp only [segOf, pickOps, pickOp]
      refine wpList_append_pres rfl (.tmp 11) (.tmp 18) 48 76 rfl Try.underlying48 infoR v1 (l.take k) rfl HR1.out (.slice (some A2) (n - (k + 1)) (cap - (k + 1))) (l.drop (k + 1)) (by simp [Act.eval]) (HPD.out w1 HQ1.out.row) (by have := HLEN.out; rw [List.length_take, List.length_drop]; omega) ?_
      intro v2 w2 hr2 ho2 hg2
      have HR2 : Hid (PRow eR w2 v2 (l.eraseIdx k)) := by show PRow _ _ _ _; rw [List.eraseIdx_eq_take_drop_succ]; exact hr2.out
      have HO2 : Hid (Only [] w w2) := (HO0.out.trans HO1.out).next ho2.out (fun z hz => .inr (HN1.out z hz))
      have HN2 : Hid (NewL w.heap.size v2) := by show NewL _ _; intro z hz; have := HO0.out.size; have := HO1.out.size; rcases hg2.out z hz with h3 | h3; exact HN1.out z h3; omega
      have HH2 := Lib.hid (HH.out.old HO2.out)
      clear hr2 ho2 hg2
      obtain ⟨Av, capv, ev, _⟩ := HR2.out.slice
      obtain ⟨nv, hnv⟩ : ∃ nv, nv = (l.eraseIdx k).length := ⟨_, rfl⟩
      rw [← hnv] at ev
      clear hnv
      subst ev
      obtain ⟨W3, hW3⟩ : ∃ W3, W3 = w2.setCell ⟨g, 1, none⟩ (.slice Av nv capv) := ⟨_, rfl⟩
      have HO3 : Hid (Only [g] w W3) := by show Only _ _ _; rw [hW3]; exact (HO2.out.mono (by simp)).setCell (p := ⟨g, 1, none⟩) (by simp) _
      have HG3 : Hid (Grow w.heap.size (.slice (some ⟨gv, 0, none⟩) n cap) (.slice Av nv capv)) := fun x hx => .inr (HN2.out x hx)
      have HQ3 : Hid (ShAt eR 0 W3 g (.slice Av nv capv) s.last (l.eraseIdx k)) := by
        show ShAt _ _ _ _ _ _ _
        rw [hW3]
        exact HH.out.erase k (HO2.out.mono (by simp)) HR2.out HG3.out
      have hk2 := HH2.out.c1
      have hk3 := HH2.out.z1
      have hk4 := HH2.out.lt
      go_wp2_with fail
      refine MixPost.normal trivial ?_
      refine mix_seg [16, 17] (by kernel_rfl) trivial ?_
      simp only [segOf, pickOps, pickOp]
      repeat (go_big_quiet_step (rfl))
      refine wpQuiet_nil ?_
      refine mix_run 18 (by kernel_rfl) ?_
      simp only [segOf, pickOps, pickOp]
      go_wp2_with fail
      rw [← hW3]
      clear hW3 hk2 hk3
      refine MixPost.normal trivial ?_
      refine mix_done (by kernel_rfl) ?_
      go_wp2
      go_end0
      refine ⟨rfl, ⟨_, _, HQ3.out, map_erase HL.out k, HO3.out.mono (fun y hy => mem_foot.2 (.inl (by simpa using hy))), fun y hy => ?_⟩, HO3.out⟩
      rcases mem_foot.1 hy with h1 | h1 | h1
      · exact .inl (mem_foot.2 (.inl h1))
      · exact .inr (HN2.out y h1)
      · exact .inl (mem_foot.2 (.inr (.inr ((feet_erase l k).mem h1))))
  · simp only [segOf, pickOps, pickOp]
    go_wp2_with fail
    refine MixPost.normal trivial ?_
    refine mix_seg [14] (by kernel_rfl) trivial ?_
    simp only [segOf, pickOps, pickOp]
    repeat (go_big_quiet_step (fail))
    refine wpQuiet_nil ?_
    refine mix_run 4 (by kernel_rfl) ?_
    simp only [segOf, pickOps, pickOp]
    go_wp2_with fail
    refine MixPost.normal trivial ?_
    clear hk0
    refine mix_seg [6] (by kernel_rfl) trivial ?_
    simp only [segOf, pickOps, pickOp]
    repeat (go_big_quiet_step (fail))
    refine wpQuiet_nil ?_
    refine mix_run 7 (by kernel_rfl) ?_
    simp only [segOf, pickOps, pickOp]
    refine wpList_append_pres rfl (.const (.slice none 0 0)) (.tmp 10) 48 76 rfl Try.underlying48 infoR (.slice none 0 0) [] rfl PRow.nil _ (l.take k) rfl HPTK.out (by have := HLEN.out; simp; omega) ?_
    intro v1 w1 hr1 ho1 hg1
    have HR1 : Hid (PRow eR w1 v1 (l.take k)) := hr1.out
    have HO1 : Hid (Only [] W0 w1) := ho1.out.mono (by intro z hz; simp [ownL, Value.ownBlock] at hz)
    have HN1 : Hid (NewL w.heap.size v1) := by show NewL _ _; intro z hz; have := HO0.out.size; rcases hg1.out z hz with h3 | h3; simp [ownL, Value.ownBlock] at h3; omega
    have HQ1 := Lib.hid (HQ0.out.old HO1.out)
    clear hr1 ho1 hg1
    go_wp2_with fail
    refine MixPost.normal trivial ?_
    refine mix_run 15 (by kernel_rfl) ?_
    simp only [segOf, pickOps, pickOp]
    refine wpList_append_pres rfl (.tmp 11) (.tmp 18) 48 76 rfl Try.underlying48 infoR v1 (l.take k) rfl HR1.out (.slice (some A2) (n - (k + 1)) (cap - (k + 1))) (l.drop (k + 1)) (by simp [Act.eval]) (HPD.out w1 HQ1.out.row) (by have := HLEN.out; rw [List.length_take, List.length_drop]; omega) ?_
    intro v2 w2 hr2 ho2 hg2
    have HR2 : Hid (PRow eR w2 v2 (l.eraseIdx k)) := by show PRow _ _ _ _; rw [List.eraseIdx_eq_take_drop_succ]; exact hr2.out
    have HO2 : Hid (Only [] w w2) := (HO0.out.trans HO1.out).next ho2.out (fun z hz => .inr (HN1.out z hz))
    have HN2 : Hid (NewL w.heap.size v2) := by show NewL _ _; intro z hz; have := HO0.out.size; have := HO1.out.size; rcases hg2.out z hz with h3 | h3; exact HN1.out z h3; omega
    have HH2 := Lib.hid (HH.out.old HO2.out)
    clear hr2 ho2 hg2
    obtain ⟨Av, capv, ev, _⟩ := HR2.out.slice
    obtain ⟨nv, hnv⟩ : ∃ nv, nv = (l.eraseIdx k).length := ⟨_, rfl⟩
    rw [← hnv] at ev
    clear hnv
    subst ev
    obtain ⟨W3, hW3⟩ : ∃ W3, W3 = w2.setCell ⟨g, 1, none⟩ (.slice Av nv capv) := ⟨_, rfl⟩
    have HO3 : Hid (Only [g] w W3) := by show Only _ _ _; rw [hW3]; exact (HO2.out.mono (by simp)).setCell (p := ⟨g, 1, none⟩) (by simp) _
    have HG3 : Hid (Grow w.heap.size (.slice (some ⟨gv, 0, none⟩) n cap) (.slice Av nv capv)) := fun x hx => .inr (HN2.out x hx)
    have HQ3 : Hid (ShAt eR 0 W3 g (.slice Av nv capv) s.last (l.eraseIdx k)) := by
      show ShAt _ _ _ _ _ _ _
      rw [hW3]
      exact HH.out.erase k (HO2.out.mono (by simp)) HR2.out HG3.out
    have hk2 := HH2.out.c1
    have hk3 := HH2.out.z1
    have hk4 := HH2.out.lt
    go_wp2_with fail
    refine MixPost.normal trivial ?_
    refine mix_seg [16, 17] (by kernel_rfl) trivial ?_
    simp only [segOf, pickOps, pickOp]
    repeat (go_big_quiet_step (rfl))
    refine wpQuiet_nil ?_
    refine mix_run 18 (by kernel_rfl) ?_
    simp only [segOf, pickOps, pickOp]
    go_wp2_with fail
    rw [← hW3]
    clear hW3 hk2 hk3
    refine MixPost.normal trivial ?_
    refine mix_done (by kernel_rfl) ?_
    go_wp2
    go_end0
    refine ⟨rfl, ⟨_, _, HQ3.out, map_erase HL.out k, HO3.out.mono (fun y hy => mem_foot.2 (.inl (by simpa using hy))), fun y hy => ?_⟩, HO3.out⟩
    rcases mem_foot.1 hy with h1 | h1 | h1
    · exact .inl (mem_foot.2 (.inl h1))
    · exact .inr (HN2.out y h1)
    · exact .inl (mem_foot.2 (.inr (.inr ((feet_erase l k).mem h1))))
set_option maxHeartbeats 2000000 in
theorem rDone_any (k : Int) (ok : Ok s) :
    Calls Try.prog 18 #[.pointer (some ⟨g, 0, none⟩), .int .i64 k] w fun e w' => ∃ r, e = .returned r ∧ IRow w' r (doneR k s) ∧ (∀ y ∈ ownL r, y ∈ foot g v l) ∧ ShStep eR 0 w w' g (foot g v l) (doneS k s) := by
  have HH := Lib.hid h
  have HL := Lib.hid hl
  have HLEN : Hid (s.l.length ≤ 100) := by show _ ≤ _; have := ok.len; omega
  have hhome := rat_any g v l s w h hl k
  have hgl : g < w.heap.size := h.lt
  by_cases h2 : spotK k s < s.l.length
  · have hkl : s.l.findIdx (numB k) < l.length := by rw [map_len hl]; exact h2
    have HE : Hid (doneR k s = (nthP s.l (s.l.findIdx (numB k))).i ∧ doneS k s = outK (s.l.findIdx (numB k)) s) := by show _ ∧ _; unfold doneR doneS; rw [if_pos h2, if_pos h2]; exact ⟨rfl, rfl⟩
    rw [HE.out.1, HE.out.2]
    have h2' : s.l.findIdx (numB k) < s.l.length := h2
    rw [spotI_yes h2] at hhome
    obtain ⟨q, hk⟩ : ∃ q, q = s.l.findIdx (numB k) := ⟨_, rfl⟩
    rw [← hk] at hhome hkl h2' ⊢
    have HQL := Lib.hid h2'
    obtain ⟨gv, cap, hv, hgs, hlc, hcm⟩ := h.row.some_ (by omega)
    have hX : (nthX l q).p = nthP s.l q := nthX_p hl
    have HMEM : Hid (nthX l q ∈ l) := nthX_mem hkl
    have HFT : Hid (∀ y ∈ ownL (nthX l q).v, y ∈ foot g v l ∧ y ∉ [g]) := by
      show ∀ y ∈ _, _
      obtain ⟨d1, d2, d3, d4⟩ := foot_nodup.1 h.nd
      intro y hy
      have hy2 := feet_nth hkl hy
      refine ⟨mem_foot.2 (.inr (.inr hy2)), ?_⟩
      intro hm
      simp at hm
      subst hm
      exact d2 hy2
    obtain ⟨n, hn⟩ : ∃ n, n = l.length := ⟨_, rfl⟩
    rw [← hn] at hv hkl hlc
    subst hv
    unfold maxLen at hcm
    have HN := Lib.hid hn
    rw [← hX]
    clear h hl h2 h2' hk hX hn HE ok
    go_enter Try.func18, Try.ntmps18
    go_wp2_with fail
    refine hhome.mono ?_
    rintro e w1 ⟨rfl, hww⟩
    subst hww
    have hc1 := HH.out.c1
    obtain ⟨f0, f1, f2, f3, f4, f5, f6⟩ := HH.out.row.el HN.out (k := q) (by rw [← HN.out]; exact hkl)
    have hrem := rout_any g _ l s w HH.out HL.out q HQL.out HLEN.out
    have HIR := Lib.hid (HH.out.ids _ HMEM.out)
    simp only [Px.v] at HIR HFT
    clear hhome f0 f1 f2 f3 f4 f5
    go_wp2_with fail
    refine hrem.mono ?_
    rintro e w2 ⟨rfl, hst, ho2⟩
    have HST := Lib.hid hst
    have HIR2 := Lib.hid (HIR.out.only ho2 (fun y hy => (HFT.out y hy).2))
    clear hrem hst ho2 hc1 f6
    go_wp2
    go_ret
    exact ⟨_, rfl, HIR2.out, fun y hy => (HFT.out y hy).1, HST.out⟩
  · have HE : Hid (doneR k s = [] ∧ doneS k s = s) := by show _ ∧ _; unfold doneR doneS; rw [if_neg h2, if_neg h2]; exact ⟨rfl, rfl⟩
    rw [HE.out.1, HE.out.2]
    rw [spotI_no h2] at hhome
    clear h2
    go_enter Try.func18, Try.ntmps18
    go_wp2_with fail
    refine hhome.mono ?_
    rintro e w1 ⟨rfl, rfl⟩
    clear hhome
    go_wp2
    go_ret
    exact ⟨_, rfl, IRow.nil, by intro y hy; simp [ownL, Value.ownBlock] at hy, ShStep.same h (Only.refl _ _) rfl hl⟩
end
end Go.Proofs.Ytcljmdpnbfefbaa
