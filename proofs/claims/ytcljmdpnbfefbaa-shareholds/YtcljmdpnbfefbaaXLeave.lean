/-
  The contracts of Join, Leave and Done over this seat's program. Conditions: those of each statement.
-/
import Derived.Test.YtcljmdpnbfefbaaXJoin
namespace Go.Proofs.Ytcljmdpnbfefbaa
open Go.RowKit

/-- a step behind another -/
theorem ShStep.next {e : TypeId} {d g : Nat} {w w1 w2 : World} {f : List Nat} {s : Sv} {v : Value} {l : List Px} (o : Only f w w1) (hf : ∀ y ∈ foot g v l, y ∈ f ∨ w.heap.size ≤ y) (k : ShStep e d w1 w2 g (foot g v l) s) : ShStep e d w w2 g f s := by
  obtain ⟨v', l', h1, h2, h3, h4⟩ := k
  refine ⟨v', l', h1, h2, o.next h3 hf, fun y hy => ?_⟩
  rcases h4 y hy with h5 | h5
  · exact hf y h5
  · exact .inr (Nat.le_trans o.size h5)
section
variable (g : Nat) (v : Value) (l : List Px) (s : Sv) (w : World) (h : ShAt eP 1 w g v s.last l) (hl : l.map Px.p = s.l)
include h hl
set_option maxRecDepth 20000 in
set_option maxHeartbeats 4000000 in
theorem sJoin_any (k : Wt) (i : Int) (ok : Ok s) (hla : s.last ≤ 1000000000) :
    Calls Try.prog 12 #[.pointer (some ⟨g, 0, none⟩), wV k, .int .i64 i] w fun e w' =>
      e = .returned (.tuple #[.int .i64 (joinN k i s : Int), .bool (joinF k i s), .int .i64 (joinC i s : Int)]) ∧ ShStep eP 1 w w' g (foot g v l) (joinS k i s) := by
  have eg : ∀ args w, (callFunc 30 args).run Try.prog w = .ok (.enter 30 args) w := enters_of Try.func30 (by kernel_rfl) rfl
  obtain ⟨w1, hw1⟩ : ∃ w1, w1 = w.alloc (.cells #[.string k.o, .string k.u, .bool k.c, .string k.m, .string k.s] 31) := ⟨_, rfl⟩
  obtain ⟨B1, hB1⟩ : ∃ B1, B1 = w.heap.size := ⟨_, rfl⟩
  have HO1 : Hid (Only [] w w1) := by show Only _ _ _; rw [hw1]; exact (Only.refl _ _).alloc _
  have HX1 : Hid (WtAt w1 B1 0 k) := by show WtAt _ _ _ _; rw [hw1, hB1]; exact WtAt.new _ _ _
  have HH1 := Lib.hid (h.old HO1.out)
  have HL := Lib.hid hl
  have HLA := Lib.hid hla
  have HK := Lib.hid ok
  have href := srefusal_any g v l s w1 HH1.out hl i ok
  have HBF : Hid (B1 ∉ foot g v l) := by show _ ∉ _; intro hm; have := h.own hm; omega
  by_cases hc : joinC i s = 0
  case neg =>
    have HE : Hid (joinN k i s = 0 ∧ joinF k i s = false ∧ joinS k i s = s) := by
      show _ ∧ _ ∧ _
      unfold joinN joinF joinS
      rw [if_neg hc, if_neg hc]
      exact ⟨rfl, decide_eq_false (fun h => hc h.1), rfl⟩
    rw [HE.out.1, HE.out.2.1, HE.out.2.2]
    obtain ⟨c, hcc⟩ : ∃ c, c = joinC i s := ⟨_, rfl⟩
    rw [← hcc] at hc href ⊢
    have hne : ((c : Int) == 0) = false := by simpa using hc
    have hne2 : ¬ (c : Int) = 0 := by omega
    simp only [wV]
    clear hcc eg hc
    go_enter Try.func12, Try.ntmps12
    go_wp2_with fail
    rw [← hw1]
    clear hw1 hB1
    refine href.mono ?_
    rintro e w2 ⟨rfl, ho⟩
    have HO2 := Lib.hid (HO1.out.trans ho)
    clear href ho
    go_wp2
    go_ret3
    exact ⟨rfl, ShStep.same h HO2.out rfl HL.out⟩
  rw [hc] at href
  rw [hc]
  have HIX : Hid (∀ W, Only [] w1 W → Calls Try.prog 29 #[v, .func (.func 30) #[] #[.pointer (some ⟨B1, 0, none⟩)]] W fun e w' => e = .returned (.int .i64 (spotI (ofB k) s.l)) ∧ Only [] W w') := by
    show ∀ W, _
    intro W ho
    have hcon := idxP_any 30 #[.pointer (some ⟨B1, 0, none⟩)] (ofB k) v l W eg (HH1.out.row.old ho) (fun W' x _ ho' => sjoin1_any k x B1 W' ((HX1.out.old ho).old ho'))
    rw [hl] at hcon
    exact hcon
  by_cases hk : wantK k s < s.l.length
  case neg =>
    have HE : Hid (joinN k i s = s.last + 1 ∧ joinF k i s = true ∧ joinS k i s = openS k i s) := by
      show _ ∧ _ ∧ _
      unfold joinN joinF joinS
      rw [if_pos hc, if_pos hc, if_neg hk, if_neg hk]
      exact ⟨rfl, decide_eq_true ⟨hc, hk⟩, rfl⟩
    rw [HE.out.1, HE.out.2.1, HE.out.2.2]
    rw [spotI_no hk] at HIX
    obtain ⟨A, cap, hv, _, _⟩ := h.row.slice
    obtain ⟨N, hN⟩ : ∃ N, N = l.length := ⟨_, rfl⟩
    rw [← hN] at hv
    subst hv
    obtain ⟨nn, hnn⟩ : ∃ nn : Int, nn = ((s.last + 1 : Nat) : Int) := ⟨_, rfl⟩
    have HLN : Hid (s.l.length ≤ 100) := by show _ ≤ _; have := ok.len; omega
    rw [← hnn]
    have HNN := Lib.hid hnn
    simp only [wV]
    clear eg hc hk h hl hN hnn hla ok
    go_enter Try.func12, Try.ntmps12
    go_wp2_with fail
    rw [← hw1]
    try rw [← hB1]
    clear hw1 hB1
    refine href.mono ?_
    rintro e w2 ⟨rfl, ho⟩
    have HO2 := Lib.hid ho
    clear href ho
    have HH2 := Lib.hid (HH1.out.old HO2.out)
    have hc1 := HH2.out.c1
    have hgl := HH2.out.lt
    go_wp2_with fail
    refine (HIX.out w2 HO2.out).mono ?_
    rintro e w3 ⟨rfl, ho⟩
    have HO3 := Lib.hid (HO2.out.trans ho)
    clear hc1 hgl ho
    have HH3 := Lib.hid (HH1.out.old HO3.out)
    obtain ⟨b0, b1, b2, b3, b4⟩ := HX1.out.old HO3.out
    have hopen := sopen_any g _ l s w3 HH3.out HL.out k i HLN.out HLA.out
    rw [← HNN.out] at hopen
    simp only [wV] at hopen
    go_wp2_with fail
    refine hopen.mono ?_
    rintro e w4 ⟨rfl, hst⟩
    have HST := Lib.hid (hst.past (HO1.out.trans HO3.out))
    clear hopen hst
    go_wp2
    go_ret3
    exact ⟨rfl, HST.out⟩
  case pos =>
    have HE : Hid (joinN k i s = (nthP s.l (wantK k s)).n ∧ joinF k i s = false ∧ joinS k i s = addK (wantK k s) i s) := by
      show _ ∧ _ ∧ _
      unfold joinN joinF joinS
      rw [if_pos hc, if_pos hc, if_pos hk, if_pos hk]
      exact ⟨rfl, decide_eq_false (fun h => h.2 hk), rfl⟩
    rw [HE.out.1, HE.out.2.1, HE.out.2.2]
    have hwk : wantK k s = s.l.findIdx (ofB k) := rfl
    rw [spotI_yes hk, ← hwk] at HIX
    have hkl : wantK k s < l.length := by rw [map_len hl]; exact hk
    obtain ⟨q, hq⟩ : ∃ q, q = wantK k s := ⟨_, rfl⟩
    rw [← hq] at HIX hkl hk ⊢
    obtain ⟨gv, cap, hv, hgs, hlc, hcm⟩ := h.row.some_ (by omega)
    have hX : (nthX l q).p = nthP s.l q := nthX_p hl
    have HMEM : Hid (nthX l q ∈ l) := nthX_mem hkl
    have HML : Hid ((nthX l q).p.i.length ≤ 64) := by show _ ≤ _; rw [hX]; exact ok.mem (nthP_mem hk)
    have HX := Lib.hid hX
    have HAD : Hid (addK q i s = ⟨s.last, s.l.set q (plus (nthX l q).p i)⟩) := by show _ = _; unfold addK; rw [← hX]
    rw [← hX, HAD.out]
    obtain ⟨x, hx⟩ : ∃ x, x = nthX l q := ⟨_, rfl⟩
    rw [← hx] at HMEM HML ⊢
    have HXX := Lib.hid hx
    obtain ⟨N, hN⟩ : ∃ N, N = l.length := ⟨_, rfl⟩
    have HN := Lib.hid hN
    rw [← hN] at hv hkl hlc
    subst hv
    unfold maxLen at hcm
    simp only [wV]
    have HHW := Lib.hid h
    clear eg hc hk h hl hN hla ok hwk hq hX hx HE HAD
    go_enter Try.func12, Try.ntmps12
    go_wp2_with fail
    rw [← hw1]
    try rw [← hB1]
    clear hw1 hB1
    refine href.mono ?_
    rintro e w2 ⟨rfl, ho⟩
    have HO2 := Lib.hid ho
    clear href ho
    have HH2 := Lib.hid (HH1.out.old HO2.out)
    have hc1 := HH2.out.c1
    have hgl := HH2.out.lt
    go_wp2_with fail
    refine (HIX.out w2 HO2.out).mono ?_
    rintro e w3 ⟨rfl, ho⟩
    have HO3 := Lib.hid (HO2.out.trans ho)
    clear hc1 hgl ho
    have HH3 := Lib.hid (HH1.out.old HO3.out)
    have hc1 := HH3.out.c1
    have hgl := HH3.out.lt
    obtain ⟨f0, f1, f2, f3, f4, f5, f6⟩ := HH3.out.row.el HN.out (k := q) (by rw [← HN.out]; exact hkl)
    rw [← HXX.out] at f0 f6
    have HIR := Lib.hid (HH3.out.ids _ HMEM.out)
    have hz6 := HH3.out.row.thaw HN.out (q * 7 + 6)
    obtain ⟨W4, hW4⟩ : ∃ W4, W4 = w3.alloc (.cells #[.int .i64 i] 3) := ⟨_, rfl⟩
    obtain ⟨C4, hC4⟩ : ∃ C4, C4 = w3.heap.size := ⟨_, rfl⟩
    have HO4 : Hid (Only [] w3 W4) := by show Only _ _ _; rw [hW4]; exact (Only.refl _ _).alloc _
    have HC4 : Hid (W4.cell? ⟨C4, 0, none⟩ = some (.int .i64 i)) := by show _ = _; rw [hW4, hC4]; simp
    have HIR4 := Lib.hid (HIR.out.old HO4.out)
    obtain ⟨⟨xn, xw, xi⟩, xA, xc⟩ := x
    simp only [Px.v] at f0 f6 HIR4 HML
    go_wp2_with (at_builtin; rw [← hW4, ← hC4]; refine wpList_append_int rfl (.tmp 40) (.tmp 42) rfl _ xi rfl HIR4.out C4 i rfl HC4.out (by have := HML.out; omega) ?_)
    intro g2 cap2 w5 hr5 ho5 hg5
    try rw [← hW4] at ho5
    have HS4 : Hid (w3.heap.size ≤ W4.heap.size) := HO4.out.size
    clear hW4 hC4
    obtain ⟨y, hy⟩ : ∃ y : Px, y = ⟨⟨xn, xw, xi ++ [i]⟩, some ⟨g2, 0, none⟩, cap2⟩ := ⟨_, rfl⟩
    have hyv : y.v = .slice (some ⟨g2, 0, none⟩) (xi.length + 1) cap2 := by rw [hy]; simp [Px.v]
    have HYP : Hid (y.p = ⟨xn, xw, xi ++ [i]⟩) := by show _ = _; rw [hy]
    have hxo : ownL (Value.slice xA xi.length xc) = ownL (nthX l q).v := by rw [← HXX.out]
    have HO5 : Hid (Only (ownL (nthX l q).v) w3 w5) := by show Only _ _ _; rw [← hxo]; exact (HO4.out.mono (by simp)).trans ho5.out
    have HM5 := Lib.hid (HH3.out.members (y := y) HN.out (k := q) (by rw [← HN.out]; exact hkl) HO5.out (by rw [hyv, HYP.out]; exact hr5.out) (by
      intro z hz
      rw [hyv] at hz
      simp [ownL, Value.ownBlock] at hz
      subst hz
      rcases hg5.out with h1 | h1
      · left; rw [← hxo]; exact h1
      · right; omega) (by rw [HYP.out, ← HXX.out]) (by rw [HYP.out, ← HXX.out]))
    have hgv5 : gv ∉ ownL (nthX l q).v := by
      obtain ⟨_, _, d3, _⟩ := foot_nodup.1 HH3.out.nd
      intro hm
      exact d3 gv (by simp [ownL, Value.ownBlock]) (feet_nth (by rw [← HN.out]; exact hkl) hm)
    have hgvl : gv < w3.heap.size := block_of_cell (a := ⟨gv, q * 7, none⟩) f0
    have e6 := (HO5.out.cell (p := ⟨gv, q * 7 + 6, none⟩) hgvl hgv5).trans f6
    have ez := (HO5.out.frozen (p := ⟨gv, q * 7 + 6, none⟩) hgvl hgv5).trans hz6
    have e0 := (HO5.out.cell (p := ⟨gv, q * 7, none⟩) hgvl hgv5).trans f0
    have hgv5l : gv < w5.heap.size := Nat.lt_of_lt_of_le hgvl HO5.out.size
    rw [hyv] at HM5
    obtain ⟨W6, hW6⟩ : ∃ W6, W6 = w5.setCell ⟨gv, q * 7 + 6, none⟩ (.slice (some ⟨g2, 0, none⟩) (xi.length + 1) cap2) := ⟨_, rfl⟩
    rw [← hW6] at HM5
    clear hr5 ho5 hg5 hy hyv hxo hgv5 hc1 hgl f1 f2 f3 f4 f5 f6 f0 hz6
    have e0' : W6.cell? ⟨gv, q * 7, none⟩ = some (.int .i64 (xn : Int)) := by rw [hW6, World.cell?_setCell_other _ _ _ _ (by simp)]; exact e0
    go_wp2_with fail
    rw [← hW6]
    clear hW6 e0 e6 ez
    go_wp2
    go_ret3
    refine ⟨rfl, ShStep.past (HO1.out.trans HO3.out) ⟨_, _, HM5.out.1, ?_, HM5.out.2.1, HM5.out.2.2⟩⟩
    rw [map_set HL.out, HYP.out]
    rfl
set_option maxHeartbeats 2000000 in
theorem sDone_any (k : Int) :
    Calls Try.prog 17 #[.pointer (some ⟨g, 0, none⟩), .int .i64 k] w fun e w' => ∃ r, e = .returned r ∧ IRow w' r (doneR k s) ∧ (∀ y ∈ ownL r, y ∈ foot g v l) ∧ ShStep eP 1 w w' g (foot g v l) (doneS k s) := by
  have HH := Lib.hid h
  have HL := Lib.hid hl
  have hhome := sfind_any g v l s w h hl k
  have hgl : g < w.heap.size := h.lt
  by_cases h2 : spotK k s < s.l.length
  · have hkl : s.l.findIdx (numB k) < l.length := by rw [map_len hl]; exact h2
    have HE : Hid (doneR k s = (nthP s.l (s.l.findIdx (numB k))).i ∧ doneS k s = outK (s.l.findIdx (numB k)) s) := by show _ ∧ _; unfold doneR doneS; rw [if_pos h2, if_pos h2]; exact ⟨rfl, rfl⟩
    rw [HE.out.1, HE.out.2]
    have h2' : s.l.findIdx (numB k) < s.l.length := h2
    rw [spotI_yes h2] at hhome
    obtain ⟨q, hk⟩ : ∃ q, q = s.l.findIdx (numB k) := ⟨_, rfl⟩
    rw [← hk] at hhome hkl h2' ⊢
    have HQL := Lib.hid h2'
    obtain ⟨gv, cap, hv, hgs, hlc, hcm⟩ := h.row.some_ (by omega)
    have hX : (nthX l q).p = nthP s.l q := nthX_p hl
    have HMEM : Hid (nthX l q ∈ l) := nthX_mem hkl
    have HFT : Hid (∀ y ∈ ownL (nthX l q).v, y ∈ foot g v l ∧ y ∉ [g, gv]) := by
      show ∀ y ∈ _, _
      obtain ⟨d1, d2, d3, d4⟩ := foot_nodup.1 h.nd
      intro y hy
      have hy2 := feet_nth hkl hy
      refine ⟨mem_foot.2 (.inr (.inr hy2)), ?_⟩
      intro hm
      simp at hm
      rcases hm with rfl | rfl
      · exact d2 hy2
      · exact d3 y (by rw [hv]; simp [ownL, Value.ownBlock]) hy2
    obtain ⟨n, hn⟩ : ∃ n, n = l.length := ⟨_, rfl⟩
    rw [← hn] at hv hkl hlc
    subst hv
    unfold maxLen at hcm
    have HN := Lib.hid hn
    rw [← hX]
    clear h hl h2 h2' hk hX hn HE
    go_enter Try.func17, Try.ntmps17
    go_wp2_with fail
    refine hhome.mono ?_
    rintro e w1 ⟨rfl, ho⟩
    have HH1 := Lib.hid (HH.out.old ho)
    have HO1 := Lib.hid ho
    have hc1 := HH1.out.c1
    have hgl1 := HH1.out.lt
    obtain ⟨f0, f1, f2, f3, f4, f5, f6⟩ := HH1.out.row.el HN.out (k := q) (by rw [← HN.out]; exact hkl)
    have hrem := sremove_any g _ l s w1 HH1.out HL.out q HQL.out
    have HIR := Lib.hid (HH1.out.ids _ HMEM.out)
    simp only [Px.v] at HIR HFT
    clear hhome f0 f1 f2 f3 f4 f5 ho
    go_wp2_with fail
    refine hrem.mono ?_
    rintro e w2 ⟨rfl, hst, n2, cap2, gv2, hv2, ho2⟩
    injection hv2 with e1 e2 e3
    injection e1 with e1
    injection e1 with e1 _ _
    subst e1
    have HST := Lib.hid (hst.past HO1.out)
    have HIR2 := Lib.hid (HIR.out.only ho2 (fun y hy => (HFT.out y hy).2))
    clear hrem hst ho2 hc1 f6 e2 e3
    go_wp2
    go_ret
    exact ⟨_, rfl, HIR2.out, fun y hy => (HFT.out y hy).1, HST.out⟩
  · have HE : Hid (doneR k s = [] ∧ doneS k s = s) := by show _ ∧ _; unfold doneR doneS; rw [if_neg h2, if_neg h2]; exact ⟨rfl, rfl⟩
    rw [HE.out.1, HE.out.2]
    rw [spotI_no h2] at hhome
    clear h2
    go_enter Try.func17, Try.ntmps17
    go_wp2_with fail
    refine hhome.mono ?_
    rintro e w1 ⟨rfl, ho⟩
    clear hhome
    go_wp2
    go_ret
    exact ⟨_, rfl, IRow.nil, by intro y hy; simp [ownL, Value.ownBlock] at hy, ShStep.same h ho rfl hl⟩
set_option maxRecDepth 20000 in
set_option maxHeartbeats 4000000 in
theorem sLeave_any (i : Int) (ok : Ok s) :
    Calls Try.prog 14 #[.pointer (some ⟨g, 0, none⟩), .int .i64 i] w fun e w' =>
      e = .returned (.tuple #[.int .i64 (leaveN i s : Int), .bool (leaveF i s), .bool (leaveO i s)]) ∧ ShStep eP 1 w w' g (foot g v l) (leaveS i s) := by
  have eg : ∀ args w, (callFunc 35 args).run Try.prog w = .ok (.enter 35 args) w := enters_of Try.func35 (by kernel_rfl) rfl
  obtain ⟨w1, hw1⟩ : ∃ w1, w1 = w.alloc (.cells #[.int .i64 i] 3) := ⟨_, rfl⟩
  obtain ⟨B1, hB1⟩ : ∃ B1, B1 = w.heap.size := ⟨_, rfl⟩
  have HO1 : Hid (Only [] w w1) := by show Only _ _ _; rw [hw1]; exact (Only.refl _ _).alloc _
  have HX1 : Hid (w1.cell? ⟨B1, 0, none⟩ = some (.int .i64 i)) := by show _ = _; rw [hw1, hB1]; simp
  have HBL : Hid (B1 < w1.heap.size) := block_of_cell (a := ⟨B1, 0, none⟩) HX1.out
  have HH1 := Lib.hid (h.old HO1.out)
  have HL := Lib.hid hl
  have HK := Lib.hid ok
  have HBF : Hid (B1 ∉ foot g v l) := by show _ ∉ _; intro hm; have := h.own hm; omega
  have hhome := shome_any g v l s w1 HH1.out hl i
  by_cases hk : homeK i s < s.l.length
  case neg =>
    have HE : Hid (leaveN i s = 0 ∧ leaveF i s = false ∧ leaveO i s = false ∧ leaveS i s = s) := by
      show _ ∧ _ ∧ _ ∧ _
      unfold leaveN leaveF leaveO leaveS
      rw [if_neg hk, if_neg hk]
      exact ⟨rfl, decide_eq_false (fun h => hk h.1), decide_eq_false hk, rfl⟩
    rw [HE.out.1, HE.out.2.1, HE.out.2.2.1, HE.out.2.2.2]
    rw [spotI_no hk] at hhome
    clear eg hk
    go_enter Try.func14, Try.ntmps14
    go_wp2_with fail
    rw [← hw1]
    try rw [← hB1]
    clear hw1 hB1
    refine hhome.mono ?_
    rintro e w2 ⟨rfl, ho⟩
    have HO2 := Lib.hid (HO1.out.trans ho)
    clear hhome ho
    go_wp2
    go_ret3
    exact ⟨rfl, ShStep.same h HO2.out rfl HL.out⟩
  rw [spotI_yes hk] at hhome
  have hwk : homeK i s = s.l.findIdx (hasI i) := rfl
  have hhit : i ∈ (nthP s.l (homeK i s)).i := hasI_iff.1 (spot_hit hk)
  have HE : Hid (leaveN i s = (nthP s.l (homeK i s)).n ∧ leaveO i s = true ∧ leaveF i s = decide ((nthP s.l (homeK i s)).i.length = 1) ∧ leaveS i s = if (nthP s.l (homeK i s)).i.length = 1 then outK (homeK i s) s else lessK (homeK i s) i s) := by
    show _ ∧ _ ∧ _ ∧ _
    unfold leaveN leaveF leaveO leaveS
    rw [if_pos hk, if_pos hk]
    exact ⟨rfl, decide_eq_true hk, by simp [hk], rfl⟩
  rw [HE.out.1, HE.out.2.1, HE.out.2.2.1, HE.out.2.2.2]
  rw [← hwk] at hhome
  have hkl : homeK i s < l.length := by rw [map_len hl]; exact hk
  have HQ0 := Lib.hid hk
  have HND : Hid ((nthP s.l (homeK i s)).i.Nodup) := ok.nd _ (nthP_mem hk)
  have HHIT := Lib.hid hhit
  obtain ⟨q, hq⟩ : ∃ q, q = homeK i s := ⟨_, rfl⟩
  rw [← hq] at hhome hkl HQ0 HND HHIT ⊢
  obtain ⟨gv, cap, hv, hgs, hlc, hcm⟩ := h.row.some_ (by omega)
  have hX : (nthX l q).p = nthP s.l q := nthX_p hl
  have HMEM : Hid (nthX l q ∈ l) := nthX_mem hkl
  have HLS : Hid (lessK q i s = ⟨s.last, s.l.set q (less (nthX l q).p i)⟩) := by show _ = _; unfold lessK; rw [← hX]
  rw [← hX, HLS.out]
  rw [← hX] at HND HHIT
  obtain ⟨x, hx⟩ : ∃ x, x = nthX l q := ⟨_, rfl⟩
  rw [← hx] at HMEM HND HHIT ⊢
  have HXX := Lib.hid hx
  obtain ⟨N, hN⟩ : ∃ N, N = l.length := ⟨_, rfl⟩
  have HN := Lib.hid hN
  rw [← hN] at hv hkl hlc
  subst hv
  unfold maxLen at hcm
  clear hk h hl hN hwk hq hX hx HE HLS hhit ok
  obtain ⟨⟨xn, xw, xi⟩, xA, xc⟩ := x
  simp only at HND HHIT ⊢
  by_cases h1 : xi.length = 1
  · rw [if_pos h1, decide_eq_true h1]
    clear eg
    go_enter Try.func14, Try.ntmps14
    go_wp2_with fail
    rw [← hw1]
    try rw [← hB1]
    clear hw1 hB1
    refine hhome.mono ?_
    rintro e w2 ⟨rfl, ho⟩
    have HO2 := Lib.hid ho
    clear hhome ho
    have HH2 := Lib.hid (HH1.out.old HO2.out)
    have hc1 := HH2.out.c1
    have hgl := HH2.out.lt
    obtain ⟨f0, f1, f2, f3, f4, f5, f6⟩ := HH2.out.row.el HN.out (k := q) (by rw [← HN.out]; exact hkl)
    rw [← HXX.out] at f0 f6
    simp only [h1] at f0 f6
    have hrem := sremove_any g _ l s w2 HH2.out HL.out q HQ0.out
    clear f1 f2 f3 f4 f5
    go_wp2_with fail
    refine hrem.mono ?_
    rintro e w3 ⟨rfl, hst, _⟩
    have HST := Lib.hid (hst.past (HO1.out.trans HO2.out))
    clear hrem hst hc1 f0 f6
    go_wp2
    go_ret3
    exact ⟨rfl, HST.out⟩
  · rw [if_neg h1, decide_eq_false h1]
    have h1' : ¬ (xi.length : Int) = 1 := by omega
    go_enter Try.func14, Try.ntmps14
    go_wp2_with fail
    rw [← hw1]
    try rw [← hB1]
    clear hw1 hB1
    refine hhome.mono ?_
    rintro e w2 ⟨rfl, ho⟩
    have HO2 := Lib.hid ho
    clear hhome ho
    have HH2 := Lib.hid (HH1.out.old HO2.out)
    have hc1 := HH2.out.c1
    have hgl := HH2.out.lt
    obtain ⟨f0, f1, f2, f3, f4, f5, f6⟩ := HH2.out.row.el HN.out (k := q) (by rw [← HN.out]; exact hkl)
    rw [← HXX.out] at f0 f6
    simp only at f0 f6
    have HIR := Lib.hid (HH2.out.ids _ HMEM.out)
    simp only [Px.v] at HIR
    have hpos : 0 < xi.length := List.length_pos_of_mem HHIT.out
    obtain ⟨gi, ci, hxs, hgi, _, _⟩ := ERow.some_ HIR.out hpos
    injection hxs with hA _ hC
    subst hA hC
    have hz6 := HH2.out.row.thaw HN.out (q * 7 + 6)
    have hxo : ownL (nthX l q).v = [gi] := by rw [← HXX.out]; simp [ownL, Value.ownBlock]
    have HXO := Lib.hid hxo
    have hBgi : B1 ∉ [gi] := by
      intro hm
      simp at hm
      subst hm
      exact HBF.out (mem_foot.2 (.inr (.inr (feet_nth (k := q) (by rw [← HN.out]; exact hkl) (by rw [HXO.out]; simp)))))
    have HBG := Lib.hid hBgi
    have hX2 : w2.cell? ⟨B1, 0, none⟩ = some (.int .i64 i) := (HO2.out.cell (p := ⟨B1, 0, none⟩) HBL.out (by simp)).trans HX1.out
    have hBL2 : B1 < w2.heap.size := Nat.lt_of_lt_of_le HBL.out HO2.out.size
    have hdel := delN_row 35 #[.pointer (some ⟨B1, 0, none⟩)] (fun m => m == i) gi xi.length xc xi w2 rfl HIR.out eg (fun W m hO => sleave1_any i m B1 W ((hO.cell (p := ⟨B1, 0, none⟩) hBL2 HBG.out).trans hX2))
    rw [filter_erase HND.out] at hdel
    clear f1 f2 f3 f4 f5 eg hgi hpos hBgi
    go_wp2_with fail
    refine hdel.mono ?_
    rintro e w3 ⟨m, rfl, hr3, ho3⟩
    have hm : m = (xi.erase i).length := by
      obtain ⟨_, _, e, _, _⟩ := IRow.slice hr3
      injection e with _ e _
    obtain ⟨y, hy⟩ : ∃ y : Px, y = ⟨⟨xn, xw, xi.erase i⟩, some ⟨gi, 0, none⟩, xc⟩ := ⟨_, rfl⟩
    have hyv : y.v = .slice (some ⟨gi, 0, none⟩) m xc := by rw [hy, hm]
    have HYP : Hid (y.p = ⟨xn, xw, xi.erase i⟩) := by show _ = _; rw [hy]
    have HM5 := Lib.hid (HH2.out.members (y := y) HN.out (k := q) (by rw [← HN.out]; exact hkl) (by rw [HXO.out]; exact ho3) (by rw [hyv, HYP.out]; exact hr3) (by
      intro z hz
      rw [hyv] at hz
      left
      rw [HXO.out]
      simpa [ownL, Value.ownBlock] using hz) (by rw [HYP.out, ← HXX.out]) (by rw [HYP.out, ← HXX.out]))
    have hgv5 : gv ∉ [gi] := by
      obtain ⟨_, _, d3, _⟩ := foot_nodup.1 HH2.out.nd
      rw [← HXO.out]
      intro hm
      exact d3 gv (by simp [ownL, Value.ownBlock]) (feet_nth (by rw [← HN.out]; exact hkl) hm)
    have hgvl : gv < w2.heap.size := block_of_cell (a := ⟨gv, q * 7, none⟩) f0
    have e6 := (ho3.cell (p := ⟨gv, q * 7 + 6, none⟩) hgvl hgv5).trans f6
    have ez := (ho3.frozen (p := ⟨gv, q * 7 + 6, none⟩) hgvl hgv5).trans hz6
    have hgvl3 : gv < w3.heap.size := Nat.lt_of_lt_of_le hgvl ho3.size
    rw [hyv] at HM5
    obtain ⟨W6, hW6⟩ : ∃ W6, W6 = w3.setCell ⟨gv, q * 7 + 6, none⟩ (.slice (some ⟨gi, 0, none⟩) m xc) := ⟨_, rfl⟩
    rw [← hW6] at HM5
    clear hdel hr3 ho3 hy hyv hxo hgv5 hc1 hgl f6 f0 hz6 hX2 hm
    go_wp2_with fail
    rw [← hW6]
    clear hW6 e6 ez
    go_wp2
    go_ret3
    refine ⟨rfl, ShStep.past (HO1.out.trans HO2.out) ⟨_, _, HM5.out.1, ?_, HM5.out.2.1, HM5.out.2.2⟩⟩
    rw [map_set HL.out, HYP.out]
    rfl
end
end Go.Proofs.Ytcljmdpnbfefbaa
