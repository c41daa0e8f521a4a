/-
  The contracts of the atomic number, of Pool.open, Pool.use and pool.New over this seat's program. Conditions: the pool lies there, a full one has an idle connection when one is opened.
-/
import Derived.Test.YtbnmldfiheffoaaQOps
import Derived.Laws.LoneSync
namespace Go.Proofs.Ytbnmldfiheffoaa
open Go.RowKit

set_option maxHeartbeats 400000 in
/-- a sum on an atomic number -/
theorem atAdd_any (g o : Nat) (t d : Int) (w : World) (h0 : w.cell? ⟨g, o, none⟩ = some (.int .i64 t)) (hz : w.frozen? ⟨g, o, none⟩ = false) (hb : -9223372036854775808 ≤ t + d ∧ t + d ≤ 9223372036854775807) :
    Calls Try.prog 54 #[.pointer (some ⟨g, o, none⟩), .int .i64 d] w fun e w' => e = .returned (.int .i64 (t + d)) ∧ w' = w.setCell ⟨g, o, none⟩ (.int .i64 (t + d)) := by
  have hs : (Op.intArith .add .i64 t d).run Try.prog w = .ok (.int .i64 (t + d)) w := by
    have e : IntKind.i64.wrap (t + d) = t + d := by
      have h1 := hb.1; have h2 := hb.2
      simp [IntKind.wrap, IntKind.bits, IntKind.signed]
      first | omega | (split <;> omega)
    simp [Op.intArith, e]
  have hst := run_call_add (P := Try.prog) Try.func65 (by kernel_rfl) (by kernel_rfl) (by kernel_rfl) .i64 (by kernel_rfl) h0 hz hs
  clear hs
  go_enter Try.func54, Try.ntmps54
  go_wp2
  go_ret
  exact ⟨rfl, rfl⟩
set_option maxHeartbeats 400000 in
/-- an atomic number is laid -/
theorem atStore_any (g o : Nat) (t u : Int) (w : World) (h0 : w.cell? ⟨g, o, none⟩ = some (.int .i64 t)) (hz : w.frozen? ⟨g, o, none⟩ = false) :
    Calls Try.prog 30 #[.pointer (some ⟨g, o, none⟩), .int .i64 u] w fun e w' => e = .returned (.tuple #[]) ∧ w' = w.setCell ⟨g, o, none⟩ (.int .i64 u) := by
  have hst := run_call_store (P := Try.prog) Try.func49 (by kernel_rfl) (by kernel_rfl) (by kernel_rfl) (by kernel_rfl) (k := .i64) (y := u) h0 hz
  go_enter Try.func30, Try.ntmps30
  go_wp2
  go_end0
  exact ⟨rfl, rfl⟩

/-- what Use makes of the pool, by what it is told -/
def useQ (k : ByteArray) (s : Pv) : Pv :=
  if hasC (useS 32 s.h k) (useG 32 s.h k) = false then { shutP (ckeyB (useG 32 s.h k)) s with h := useS 32 s.h k } else { s with h := useS 32 s.h k }
set_option maxHeartbeats 1600000 in
theorem pUse_any (g gt : Nat) (vt vb vi : Value) (s : Pv) (k : ByteArray) (w : World) (h : PoAt w g gt vt vb vi s) (hl : s.i.length ≤ 100) :
    Calls Try.prog 32 #[.pointer (some ⟨g, 0, none⟩), .string k] w fun e w' => e = .returned (.tuple #[]) ∧ PoStep w w' g gt vt vb vi (useQ k s) := by
  have eg : ∀ args w, (callFunc 52 args).run Try.prog w = .ok (.enter 52 args) w := enters_of Try.func52 (by kernel_rfl) rfl
  have HP := Lib.hid h
  have HL := Lib.hid hl
  have hc3 := h.hd.c3
  have hgl := h.hd.lt
  obtain ⟨go, hgo⟩ : ∃ go, go = useG 32 s.h k := ⟨_, rfl⟩
  obtain ⟨hn, hhn⟩ : ∃ hn, hn = useS 32 s.h k := ⟨_, rfl⟩
  have HQ : Hid (useQ k s = if hasC hn go = false then { shutP (ckeyB go) s with h := hn } else { s with h := hn }) := by show _ = _; unfold useQ; rw [← hgo, ← hhn]
  have HG := Lib.hid hgo
  have HN := Lib.hid hhn
  clear h hl hgo hhn
  go_enter Try.func32, Try.ntmps32
  go_wp2_with fail
  refine (hUse_any gt 32 vt s.h k w HP.out.tb).mono ?_
  rintro e w1 ⟨rfl, vt1, ht1, ho1, hv1⟩
  rw [← HG.out]
  rw [← HN.out] at ht1
  have HP1 := Lib.hid (HP.out.turnT ho1 ht1 hv1)
  have HO1 : Hid (Only (footP g gt vt vb vi) w w1) := ho1.mono (fun x hx => by rcases List.mem_cons.1 hx with h1 | h1; exact mem_footP.2 (by simp [h1]); exact mem_footP.2 (by simp [h1]))
  have HV1 : Hid (Grow w.heap.size vt vt1) := hv1
  clear ht1 ho1 hv1 hc3
  obtain ⟨W2, hW2⟩ : ∃ W2, W2 = w1.alloc (.cells #[.string go] 9) := ⟨_, rfl⟩
  obtain ⟨B, hB⟩ : ∃ B, B = w1.heap.size := ⟨_, rfl⟩
  have HO2 : Hid (Only [] w1 W2) := by show Only _ _ _; rw [hW2]; exact (Only.refl _ _).alloc _
  have HB2 : Hid (W2.cell? ⟨B, 0, none⟩ = some (.string go)) := by show _ = _; rw [hW2, hB]; simp
  have HBB := Lib.hid hB
  have HP2 := Lib.hid (HP1.out.old HO2.out)
  have hb2 := HB2.out
  have hd3 := HP2.out.hd.c3
  have hg2 := HP2.out.hd.lt
  have hg1 := HP1.out.hd.lt
  go_wp2_with fail
  rw [← hW2, ← hB]
  clear hW2 hB
  obtain ⟨F, hF⟩ : ∃ F : World → Prop, ∀ W, F W ↔ (W.cell? ⟨g, 3, none⟩ = some (.pointer (some ⟨gt, 0, none⟩)) ∧ W.cell? ⟨B, 0, none⟩ = some (.string go)) := ⟨_, fun _ => Iff.rfl⟩
  have hx3 : ∀ p : Held F, p.w.cell? ⟨g, 3, none⟩ = some (.pointer (some ⟨gt, 0, none⟩)) := fun p => ((hF _).1 p.h).1
  have hxB : ∀ p : Held F, p.w.cell? ⟨B, 0, none⟩ = some (.string go) := fun p => ((hF _).1 p.h).2
  have HFO : Hid (∀ W, Only [] W2 W → F W) := by
    show ∀ W, _
    intro W ho
    exact (hF _).2 ⟨(HP2.out.old ho).hd.c3, (ho.cell (p := ⟨B, 0, none⟩) (block_of_cell (a := ⟨B, 0, none⟩) HB2.out) (by simp)).trans HB2.out⟩
  have HTD := Lib.hid (HP2.out.old ((Only.refl _ W2).drew)).tb
  clear hF
  refine mix_start F (by kernel_rfl) ?_
  refine mix_seg [0, 1, 2, 3, 4] (by kernel_rfl) (HFO.out _ ((Only.refl _ W2).drew)) ?_
  simp only [segOf, pickOps, pickOp]
  repeat (go_big_quiet_step (rfl))
  refine wpQuiet_nil ?_
  refine mix_run 5 (by kernel_rfl) ?_
  simp only [segOf, pickOps, pickOp]
  go_wp2_with fail
  refine (hHas_any gt 32 vt1 hn go _ HTD.out).mono ?_
  rintro e w3 ⟨rfl, ho⟩
  have HO3 := Lib.hid ho.of_drew
  clear ho
  have HP3 := Lib.hid (HP2.out.old HO3.out)
  have HB3 : Hid (w3.cell? ⟨B, 0, none⟩ = some (.string go)) := (HO3.out.cell (p := ⟨B, 0, none⟩) (block_of_cell (a := ⟨B, 0, none⟩) HB2.out) (by simp)).trans HB2.out
  have HOA : Hid (Only (footP g gt vt vb vi) w w3) := (HO1.out.trans (HO2.out.mono (by simp))).trans (HO3.out.mono (by simp))
  obtain ⟨q, hq⟩ : ∃ q, q = hasC hn go := ⟨_, rfl⟩
  rw [← hq] at HQ ⊢
  clear hq hb2 hd3
  cases q with
  | true =>
    go_wp2_with fail
    refine MixPost.normal (HFO.out _ HO3.out) ?_
    refine mix_seg [6] (by kernel_rfl) (HFO.out _ HO3.out) ?_
    simp only [segOf, pickOps, pickOp]
    repeat (go_big_quiet_step (rfl))
    refine wpQuiet_nil ?_
    refine mix_done (by kernel_rfl) ?_
    go_wp2
    go_end0
    refine ⟨rfl, vt1, vb, vi, ?_, HOA.out, HV1.out, Grow.refl _ _, Grow.refl _ _⟩
    rw [HQ.out, if_neg (by simp)]
    exact HP3.out
  | false =>
    have HC : Hid (∀ (W : World) (x : Cn), Only (ownL vi) w3 W → Calls Try.prog 52 (#[linkV x] ++ #[.pointer (some ⟨B, 0, none⟩)]) W fun e w' => e = .returned (.bool (ckeyB go x)) ∧ Only [] W w') := by
      show ∀ (W : World) (x : Cn), _
      intro W x hO
      exact puse1_any go B x W ((hO.cell (p := ⟨B, 0, none⟩) (block_of_cell (a := ⟨B, 0, none⟩) HB3.out) (fun hm => by have := HP1.out.oi _ hm; rw [HBB.out] at this; exact absurd this (Nat.lt_irrefl _))).trans HB3.out)
    have hcon := shut_any 52 #[.pointer (some ⟨B, 0, none⟩)] (ckeyB go) g gt vt1 vb vi _ w3 HP3.out HL.out eg HC.out
    clear eg
    go_wp2_with fail
    refine MixPost.normal (HFO.out _ HO3.out) ?_
    refine mix_seg [6] (by kernel_rfl) (HFO.out _ HO3.out) ?_
    simp only [segOf, pickOps, pickOp]
    repeat (go_big_quiet_step (rfl))
    refine wpQuiet_nil ?_
    refine mix_done (by kernel_rfl) ?_
    go_wp2_with fail
    refine hcon.mono ?_
    rintro e w4 ⟨r, vi4, rfl, _, _, h3, h4, h5⟩
    have H3 := Lib.hid h3
    have H4 := Lib.hid h4
    have H5 := Lib.hid h5
    clear hcon h3 h4 h5
    go_wp2
    go_end0
    refine ⟨rfl, vt1, vb, vi4, ?_, HOA.out.trans (H4.out.mono ?_), HV1.out, Grow.refl _ _, (Grow.refl _ _).trans H5.out HOA.out.size⟩
    · rw [HQ.out, if_pos trivial]
      exact H3.out
    · intro x hx
      rcases List.mem_cons.1 hx with h1 | h1
      · exact mem_footP.2 (by simp [h1])
      · exact mem_footP.2 (by simp [h1])

set_option maxRecDepth 8000 in
set_option maxHeartbeats 2000000 in
theorem pOpen_any (g gt : Nat) (vt vb vi : Value) (s : Pv) (k : ByteArray) (w : World) (h : PoAt w g gt vt vb vi s) (hb : s.b.length ≤ 100) (hib : s.i.length ≤ 100) (hne : s.t ≤ s.b.length + s.i.length → 0 < s.i.length) (hla : s.last ≤ 1000000000) :
    Calls Try.prog 34 #[.pointer (some ⟨g, 0, none⟩), .string k] w fun e w' => e = .returned (.int .i64 ((s.last + 1 : Nat) : Int)) ∧ PoStep w w' g gt vt vb vi (openP k s) := by
  obtain ⟨A, cap, rfl, hb1, hb2⟩ := h.rb.slice
  obtain ⟨Ai, capi, rfl, hi1, hi2⟩ := h.ri.slice
  unfold maxLen at hb2 hi2
  obtain ⟨z, hz⟩ : ∃ z : Int, z = ((s.last + 1 : Nat) : Int) := ⟨_, rfl⟩
  have HZ := Lib.hid hz
  have HZB : Hid (0 ≤ z ∧ z ≤ 1000000001) := by show _ ∧ _; omega
  have HB := Lib.hid hb
  have HIB := Lib.hid hib
  have HP := Lib.hid h
  have hc0 := h.hd.c0
  have hc4' := h.hd.c4
  have hc5 := h.hd.c5
  have hgl := h.hd.lt
  clear h hz hla
  by_cases hfull : s.t ≤ s.b.length + s.i.length
  · have hne' := hne hfull
    have HE : Hid (openP k s = { s with i := s.i.drop 1, last := s.last + 1, b := s.b ++ [⟨s.last + 1, k, 0⟩] }) := by show _ = _; unfold openP; rw [if_pos hfull]
    obtain ⟨gi, cap2, e2, hgi, _, _⟩ := HP.out.ri.some_ hne'
    obtain ⟨rfl, rfl⟩ : Ai = some ⟨gi, 0, none⟩ ∧ capi = cap2 := by
      injection e2 with e1 e2 e3
      exact ⟨e1, e3⟩
    have hf2 : (s.t : Int) ≤ (s.b.length : Int) + (s.i.length : Int) := by omega
    clear e2 hne
    go_enter Try.func34, Try.ntmps34
    go_wp2_with fail
    go_quiet (fail)
    obtain ⟨W0, hW0⟩ : ∃ W0, W0 = w.drewN nq := ⟨_, rfl⟩
    have HO0 : Hid (Only [] w W0) := by show Only _ _ _; rw [hW0]; exact (Only.refl _ _).drewN _
    have HP0 := Lib.hid (HP.out.old HO0.out)
    have hcon := delC_any gi capi 0 1 s.i.length s.i W0 rfl rfl HP0.out.ri hne' hi1 hi2
    have hd5 := HP0.out.hd.c5
    have hgl0 := HP0.out.hd.lt
    rw [← hW0]
    clear hW0 hc0 hc4' hc5
    go_wp2_with fail
    refine hcon.mono ?_
    rintro e w0 ⟨rfl, hr0, ho0⟩
    clear hcon hd5
    rw [List.eraseIdx_zero, ← List.drop_one] at hr0
    have HR0 := Lib.hid hr0
    have HO00 := Lib.hid ho0
    have HNG : Hid (g ≠ gi) := by show _ ≠ _; have h1 := HP0.out.ap.a4; intro e; apply h1; rw [e]; simp [ownL, Value.ownBlock]
    have HH0 := Lib.hid (HP0.out.hd.only ho0 (by have := HNG.out; simpa using this))
    have hd5 := HH0.out.c5
    have hz5 := HH0.out.z5
    have hgl01 := HH0.out.lt
    clear hr0 ho0
    obtain ⟨vi1, hvi1⟩ : ∃ vi1, vi1 = Value.slice (some ⟨gi, 0, none⟩) (s.i.length - 1) capi := ⟨_, rfl⟩
    obtain ⟨I1, hI1⟩ : ∃ I1, I1 = s.i.drop 1 := ⟨_, rfl⟩
    obtain ⟨w1, hw1⟩ : ∃ w1, w1 = w0.setCell ⟨g, 5, none⟩ vi1 := ⟨_, rfl⟩
    have HGI : Hid (Grow w.heap.size (.slice (some ⟨gi, 0, none⟩) s.i.length capi) vi1) := by show Grow _ _ _; rw [hvi1]; exact fun x hx => .inl hx
    have HP1 : Hid (PoAt w1 g gt vt (.slice A s.b.length cap) vi1 { s with i := I1 }) := by
      show PoAt _ _ _ _ _ _ _
      refine HP0.out.turnI ?_ ?_ ?_ (by rw [hvi1]; exact fun x hx => .inl hx)
      · rw [hw1]; exact (HO00.out.mono (by simp [ownL, Value.ownBlock])).setCell (p := ⟨g, 5, none⟩) (by simp) _
      · rw [hw1]; exact HH0.out.set5 _
      · rw [hw1, hI1, hvi1]
        refine HR0.out.only (s := [g]) ((Only.refl _ _).setCell (p := ⟨g, 5, none⟩) (by simp) _) ?_
        intro x hx hm
        simp [ownL, Value.ownBlock] at hx hm
        exact HNG.out (hm.symm.trans hx)
    have HO1 : Hid (Only (footP g gt vt (.slice A s.b.length cap) (.slice (some ⟨gi, 0, none⟩) s.i.length capi)) w w1) := by
      show Only _ _ _
      rw [hw1]
      exact Only.setCell ((HO0.out.mono (by simp)).trans (HO00.out.mono (by intro x hx; simp at hx; subst hx; exact mem_footP.2 (by simp [ownL, Value.ownBlock])))) (p := ⟨g, 5, none⟩) (mem_footP.2 (by simp)) _
    rw [← hI1] at HE
    rw [hvi1] at hw1
    go_wp2_with fail
    rw [← hw1]
    clear hw1 hd5 hz5 hvi1 hI1
    have hc2 := HP1.out.hd.c2
    have hz2 := HP1.out.hd.z2
    have hgl1 := HP1.out.hd.lt
    rw [show ((s.last + 1 : Nat) : Int) = z from HZ.out.symm] at hc2
    go_wp2_with fail
    refine (atAdd_any g 2 z 1 w1 hc2 hz2 (by have := HZB.out; omega)).mono ?_
    rintro e w2 ⟨rfl, hw2⟩
    have HO2 : Hid (Only [g] w1 w2) := by show Only _ _ _; rw [hw2]; exact (Only.refl _ _).setCell (p := ⟨g, 2, none⟩) (by simp) _
    have HP2 : Hid (PoAt w2 g gt vt (.slice A s.b.length cap) vi1 { s with i := I1, last := s.last + 1 }) := by
      show PoAt _ _ _ _ _ _ _
      refine HP1.out.turnL (s.last + 1) HO2.out ?_
      rw [hw2]
      have h1 := HP1.out.hd.set2 (s.last + 1)
      rw [show ((s.last + 1 + 1 : Nat) : Int) = z + 1 by rw [HZ.out]; omega] at h1
      exact h1
    clear hw2 hc2 hz2
    have hgl2 := HP2.out.hd.lt
    have hc4 := HP2.out.hd.c4
    have he : z + 1 - 1 = z := by omega
    obtain ⟨zb1, zb2⟩ := HZB.out
    obtain ⟨W3, hW3⟩ : ∃ W3, W3 = w2.alloc (.cells #[.int .i64 z, .string k, .int .u64 0] 83) := ⟨_, rfl⟩
    obtain ⟨B, hB⟩ : ∃ B, B = w2.heap.size := ⟨_, rfl⟩
    have HO3 : Hid (Only [] w2 W3) := by show Only _ _ _; rw [hW3]; exact (Only.refl _ _).alloc _
    have HN3 : Hid (W3.cell? ⟨B, 0, none⟩ = some (.int .i64 z) ∧ W3.cell? ⟨B, 1, none⟩ = some (.string k) ∧ W3.cell? ⟨B, 2, none⟩ = some (.int .u64 0)) := by show _ ∧ _ ∧ _; rw [hW3, hB]; exact ⟨by simp, by simp, by simp⟩
    have HP3 := Lib.hid (HP2.out.old HO3.out)
    go_wp2_with (at_builtin; rw [← hW3, ← hB]; refine wpList_append_conn rfl (.tmp 39) (.tmp 43) 65 83 rfl Try.underlying65 infoC _ s.b rfl HP3.out.rb B ⟨s.last + 1, k, 0⟩ rfl (by rw [HN3.out.1, HZ.out]) HN3.out.2.1 HN3.out.2.2 (by have := HB.out; omega) ?_)
    intro g2 cap2 w4 hr4 ho4 hg4
    rw [← hW3] at ho4
    have HS3 : Hid (W3.heap.size = w2.heap.size + 1) := by show _ = _; rw [hW3]; simp
    clear hW3 hB hc4
    obtain ⟨v4, hv4⟩ : ∃ v4, v4 = Value.slice (some ⟨g2, 0, none⟩) (s.b.length + 1) cap2 := ⟨_, rfl⟩
    have HG4 : Hid (Grow w2.heap.size (.slice A s.b.length cap) v4) := by
      show Grow _ _ _
      intro x hx
      rw [hv4, ownL, Value.ownBlock] at hx
      simp at hx
      subst hx
      rcases hg4.out with h1 | h1
      · exact .inl h1
      · right; omega
    have HH4 := Lib.hid (HP3.out.hd.only ho4.out HP3.out.ap.a3)
    have HO4 : Hid (Only (ownL (.slice A s.b.length cap)) w2 w4) := by show Only _ _ _; exact (HO3.out.mono (by simp)).trans ho4.out
    have hd4 := HH4.out.c4
    have hz4 := HH4.out.z4
    have hgl4 := HH4.out.lt
    obtain ⟨W5, hW5⟩ : ∃ W5, W5 = w4.setCell ⟨g, 4, none⟩ v4 := ⟨_, rfl⟩
    have HP5 : Hid (PoAt W5 g gt vt v4 vi1 { s with i := I1, last := s.last + 1, b := s.b ++ [⟨s.last + 1, k, 0⟩] }) := by
      show PoAt _ _ _ _ _ _ _
      refine HP2.out.turnB ?_ ?_ ?_ HG4.out
      · rw [hW5]; exact (HO4.out.mono (by intro x hx; exact List.mem_cons_of_mem _ hx)).setCell (p := ⟨g, 4, none⟩) (by simp) _
      · rw [hW5]; exact HH4.out.set4 _
      · rw [hW5, hv4]
        refine hr4.out.only (s := [g]) ((Only.refl _ _).setCell (p := ⟨g, 4, none⟩) (by simp) _) ?_
        intro x hx hm
        rw [← hv4] at hx
        simp at hm
        subst hm
        rcases HG4.out x hx with h1 | h1
        · exact HP3.out.ap.a3 h1
        · omega
    have HO5 : Hid (Only (footP g gt vt (.slice A s.b.length cap) vi1) w1 W5) := by
      show Only _ _ _
      rw [hW5]
      refine Only.setCell ((HO2.out.mono ?_).trans (HO4.out.mono ?_)) (p := ⟨g, 4, none⟩) (mem_footP.2 (by simp)) _
      · intro x hx; simp at hx; exact mem_footP.2 (by simp [hx])
      · intro x hx; exact mem_footP.2 (by simp [hx])
    rw [hv4] at hW5
    go_wp2_with fail
    rw [← hW5]
    clear hW5 hd4 hz4
    go_wp2
    go_ret
    refine ⟨ret_int (by first | exact HZ.out | (rw [he]; exact HZ.out)), PoStep.next HO1.out (Grow.refl _ _) (Grow.refl _ _) HGI.out ⟨vt, v4, vi1, ?_, HO5.out, Grow.refl _ _, (Grow.refl _ _).trans HG4.out HO2.out.size, Grow.refl _ _⟩⟩
    rw [HE.out]
    exact HP5.out
  · have HE : Hid (openP k s = { s with i := s.i, last := s.last + 1, b := s.b ++ [⟨s.last + 1, k, 0⟩] }) := by show _ = _; unfold openP; rw [if_neg hfull]
    have hf2 : ¬ (s.t : Int) ≤ (s.b.length : Int) + (s.i.length : Int) := by omega
    clear hne
    go_enter Try.func34, Try.ntmps34
    go_wp2_with fail
    go_quiet (fail)
    obtain ⟨w1, hw1⟩ : ∃ w1, w1 = w.drewN nq := ⟨_, rfl⟩
    obtain ⟨I1, hI1⟩ : ∃ I1, I1 = s.i := ⟨_, rfl⟩
    obtain ⟨vi1, hvi1⟩ : ∃ vi1, vi1 = Value.slice Ai s.i.length capi := ⟨_, rfl⟩
    have HO0 : Hid (Only [] w w1) := by show Only _ _ _; rw [hw1]; exact (Only.refl _ _).drewN _
    have HP1 : Hid (PoAt w1 g gt vt (.slice A s.b.length cap) vi1 { s with i := I1 }) := by show PoAt _ _ _ _ _ _ _; rw [hI1, hvi1]; exact HP.out.old HO0.out
    have HGI : Hid (Grow w.heap.size (.slice Ai s.i.length capi) vi1) := by show Grow _ _ _; rw [hvi1]; exact Grow.refl _ _
    have HO1 : Hid (Only (footP g gt vt (.slice A s.b.length cap) (.slice Ai s.i.length capi)) w w1) := HO0.out.mono (by simp)
    rw [← hI1] at HE
    rw [← hw1]
    clear hw1 hc0 hc4' hc5 hvi1 hI1
    have hc2 := HP1.out.hd.c2
    have hz2 := HP1.out.hd.z2
    have hgl1 := HP1.out.hd.lt
    rw [show ((s.last + 1 : Nat) : Int) = z from HZ.out.symm] at hc2
    go_wp2_with fail
    refine (atAdd_any g 2 z 1 w1 hc2 hz2 (by have := HZB.out; omega)).mono ?_
    rintro e w2 ⟨rfl, hw2⟩
    have HO2 : Hid (Only [g] w1 w2) := by show Only _ _ _; rw [hw2]; exact (Only.refl _ _).setCell (p := ⟨g, 2, none⟩) (by simp) _
    have HP2 : Hid (PoAt w2 g gt vt (.slice A s.b.length cap) vi1 { s with i := I1, last := s.last + 1 }) := by
      show PoAt _ _ _ _ _ _ _
      refine HP1.out.turnL (s.last + 1) HO2.out ?_
      rw [hw2]
      have h1 := HP1.out.hd.set2 (s.last + 1)
      rw [show ((s.last + 1 + 1 : Nat) : Int) = z + 1 by rw [HZ.out]; omega] at h1
      exact h1
    clear hw2 hc2 hz2
    have hgl2 := HP2.out.hd.lt
    have hc4 := HP2.out.hd.c4
    have he : z + 1 - 1 = z := by omega
    obtain ⟨zb1, zb2⟩ := HZB.out
    obtain ⟨W3, hW3⟩ : ∃ W3, W3 = w2.alloc (.cells #[.int .i64 z, .string k, .int .u64 0] 83) := ⟨_, rfl⟩
    obtain ⟨B, hB⟩ : ∃ B, B = w2.heap.size := ⟨_, rfl⟩
    have HO3 : Hid (Only [] w2 W3) := by show Only _ _ _; rw [hW3]; exact (Only.refl _ _).alloc _
    have HN3 : Hid (W3.cell? ⟨B, 0, none⟩ = some (.int .i64 z) ∧ W3.cell? ⟨B, 1, none⟩ = some (.string k) ∧ W3.cell? ⟨B, 2, none⟩ = some (.int .u64 0)) := by show _ ∧ _ ∧ _; rw [hW3, hB]; exact ⟨by simp, by simp, by simp⟩
    have HP3 := Lib.hid (HP2.out.old HO3.out)
    go_wp2_with (at_builtin; rw [← hW3, ← hB]; refine wpList_append_conn rfl (.tmp 39) (.tmp 43) 65 83 rfl Try.underlying65 infoC _ s.b rfl HP3.out.rb B ⟨s.last + 1, k, 0⟩ rfl (by rw [HN3.out.1, HZ.out]) HN3.out.2.1 HN3.out.2.2 (by have := HB.out; omega) ?_)
    intro g2 cap2 w4 hr4 ho4 hg4
    rw [← hW3] at ho4
    have HS3 : Hid (W3.heap.size = w2.heap.size + 1) := by show _ = _; rw [hW3]; simp
    clear hW3 hB hc4
    obtain ⟨v4, hv4⟩ : ∃ v4, v4 = Value.slice (some ⟨g2, 0, none⟩) (s.b.length + 1) cap2 := ⟨_, rfl⟩
    have HG4 : Hid (Grow w2.heap.size (.slice A s.b.length cap) v4) := by
      show Grow _ _ _
      intro x hx
      rw [hv4, ownL, Value.ownBlock] at hx
      simp at hx
      subst hx
      rcases hg4.out with h1 | h1
      · exact .inl h1
      · right; omega
    have HH4 := Lib.hid (HP3.out.hd.only ho4.out HP3.out.ap.a3)
    have HO4 : Hid (Only (ownL (.slice A s.b.length cap)) w2 w4) := by show Only _ _ _; exact (HO3.out.mono (by simp)).trans ho4.out
    have hd4 := HH4.out.c4
    have hz4 := HH4.out.z4
    have hgl4 := HH4.out.lt
    obtain ⟨W5, hW5⟩ : ∃ W5, W5 = w4.setCell ⟨g, 4, none⟩ v4 := ⟨_, rfl⟩
    have HP5 : Hid (PoAt W5 g gt vt v4 vi1 { s with i := I1, last := s.last + 1, b := s.b ++ [⟨s.last + 1, k, 0⟩] }) := by
      show PoAt _ _ _ _ _ _ _
      refine HP2.out.turnB ?_ ?_ ?_ HG4.out
      · rw [hW5]; exact (HO4.out.mono (by intro x hx; exact List.mem_cons_of_mem _ hx)).setCell (p := ⟨g, 4, none⟩) (by simp) _
      · rw [hW5]; exact HH4.out.set4 _
      · rw [hW5, hv4]
        refine hr4.out.only (s := [g]) ((Only.refl _ _).setCell (p := ⟨g, 4, none⟩) (by simp) _) ?_
        intro x hx hm
        rw [← hv4] at hx
        simp at hm
        subst hm
        rcases HG4.out x hx with h1 | h1
        · exact HP3.out.ap.a3 h1
        · omega
    have HO5 : Hid (Only (footP g gt vt (.slice A s.b.length cap) vi1) w1 W5) := by
      show Only _ _ _
      rw [hW5]
      refine Only.setCell ((HO2.out.mono ?_).trans (HO4.out.mono ?_)) (p := ⟨g, 4, none⟩) (mem_footP.2 (by simp)) _
      · intro x hx; simp at hx; exact mem_footP.2 (by simp [hx])
      · intro x hx; exact mem_footP.2 (by simp [hx])
    rw [hv4] at hW5
    go_wp2_with fail
    rw [← hW5]
    clear hW5 hd4 hz4
    go_wp2
    go_ret
    refine ⟨ret_int (by first | exact HZ.out | (rw [he]; exact HZ.out)), PoStep.next HO1.out (Grow.refl _ _) (Grow.refl _ _) HGI.out ⟨vt, v4, vi1, ?_, HO5.out, Grow.refl _ _, (Grow.refl _ _).trans HG4.out HO2.out.size, Grow.refl _ _⟩⟩
    rw [HE.out]
    exact HP5.out
end Go.Proofs.Ytbnmldfiheffoaa
