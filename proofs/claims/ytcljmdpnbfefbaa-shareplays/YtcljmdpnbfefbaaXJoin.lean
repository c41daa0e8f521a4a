/-
  The contracts of open and Join over this seat's program. Conditions: those of each statement.
-/
import Derived.Test.YtcljmdpnbfefbaaXOps2
import Derived.Test.YtcljmdpnbfefbaaKMix
namespace Go.Proofs.Ytcljmdpnbfefbaa
open Go.RowKit

/-- one more preflight: its members in a new block, the row with it at its end -/
theorem ShAt.pushed {e : TypeId} {d g last C1 g2 n8 cap2 : Nat} {w W2 w4 : World} {v v8 : Value} {l : List Px} (h : ShAt e d w g v last l) (x : Px) (hx : ownL x.v = [C1]) (hC1 : w.heap.size ≤ C1) (hC2 : C1 < W2.heap.size) (oA : Only [] w W2) (hi : IRow W2 x.v x.p.i)
    (o : Only (ownL v) W2 w4) (hr : PRow e w4 v8 (l ++ [x])) (hg : g2 ∈ ownL v ∨ g2 = W2.heap.size) (hv8 : v8 = .slice (some ⟨g2, 0, none⟩) n8 cap2) :
    ShAt e d (w4.setCell ⟨g, 1, none⟩ v8) g v8 last (l ++ [x]) ∧ Only (foot g v l) w (w4.setCell ⟨g, 1, none⟩ v8) ∧ ∀ y ∈ foot g v8 (l ++ [x]), y ∈ foot g v l ∨ w.heap.size ≤ y := by
  obtain ⟨d1, d2, d3, d4⟩ := foot_nodup.1 h.nd
  have ho8 : ownL v8 = [g2] := by rw [hv8]; simp [ownL, Value.ownBlock]
  have hfe : feet (l ++ [x]) = feet l ++ [C1] := by rw [feet_append]; simp [feet, hx]
  have hvl : ∀ y ∈ ownL v, y < w.heap.size := fun y hy => h.row.own hy
  have hC1v : C1 ∉ ownL v := fun hm => by have := hvl _ hm; omega
  have hg2n : g2 ∈ ownL v ∨ w.heap.size ≤ g2 := by rcases hg with h1 | h1; exact .inl h1; exact .inr (by rw [h1]; exact oA.size)
  have oT : Only (ownL v) w w4 := (oA.mono (by simp)).trans o
  refine ⟨h.turn oT hr ?_ ?_ ?_ ?_, Only.setCell (oT.mono (fun y hy => mem_foot.2 (.inr (.inl hy)))) (p := ⟨g, 1, none⟩) (mem_foot.2 (.inl rfl)) _, ?_⟩
  · intro y hy
    rw [ho8] at hy
    simp at hy; subst hy
    exact hg2n
  · intro y hy
    rcases List.mem_append.1 hy with h1 | h1
    · exact (h.ids y h1).only oT (fun z hz hm => d3 z hm (mem_feet.2 ⟨y, h1, hz⟩))
    · simp at h1; subst h1
      exact hi.only o (by intro z hz hm; rw [hx] at hz; simp at hz; subst hz; exact hC1v hm)
  · rw [hfe, List.nodup_append]
    exact ⟨d4, by simp, fun a ha b hb => by simp at hb; subst hb; rintro rfl; have := h.feetLt ha; omega⟩
  · intro z hz
    rw [hfe] at hz
    rw [ho8]
    rcases List.mem_append.1 hz with h1 | h1
    · refine ⟨.inl h1, fun hm => ?_⟩
      simp at hm; subst hm
      rcases hg2n with h2 | h2
      · exact d3 _ h2 h1
      · have := h.feetLt h1; omega
    · simp at h1; subst h1
      refine ⟨.inr hC1, fun hm => ?_⟩
      simp at hm; subst hm
      rcases hg with h2 | h2
      · exact hC1v h2
      · omega
  · intro y hy
    rcases mem_foot.1 hy with h1 | h1 | h1
    · exact .inl (mem_foot.2 (.inl h1))
    · rw [ho8] at h1; simp at h1; subst h1
      rcases hg2n with h2 | h2
      · exact .inl (mem_foot.2 (.inr (.inl h2)))
      · exact .inr h2
    · rw [hfe] at h1
      rcases List.mem_append.1 h1 with h2 | h2
      · exact .inl (mem_foot.2 (.inr (.inr h2)))
      · simp at h2; subst h2; exact .inr hC1
theorem map_push {l : List Px} {m : List Pv} (h : l.map Px.p = m) (x : Px) : (l ++ [x]).map Px.p = m ++ [x.p] := by rw [← h, List.map_append]; rfl
theorem map_set {l : List Px} {m : List Pv} (h : l.map Px.p = m) (k : Nat) (x : Px) : (l.set k x).map Px.p = m.set k x.p := by rw [← h, List.map_set]
theorem ShAt.set0 {e : TypeId} {d g last : Nat} {w : World} {v : Value} {l : List Px} (h : ShAt e d w g v last l) (n : Nat) : ShAt e d (w.setCell ⟨g, 0, none⟩ (.int .i64 ((n + d : Nat) : Int))) g v n l ∧ Only (foot g v l) w (w.setCell ⟨g, 0, none⟩ (.int .i64 ((n + d : Nat) : Int))) :=
  ⟨h.count n, (Only.refl _ _).setCell (p := ⟨g, 0, none⟩) (mem_foot.2 (.inl rfl)) _⟩

section
variable (g : Nat) (v : Value) (l : List Px) (s : Sv) (w : World) (h : ShAt eP 1 w g v s.last l) (hl : l.map Px.p = s.l)
include h hl
set_option maxRecDepth 20000 in
set_option maxHeartbeats 8000000 in
theorem sopen_any (k : Wt) (i : Int) (hn : s.l.length ≤ 100) (hla : s.last ≤ 1000000000) : Calls Try.prog 31 #[.pointer (some ⟨g, 0, none⟩), wV k, .int .i64 i] w fun e w' => e = .returned (.int .i64 ((s.last + 1 : Nat) : Int)) ∧ ShStep eP 1 w w' g (foot g v l) (openS k i s) := by
  obtain ⟨last, hlast⟩ : ∃ last, last = s.last + 1 := ⟨_, rfl⟩
  obtain ⟨w1, hw1⟩ : ∃ w1, w1 = w.alloc (.cells #[.string k.o, .string k.u, .bool k.c, .string k.m, .string k.s] 31) := ⟨_, rfl⟩
  obtain ⟨B1, hB1⟩ : ∃ B1, B1 = w.heap.size := ⟨_, rfl⟩
  have HOa : Hid (Only [] w w1) := by show Only _ _ _; rw [hw1]; exact (Only.refl _ _).alloc _
  have HXa : Hid (WtAt w1 B1 0 k) := by show WtAt _ _ _ _; rw [hw1, hB1]; exact WtAt.new _ _ _
  have HBL : Hid (B1 = w.heap.size) := hB1
  have HHa := Lib.hid (h.old HOa.out)
  have HLEN : Hid (l.length ≤ 100) := by show _ ≤ _; rw [map_len hl]; exact hn
  have HL := Lib.hid hl
  have HBF : Hid (B1 ∉ foot g v l) := by show _ ∉ _; intro hm; have := h.own hm; omega
  have HLA : Hid (openS k i s = ⟨last, s.l ++ [⟨last, k, [i]⟩]⟩) := by show _ = _; unfold openS; rw [hlast]
  obtain ⟨z, hz⟩ : ∃ z : Int, z = (last : Int) := ⟨_, rfl⟩
  have HZ := Lib.hid hz
  have HZB : Hid (0 ≤ z ∧ z ≤ 1000000001) := by show _ ∧ _; omega
  obtain ⟨w2, hw2⟩ : ∃ w2, w2 = w1.setCell ⟨g, 0, none⟩ (.int .i64 ((last + 1 : Nat) : Int)) := ⟨_, rfl⟩
  have HPb : Hid (ShAt eP 1 w2 g v last l) := by show ShAt _ _ _ _ _ _ _; rw [hw2]; exact (HHa.out.set0 last).1
  have HOb : Hid (Only (foot g v l) w w2) := by show Only _ _ _; rw [hw2]; exact (HOa.out.mono (by simp)).trans (HHa.out.set0 last).2
  have HXb : Hid (WtAt w2 B1 0 k) := by
    show WtAt _ _ _ _
    rw [hw2]
    exact HXa.out.only (s := [g]) ((Only.refl _ _).setCell (p := ⟨g, 0, none⟩) (by simp) _) (by have h1 := h.lt; simp; omega)
  have HSb : Hid (w.heap.size ≤ w2.heap.size) := HOb.out.size
  have hst := atAdd_any g 0 z 1 w1 (by rw [HHa.out.c0, hz, hlast]) HHa.out.z0 (by have := HZB.out; omega)
  rw [show z + 1 = ((last + 1 : Nat) : Int) by omega, ← hw2] at hst
  obtain ⟨A, cap, hv, hlc, hcm⟩ := h.row.slice
  unfold maxLen at hcm
  have hgl := h.lt
  have he : ((last + 1 : Nat) : Int) - 1 = z := by omega
  have HBN : Hid (B1 ∉ ownL v) := by show _ ∉ _; intro hm; exact HBF.out (mem_foot.2 (.inr (.inl hm)))
  have HBG : Hid (B1 ∉ [g]) := by show _ ∉ _; intro hm; simp at hm; subst hm; exact HBF.out (mem_foot.2 (.inl rfl))
  obtain ⟨N, hN⟩ : ∃ N, N = l.length := ⟨_, rfl⟩
  rw [← hN] at hv hlc
  subst hv
  rw [← hlast]
  have HGL1 : Hid (g < w1.heap.size) := HHa.out.lt
  have hgl1 := HGL1.out
  simp only [wV]
  obtain ⟨y, hy⟩ : ∃ y : Int, y = ((last + 1 : Nat) : Int) := ⟨_, rfl⟩
  rw [← hy] at hst he
  obtain ⟨zb1, zb2⟩ := HZB.out
  clear h hl hn hla hlast hz hw2 hN hy
  go_enter Try.func31, Try.ntmps31
  go_wp2_with fail
  rw [← hw1, ← hB1]
  clear hw1 hB1
  refine hst.mono ?_
  rintro e w2' ⟨rfl, hww⟩
  have hww' := hww.symm
  subst hww'
  clear hst
  obtain ⟨W0, hW0⟩ : ∃ W0, W0 = w2.drew := ⟨_, rfl⟩
  have HO0 : Hid (Only [] w2 W0) := by show Only _ _ _; rw [hW0]; exact (Only.refl _ _).drew
  have HQ0 := Lib.hid (HPb.out.old HO0.out)
  obtain ⟨W1, hW1⟩ : ∃ W1, W1 = W0.alloc (.cells #[.int .i64 i] 3) := ⟨_, rfl⟩
  obtain ⟨C1, hC1⟩ : ∃ C1, C1 = W0.heap.size := ⟨_, rfl⟩
  have HO1 : Hid (Only [] w2 W1) := by show Only _ _ _; rw [hW1]; exact HO0.out.alloc _
  have HI1 : Hid (IRow W1 (.slice (some ⟨C1, 0, none⟩) 1 1) [i]) := by show IRow _ _ _; rw [hW1, hC1]; exact IRow.one (heap_alloc_new _ _)
  have HCS : Hid (w2.heap.size ≤ C1 ∧ C1 < W1.heap.size) := by show _ ∧ _; rw [hC1, hW1]; exact ⟨HO0.out.size, by simp⟩
  obtain ⟨W2, hW2⟩ : ∃ W2, W2 = W1.alloc (.cells #[.int .i64 z, .string k.o, .string k.u, .bool k.c, .string k.m, .string k.s, .slice (some ⟨C1, 0, none⟩) 1 1] 71) := ⟨_, rfl⟩
  obtain ⟨C2, hC2⟩ : ∃ C2, C2 = W1.heap.size := ⟨_, rfl⟩
  obtain ⟨xn, hxn⟩ : ∃ xn : Px, xn = ⟨⟨last, k, [i]⟩, some ⟨C1, 0, none⟩, 1⟩ := ⟨_, rfl⟩
  have HO2 : Hid (Only [] w2 W2) := by show Only _ _ _; rw [hW2]; exact HO1.out.alloc _
  have HN2 : Hid (PxAt W2 C2 0 xn) := by show PxAt _ _ _ _; rw [hW2, hC2, HZ.out, hxn]; exact PxAt.new _ ⟨⟨last, k, [i]⟩, some ⟨C1, 0, none⟩, 1⟩ _
  have HI2 : Hid (IRow W2 (.slice (some ⟨C1, 0, none⟩) 1 1) [i]) := by show IRow _ _ _; rw [hW2]; exact HI1.out.old ((Only.refl _ _).alloc _)
  have HCS2 : Hid (C1 < W2.heap.size) := by show _ < _; rw [hW2]; have := HCS.out; simp; omega
  have HXN := Lib.hid hxn
  clear hxn
  have HQ2 := Lib.hid (HPb.out.old HO2.out)
  have hgl0 := HQ0.out.lt
  have HGL : Hid (g < w2.heap.size) := HPb.out.lt
  have HC01 : Hid (∀ W', Only [] w2 W' → W'.cell? ⟨g, 1, none⟩ = some (.slice A N cap) ∧ g < W'.heap.size) := by show ∀ W', _; intro W' ho; exact ⟨(HPb.out.old ho).c1, (HPb.out.old ho).lt⟩
  obtain ⟨F, hF⟩ : ∃ F : World → Prop, ∀ W, F W ↔ (WtAt W B1 0 k ) := ⟨_, fun _ => Iff.rfl⟩
  have hx0 : ∀ p : Held F, p.w.cell? ⟨B1, 0, none⟩ = some (.string k.o) := fun p => ((hF _).1 p.h).c0
  have hx1 : ∀ p : Held F, p.w.cell? ⟨B1, 1, none⟩ = some (.string k.u) := fun p => ((hF _).1 p.h).c1
  have hx2 : ∀ p : Held F, p.w.cell? ⟨B1, 2, none⟩ = some (.bool k.c) := fun p => ((hF _).1 p.h).c2
  have hx3 : ∀ p : Held F, p.w.cell? ⟨B1, 3, none⟩ = some (.string k.m) := fun p => ((hF _).1 p.h).c3
  have hx4 : ∀ p : Held F, p.w.cell? ⟨B1, 4, none⟩ = some (.string k.s) := fun p => ((hF _).1 p.h).c4
  have HFF : Hid (∀ W', Only (ownL (.slice A N cap)) w2 W' → F W') := by
    show ∀ W', _
    intro W' ho
    exact (hF _).2 (HXb.out.only ho HBN.out)
  have HFS : Hid (∀ W' u, F W' → F (W'.setCell ⟨g, 1, none⟩ u)) := by
    show ∀ W' u, _
    intro W' u hw
    have hw' := (hF _).1 hw
    refine (hF _).2 ?_
    exact (hw'.only (s := [g]) ((Only.refl _ _).setCell (p := ⟨g, 1, none⟩) (by simp) _) (by simpa using HBG.out))
  clear hF
  go_wp2_with fail
  refine mix_start F (by kernel_rfl) ?_
  rw [← hW0]
  clear hW0
  refine mix_seg [0, 1, 2, 3, 5, 6, 7] (by kernel_rfl) (HFF.out _ (HO0.out.mono (by simp))) ?_
  simp only [segOf, pickOps, pickOp]
  repeat (go_big_quiet_step (rfl))
  refine wpQuiet_nil ?_
  clear hx0 hx1 hx2 hx3 hx4
  refine mix_several [4, 8] (by kernel_rfl) ?_
  intro i1 hi1
  simp only [List.mem_cons, List.not_mem_nil, or_false] at hi1
  rcases hi1 with rfl | rfl
  · simp only [segOf, pickOps, pickOp]
    have hk0 := (HC01.out _ HO0.out).1
    have hk1 := (HC01.out _ HO0.out).2
    go_wp2_with fail
    refine MixPost.normal (HFF.out _ (HO0.out.mono (by simp))) ?_
    clear hk0 hk1
    refine mix_run 8 (by kernel_rfl) ?_
    simp only [segOf, pickOps, pickOp]
    go_wp2_with fail
    rw [← hW1, ← hC1]
    clear hW1 hC1
    refine MixPost.normal (HFF.out _ (HO1.out.mono (by simp))) ?_
    refine mix_seg [9] (by kernel_rfl) (HFF.out _ (HO1.out.mono (by simp))) ?_
    simp only [segOf, pickOps, pickOp]
    repeat (go_big_quiet_step (rfl))
    refine wpQuiet_nil ?_
    refine mix_run 10 (by kernel_rfl) ?_
    simp only [segOf, pickOps, pickOp]
    go_wp2_with fail
    rw [← hW2, ← hC2]
    clear hW2 hC2
    refine MixPost.normal (HFF.out _ (HO2.out.mono (by simp))) ?_
    refine mix_run 11 (by kernel_rfl) ?_
    simp only [segOf, pickOps, pickOp]
    refine wpList_append_pre rfl (.tmp 17) (.tmp 23) 62 71 rfl Try.underlying62 infoP _ l rfl HQ2.out.row C2 xn rfl HN2.out (by have := HLEN.out; omega) ?_
    intro g2 cap2 w4 hr4 ho4 hg4
    obtain ⟨v8, hv8⟩ : ∃ v8, v8 = Value.slice (some ⟨g2, 0, none⟩) (l.length + 1) cap2 := ⟨_, rfl⟩
    rw [← hv8] at hr4
    have HP8 := Lib.hid (HPb.out.pushed xn (by rw [HXN.out]; simp [ownL, Value.ownBlock]) HCS.out.1 HCS2.out HO2.out (by rw [HXN.out]; exact HI2.out) ho4.out hr4.out hg4.out hv8)
    have HO4 : Hid (Only (ownL (.slice A N cap)) w2 w4) := (HO2.out.mono (by simp)).trans ho4.out
    have hk2 : w4.cell? ⟨g, 1, none⟩ = some (.slice A N cap) := (HO4.out.cell (p := ⟨g, 1, none⟩) HPb.out.lt (foot_nodup.1 HPb.out.nd).1).trans HPb.out.c1
    have hk3 : w4.frozen? ⟨g, 1, none⟩ = false := (HO4.out.frozen (p := ⟨g, 1, none⟩) HPb.out.lt (foot_nodup.1 HPb.out.nd).1).trans HPb.out.z1
    have hk4 : g < w4.heap.size := Nat.lt_of_lt_of_le HPb.out.lt HO4.out.size
    have HF2 : Hid (F w4) := HFF.out _ HO4.out
    have HF3 : Hid (F (w4.setCell ⟨g, 1, none⟩ v8)) := HFS.out _ _ HF2.out
    obtain ⟨W5, hW5⟩ : ∃ W5, W5 = w4.setCell ⟨g, 1, none⟩ v8 := ⟨_, rfl⟩
    rw [← hW5] at HP8 HF3
    rw [hv8] at hW5
    clear hr4 ho4 hg4
    go_wp2_with fail
    refine MixPost.normal HF2.out ?_
    refine mix_seg [12, 13] (by kernel_rfl) HF2.out ?_
    simp only [segOf, pickOps, pickOp]
    repeat (go_big_quiet_step (rfl))
    refine wpQuiet_nil ?_
    refine mix_run 14 (by kernel_rfl) ?_
    simp only [segOf, pickOps, pickOp]
    go_wp2_with fail
    rw [← hW5]
    clear hW5 hk2 hk3 hk4
    refine MixPost.normal HF3.out ?_
    refine mix_done (by kernel_rfl) ?_
    go_wp2
    go_ret
    refine ⟨ret_int (by first | rfl | (rw [HZ.out]) | (rw [he]; exact HZ.out)), ?_⟩
    rw [HLA.out]
    refine ⟨v8, l ++ [xn], HP8.out.1, by rw [map_push HL.out, HXN.out], HOb.out.trans HP8.out.2.1, fun y hy => (HP8.out.2.2 y hy).imp id (Nat.le_trans HSb.out)⟩
  · simp only [segOf, pickOps, pickOp]
    go_wp2_with fail
    rw [← hW1, ← hC1]
    clear hW1 hC1
    refine MixPost.normal (HFF.out _ (HO1.out.mono (by simp))) ?_
    refine mix_seg [9] (by kernel_rfl) (HFF.out _ (HO1.out.mono (by simp))) ?_
    simp only [segOf, pickOps, pickOp]
    repeat (go_big_quiet_step (rfl))
    refine wpQuiet_nil ?_
    refine mix_several [4, 10] (by kernel_rfl) ?_
    intro i1 hi1
    simp only [List.mem_cons, List.not_mem_nil, or_false] at hi1
    rcases hi1 with rfl | rfl
    · simp only [segOf, pickOps, pickOp]
      have hk0 := (HC01.out _ HO1.out).1
      have hk1 := (HC01.out _ HO1.out).2
      go_wp2_with fail
      refine MixPost.normal (HFF.out _ (HO1.out.mono (by simp))) ?_
      clear hk0 hk1
      refine mix_run 10 (by kernel_rfl) ?_
      simp only [segOf, pickOps, pickOp]
      go_wp2_with fail
      rw [← hW2, ← hC2]
      clear hW2 hC2
      refine MixPost.normal (HFF.out _ (HO2.out.mono (by simp))) ?_
      refine mix_run 11 (by kernel_rfl) ?_
      simp only [segOf, pickOps, pickOp]
      refine wpList_append_pre rfl (.tmp 17) (.tmp 23) 62 71 rfl Try.underlying62 infoP _ l rfl HQ2.out.row C2 xn rfl HN2.out (by have := HLEN.out; omega) ?_
      intro g2 cap2 w4 hr4 ho4 hg4
      obtain ⟨v8, hv8⟩ : ∃ v8, v8 = Value.slice (some ⟨g2, 0, none⟩) (l.length + 1) cap2 := ⟨_, rfl⟩
      rw [← hv8] at hr4
      have HP8 := Lib.hid (HPb.out.pushed xn (by rw [HXN.out]; simp [ownL, Value.ownBlock]) HCS.out.1 HCS2.out HO2.out (by rw [HXN.out]; exact HI2.out) ho4.out hr4.out hg4.out hv8)
      have HO4 : Hid (Only (ownL (.slice A N cap)) w2 w4) := (HO2.out.mono (by simp)).trans ho4.out
      have hk2 : w4.cell? ⟨g, 1, none⟩ = some (.slice A N cap) := (HO4.out.cell (p := ⟨g, 1, none⟩) HPb.out.lt (foot_nodup.1 HPb.out.nd).1).trans HPb.out.c1
      have hk3 : w4.frozen? ⟨g, 1, none⟩ = false := (HO4.out.frozen (p := ⟨g, 1, none⟩) HPb.out.lt (foot_nodup.1 HPb.out.nd).1).trans HPb.out.z1
      have hk4 : g < w4.heap.size := Nat.lt_of_lt_of_le HPb.out.lt HO4.out.size
      have HF2 : Hid (F w4) := HFF.out _ HO4.out
      have HF3 : Hid (F (w4.setCell ⟨g, 1, none⟩ v8)) := HFS.out _ _ HF2.out
      obtain ⟨W5, hW5⟩ : ∃ W5, W5 = w4.setCell ⟨g, 1, none⟩ v8 := ⟨_, rfl⟩
      rw [← hW5] at HP8 HF3
      rw [hv8] at hW5
      clear hr4 ho4 hg4
      go_wp2_with fail
      refine MixPost.normal HF2.out ?_
      refine mix_seg [12, 13] (by kernel_rfl) HF2.out ?_
      simp only [segOf, pickOps, pickOp]
      repeat (go_big_quiet_step (rfl))
      refine wpQuiet_nil ?_
      refine mix_run 14 (by kernel_rfl) ?_
      simp only [segOf, pickOps, pickOp]
      go_wp2_with fail
      rw [← hW5]
      clear hW5 hk2 hk3 hk4
      refine MixPost.normal HF3.out ?_
      refine mix_done (by kernel_rfl) ?_
      go_wp2
      go_ret
      refine ⟨ret_int (by first | rfl | (rw [HZ.out]) | (rw [he]; exact HZ.out)), ?_⟩
      rw [HLA.out]
      refine ⟨v8, l ++ [xn], HP8.out.1, by rw [map_push HL.out, HXN.out], HOb.out.trans HP8.out.2.1, fun y hy => (HP8.out.2.2 y hy).imp id (Nat.le_trans HSb.out)⟩
    · simp only [segOf, pickOps, pickOp]
      go_wp2_with fail
      rw [← hW2, ← hC2]
      clear hW2 hC2
      refine MixPost.normal (HFF.out _ (HO2.out.mono (by simp))) ?_
      refine mix_run 4 (by kernel_rfl) ?_
      simp only [segOf, pickOps, pickOp]
      have hk0 := (HC01.out _ HO2.out).1
      have hk1 := (HC01.out _ HO2.out).2
      go_wp2_with fail
      refine MixPost.normal (HFF.out _ (HO2.out.mono (by simp))) ?_
      clear hk0 hk1
      refine mix_run 11 (by kernel_rfl) ?_
      simp only [segOf, pickOps, pickOp]
      refine wpList_append_pre rfl (.tmp 17) (.tmp 23) 62 71 rfl Try.underlying62 infoP _ l rfl HQ2.out.row C2 xn rfl HN2.out (by have := HLEN.out; omega) ?_
      intro g2 cap2 w4 hr4 ho4 hg4
      obtain ⟨v8, hv8⟩ : ∃ v8, v8 = Value.slice (some ⟨g2, 0, none⟩) (l.length + 1) cap2 := ⟨_, rfl⟩
      rw [← hv8] at hr4
      have HP8 := Lib.hid (HPb.out.pushed xn (by rw [HXN.out]; simp [ownL, Value.ownBlock]) HCS.out.1 HCS2.out HO2.out (by rw [HXN.out]; exact HI2.out) ho4.out hr4.out hg4.out hv8)
      have HO4 : Hid (Only (ownL (.slice A N cap)) w2 w4) := (HO2.out.mono (by simp)).trans ho4.out
      have hk2 : w4.cell? ⟨g, 1, none⟩ = some (.slice A N cap) := (HO4.out.cell (p := ⟨g, 1, none⟩) HPb.out.lt (foot_nodup.1 HPb.out.nd).1).trans HPb.out.c1
      have hk3 : w4.frozen? ⟨g, 1, none⟩ = false := (HO4.out.frozen (p := ⟨g, 1, none⟩) HPb.out.lt (foot_nodup.1 HPb.out.nd).1).trans HPb.out.z1
      have hk4 : g < w4.heap.size := Nat.lt_of_lt_of_le HPb.out.lt HO4.out.size
      have HF2 : Hid (F w4) := HFF.out _ HO4.out
      have HF3 : Hid (F (w4.setCell ⟨g, 1, none⟩ v8)) := HFS.out _ _ HF2.out
      obtain ⟨W5, hW5⟩ : ∃ W5, W5 = w4.setCell ⟨g, 1, none⟩ v8 := ⟨_, rfl⟩
      rw [← hW5] at HP8 HF3
      rw [hv8] at hW5
      clear hr4 ho4 hg4
      go_wp2_with fail
      refine MixPost.normal HF2.out ?_
      refine mix_seg [12, 13] (by kernel_rfl) HF2.out ?_
      simp only [segOf, pickOps, pickOp]
      repeat (go_big_quiet_step (rfl))
      refine wpQuiet_nil ?_
      refine mix_run 14 (by kernel_rfl) ?_
      simp only [segOf, pickOps, pickOp]
      go_wp2_with fail
      rw [← hW5]
      clear hW5 hk2 hk3 hk4
      refine MixPost.normal HF3.out ?_
      refine mix_done (by kernel_rfl) ?_
      go_wp2
      go_ret
      refine ⟨ret_int (by first | rfl | (rw [HZ.out]) | (rw [he]; exact HZ.out)), ?_⟩
      rw [HLA.out]
      refine ⟨v8, l ++ [xn], HP8.out.1, by rw [map_push HL.out, HXN.out], HOb.out.trans HP8.out.2.1, fun y hy => (HP8.out.2.2 y hy).imp id (Nat.le_trans HSb.out)⟩
end
end Go.Proofs.Ytcljmdpnbfefbaa
