/-
  The walk of the law StreamPlays: whatever comes and is read, it returns true, and nothing that was there has turned. Conditions: the calls lie where the slice says.
-/
import Derived.Test.YtaadffheadimpaaSRef2
import Derived.Test.YtaadffheadimpaaSRef3
import Derived.Test.YtaadffheadimpaaSStop
import Derived.Test.YtaadffheadimpaaSDeed
import Derived.Test.YtaadffheadimpaaSAwake
import Derived.Test.YtaadffheadimpaaKLow
import Derived.Deep.CutRange
import Derived.Deep.CutBlock
namespace Go.Proofs.Ytaadffheadimpaa
open Go.RowKit

theorem DArg.at_ {w : World} {a : Option Addr} {c : Nat} {xs : List Dd} (h : DArg w a c xs) {j : Nat} (hj : j < xs.length) :
    ∃ ad, a = some ad ∧ ad.block < w.heap.size ∧ w.cell? (ad.add (j * 3)) = some (.int .i64 xs[j].1) ∧ w.cell? ⟨(ad.add (j * 3)).block, (ad.add (j * 3)).off + 1, none⟩ = some (.int .i64 xs[j].2.1) ∧ w.cell? ⟨(ad.add (j * 3)).block, (ad.add (j * 3)).off + 2, none⟩ = some (.slice xs[j].2.2.at_ xs[j].2.2.l.length xs[j].2.2.cap) :=
  h.1 j xs[j] (List.getElem?_eq_getElem hj)
/-- the cells of a call that was read -/
structure CallAt (w : World) (g : Nat) (o n : Int) (A : Option Addr) (bl cap : Nat) : Prop where
  c0 : w.cell? ⟨g, 0, none⟩ = some (.int .i64 o)
  c1 : w.cell? ⟨g, 1, none⟩ = some (.int .i64 n)
  c2 : w.cell? ⟨g, 2, none⟩ = some (.slice A bl cap)
theorem CallAt.lt {w : World} {g : Nat} {o n : Int} {A : Option Addr} {bl cap : Nat} (h : CallAt w g o n A bl cap) : g < w.heap.size := block_of_cell (a := ⟨g, 0, none⟩) h.c0
theorem CallAt.only {f : List Nat} {w w' : World} {g : Nat} {o n : Int} {A : Option Addr} {bl cap : Nat} (h : CallAt w g o n A bl cap) (k : Only f w w') (hn : g ∉ f) : CallAt w' g o n A bl cap :=
  ⟨(k.cell (p := ⟨g, 0, none⟩) h.lt hn).trans h.c0, (k.cell (p := ⟨g, 1, none⟩) h.lt hn).trans h.c1, (k.cell (p := ⟨g, 2, none⟩) h.lt hn).trans h.c2⟩
/-- what holds at the head of a round: both streams are alike -/
structure BothAt (w W : World) (g gr gd gm H L : Nat) (s : Sv) : Prop where
  r : StAt W g gr gd H L s
  m : MsAt W gm H L s
  b : Only [g, gr, gd, gm] w W
theorem BothAt.old {w W W' : World} {g gr gd gm H L : Nat} {s : Sv} (h : BothAt w W g gr gd gm H L s) (o : Only [] W W') : BothAt w W' g gr gd gm H L s := ⟨h.r.old o, h.m.old o, h.b.trans (o.mono (by simp))⟩

set_option maxRecDepth 20000 in
set_option maxHeartbeats 8000000 in
theorem walk_StreamPlays (a0 a1 : Int) (a2 : Option Addr) (c2 : Nat) (x2 : List Dd) (w : World) (_h0 : (Lit.int .i64 a0).wf = true) (_h1 : (Lit.int .i64 a1).wf = true) (h2 : DArg w a2 c2 x2) :
    Calls Try.prog 3 #[.int .i64 a0, .int .i64 a1, .slice a2 x2.length c2] w fun e w' => e = .returned (.bool true) ∧ Below w.heap.size w w' := by
  clear _h0 _h1
  have H2 := Lib.hid h2
  have hl2 := h2.2.2.1
  have hm2 := h2.2.2.2
  unfold maxLen at hm2
  clear h2
  by_cases hb1 : 100 < x2.length
  · go_enter Try.func3, Try.ntmps3
    go_wp2_with fail
    refine (awake11_any _).mono ?_
    rintro e w' ⟨rfl, hb⟩
    go_wp2
    go_ret
    exact ⟨rfl, hb⟩
  obtain ⟨H, hH⟩ : ∃ H, H = clampH a0 := ⟨_, rfl⟩
  obtain ⟨L, hL⟩ : ∃ L, L = clampW (clampH a0) a1 := ⟨_, rfl⟩
  have HHE := Lib.hid hH
  have HLE := Lib.hid hL
  clear hH hL
  go_enter Try.func3, Try.ntmps3
  go_wp2_with fail
  refine (strNew_any a0 a1 w).mono ?_
  rintro e w1 ⟨g, gr, gd, rfl, hr1, ho1, hg1, hg2, hg3⟩
  rw [← HLE.out, ← HHE.out] at hr1
  have HR1 := Lib.hid hr1
  have HO1 := Lib.hid ho1
  obtain ⟨gm, hgm⟩ : ∃ gm, gm = w1.heap.size := ⟨_, rfl⟩
  have HG : Hid (w.heap.size ≤ g ∧ w.heap.size ≤ gr ∧ w.heap.size ≤ gd ∧ g < gm ∧ gr < gm ∧ gd < gm) := by show _ ∧ _; have := hr1.lt; omega
  clear hr1 ho1 hg1 hg2 hg3
  go_wp2_with fail
  refine (msNew_any a0 a1 w1).mono ?_
  rintro e w2 ⟨rfl, hm2', ho2⟩
  rw [← hgm] at hm2' ⊢
  rw [← HLE.out, ← HHE.out] at hm2'
  have HX2 : Hid (BothAt w w2 g gr gd gm H L ⟨1, false, []⟩) := ⟨HR1.out.old ho2, hm2', (HO1.out.trans ho2).mono (by simp)⟩
  clear hm2' ho2 hgm
  go_wp2_with fail
  go_loopw [9] (fun i wr => ∃ (k : Nat) (s : Sv), k ≤ x2.length ∧ i = .int .i64 k ∧ BothAt w wr g gr gd gm H L s) (fun i _ => x2.length - (intOf i).toNat)
  case atStart => exact ⟨0, _, by omega, rfl, HX2.out⟩
  case round =>
    obtain ⟨k, s, hk, rfl, hx⟩ := hrel
    have HX := Lib.hid hx
    clear hx HX2
    have HSB : Hid (∀ W, Only [g, gr, gd, gm] w W → Below w.heap.size w W) := by
      show ∀ W, _
      intro W h
      exact h.to_below (by have := HG.out; simp; omega)
    by_cases hlt : k < x2.length
    · obtain ⟨ad, e1, hB, hc0, hc1, hc2⟩ := H2.out.at_ hlt
      have HBL := HSB.out wr HX.out.b
      have hf0 := (HBL.cell (p := ad.add (k * 3)) (by rw [block_add]; exact hB)).trans hc0
      have hf1 : wr.cell? ⟨(ad.add (k * 3)).block, (ad.add (k * 3)).off + 1, none⟩ = _ := (HBL.cell (p := ⟨(ad.add (k * 3)).block, (ad.add (k * 3)).off + 1, none⟩) (by rw [block_add]; exact hB)).trans hc1
      have hf2 : wr.cell? ⟨(ad.add (k * 3)).block, (ad.add (k * 3)).off + 2, none⟩ = _ := (HBL.cell (p := ⟨(ad.add (k * 3)).block, (ad.add (k * 3)).off + 2, none⟩) (by rw [block_add]; exact hB)).trans hc2
      obtain ⟨x, hx⟩ : ∃ x, x = x2[k] := ⟨_, rfl⟩
      have HBS : Hid (BsAt w x.2.2) := by show BsAt _ _; rw [hx]; exact (H2.out.2.1 _ (List.getElem_mem hlt)).2.2
      rw [← hx] at hf0 hf1 hf2
      obtain ⟨xo, xn, ⟨A, cap, b⟩⟩ := x
      simp only at hf0 hf1 hf2 HBS
      clear hc0 hc1 hc2 hx hB HBL
      subst e1
      have HBN : Hid (A = none → cap = 0) := HBS.out.nil
      have HBR : Hid (b.length ≤ cap ∧ cap ≤ maxLen) := ⟨HBS.out.room, HBS.out.most⟩
      have HBA : Hid (∀ w' f, Only f w w' → (∀ y ∈ f, w.heap.size ≤ y) → BArg w' f A b) := HBS.out.lies
      obtain ⟨bl, hbl⟩ : ∃ bl, bl = b.length := ⟨_, rfl⟩
      rw [← hbl] at hf2
      have HBLE := Lib.hid hbl
      have hcm : cap ≤ 9223372036854775807 := HBR.out.2
      have hbc : bl ≤ cap := by rw [hbl]; exact HBR.out.1
      clear hbl HBS
      obtain ⟨W0, hW0⟩ : ∃ W0, W0 = wr.alloc (.cells #[.int .i64 xo, .int .i64 xn, .slice A bl cap] 30) := ⟨_, rfl⟩
      obtain ⟨gc, hgc⟩ : ∃ gc, gc = wr.heap.size := ⟨_, rfl⟩
      have HX0 : Hid (BothAt w W0 g gr gd gm H L s) := by show BothAt _ _ _ _ _ _ _ _ _; rw [hW0]; exact HX.out.old ((Only.refl _ _).alloc _)
      have HC0 : Hid (CallAt W0 gc xo xn A bl cap) := by show CallAt _ _ _ _ _ _ _; rw [hW0, hgc]; exact ⟨by simp, by simp, by simp⟩
      have HGC : Hid (gc ≠ g ∧ gc ≠ gr ∧ gc ≠ gd ∧ gc ≠ gm) := by show _ ∧ _; have h1 := HX.out.r.lt; have h2 := HX.out.m.lt; omega
      have HGE := Lib.hid hgc
      obtain ⟨q, hq⟩ : ∃ q : Nat, lowV xo 5 = (q : Int) := ⟨(lowV xo 5).toNat, by have := lowV_bd xo (n := 5) (by omega); omega⟩
      have hq4 : q < 5 := by have := lowV_bd xo (n := 5) (by omega); omega
      have HQ := Lib.hid hq
      clear hq hgc
      have d0 := HC0.out.c0
      have d2 := HC0.out.c2
      by_cases hb3 : 100 < bl
      · go_wp2_with fail
        rw [← hW0, ← HGE.out]
        clear hW0 hf0 hf1 hf2
        go_wp2_with fail
        refine (awake11_any _).mono ?_
        rintro e w' ⟨rfl, hb⟩
        have HBE := Lib.hid ((HSB.out W0 HX0.out.b).trans (hb.mono (HX0.out.b.size)))
        clear hb d0 d2
        go_wp2
        go_ret
        exact ⟨rfl, HBE.out⟩
      go_wp2_with fail
      rw [← hW0, ← HGE.out]
      clear hW0 hf0 hf1 hf2
      go_wp2_with fail
      refine (Low_any xo 5 W0 (by omega) (by omega)).mono ?_
      rintro e w' ⟨rfl, rfl⟩
      rw [HQ.out]
      clear d0 HQ
      go_upto_block 2 with fail
      go_cut [11] from 24 to 115 (fun s11 W => s11 = .bool true ∧ ∃ s', BothAt w W g gr gd gm H L s')
      case first =>
        match q, hq4 with
        | 0, _ =>
          go_wp2_with fail
          have HF0 : Hid (CallAt W0.drew gc xo xn A bl cap) := HC0.out.only ((Only.refl [] W0).drew) (by simp)
          refine mix_start (fun W => CallAt W gc xo xn A bl cap) (by kernel_rfl) ?_
          have hne : Nonempty (Held (fun W => CallAt W gc xo xn A bl cap)) := ⟨⟨W0.drew, HF0.out⟩⟩
          have hx2 : ∀ p : Held (fun W => CallAt W gc xo xn A bl cap), p.w.cell? ⟨gc, 2, none⟩ = some (.slice A bl cap) := fun p => p.h.c2
          clear d2
          refine mix_seg [0, 1, 2, 4, 5, 6] (by kernel_rfl) HF0.out ?_
          simp only [segOf, pickOps, pickOp]
          repeat (go_big_quiet_step (fail))
          refine wpQuiet_nil ?_
          clear hx2
          have HX1 := Lib.hid (HX0.out.old ((Only.refl [] W0).drew))
          obtain ⟨W1, hW1⟩ : ∃ W1, W1 = W0.drew := ⟨_, rfl⟩
          rw [← hW1] at HX1 HF0 ⊢
          clear hW1
          refine mix_run 3 (by kernel_rfl) ?_
          simp only [segOf, pickOps, pickOp]
          go_wp2_with fail
          refine (strChunk_any g gr gd H L s A bl cap b W1 HX1.out.r HBLE.out ((HBA.out W1 [g, gr, gd, gm] HX1.out.b (by have := HG.out; simp; omega)).mono (by simp)) HBR.out.1 HBR.out.2).mono ?_
          rintro e w3 ⟨rfl, hr3, ho3⟩
          have HR3 := Lib.hid hr3
          have HM3 := Lib.hid (HX1.out.m.only ho3 (by have := HG.out; simp; omega))
          have HO3 : Hid (Only [g, gr, gd, gm] w w3) := HX1.out.b.trans (ho3.mono (by simp))
          have HF3 := Lib.hid (HF0.out.only ho3 (by have := HGC.out; simp; omega))
          clear hr3 ho3
          go_wp2_with fail
          refine MixPost.normal HF3.out ?_
          refine mix_run 7 (by kernel_rfl) ?_
          simp only [segOf, pickOps, pickOp]
          go_wp2_with fail
          refine (msChunk_any gm H L s A bl cap b w3 HM3.out HBLE.out HBN.out ((HBA.out w3 [g, gr, gd, gm] HO3.out (by have := HG.out; simp; omega)).mono (by simp)) HBR.out.1 HBR.out.2).mono ?_
          rintro e w4 ⟨rfl, hm4, ho4⟩
          have HX4 : Hid (BothAt w w4 g gr gd gm H L (chunkS H s b)) := ⟨HR3.out.only ho4 (by have := HG.out; simp; omega) (by have := HG.out; simp; omega) (by have := HG.out; simp; omega), hm4, HO3.out.trans (ho4.mono (by simp))⟩
          have HF4 := Lib.hid (HF3.out.only ho4 (by have := HGC.out; simp; omega))
          clear hm4 ho4
          go_wp2_with fail
          refine MixPost.normal HF4.out ?_
          refine mix_seg [8, 9] (by kernel_rfl) HF4.out ?_
          simp only [segOf, pickOps, pickOp]
          repeat (go_big_quiet_step (fail))
          refine wpQuiet_nil ?_
          refine mix_done (by kernel_rfl) ?_
          clear hne
          go_wp2_with fail
          go_meet
          case rel => exact ⟨rfl, _, HX4.out⟩
        | 1, _ =>
          go_wp2_with fail
          have HF0 : Hid (CallAt W0.drew gc xo xn A bl cap) := HC0.out.only ((Only.refl [] W0).drew) (by simp)
          refine mix_start (fun W => CallAt W gc xo xn A bl cap) (by kernel_rfl) ?_
          have hne : Nonempty (Held (fun W => CallAt W gc xo xn A bl cap)) := ⟨⟨W0.drew, HF0.out⟩⟩
          have hx2 : ∀ p : Held (fun W => CallAt W gc xo xn A bl cap), p.w.cell? ⟨gc, 2, none⟩ = some (.slice A bl cap) := fun p => p.h.c2
          clear d2
          refine mix_seg [0, 1, 2, 4, 5, 6] (by kernel_rfl) HF0.out ?_
          simp only [segOf, pickOps, pickOp]
          repeat (go_big_quiet_step (fail))
          refine wpQuiet_nil ?_
          clear hx2
          have HX1 := Lib.hid (HX0.out.old ((Only.refl [] W0).drew))
          obtain ⟨W1, hW1⟩ : ∃ W1, W1 = W0.drew := ⟨_, rfl⟩
          rw [← hW1] at HX1 HF0 ⊢
          clear hW1
          refine mix_run 3 (by kernel_rfl) ?_
          simp only [segOf, pickOps, pickOp]
          go_wp2_with fail
          refine (strChunk_any g gr gd H L s A bl cap b W1 HX1.out.r HBLE.out ((HBA.out W1 [g, gr, gd, gm] HX1.out.b (by have := HG.out; simp; omega)).mono (by simp)) HBR.out.1 HBR.out.2).mono ?_
          rintro e w3 ⟨rfl, hr3, ho3⟩
          have HR3 := Lib.hid hr3
          have HM3 := Lib.hid (HX1.out.m.only ho3 (by have := HG.out; simp; omega))
          have HO3 : Hid (Only [g, gr, gd, gm] w w3) := HX1.out.b.trans (ho3.mono (by simp))
          have HF3 := Lib.hid (HF0.out.only ho3 (by have := HGC.out; simp; omega))
          clear hr3 ho3
          go_wp2_with fail
          refine MixPost.normal HF3.out ?_
          refine mix_run 7 (by kernel_rfl) ?_
          simp only [segOf, pickOps, pickOp]
          go_wp2_with fail
          refine (msChunk_any gm H L s A bl cap b w3 HM3.out HBLE.out HBN.out ((HBA.out w3 [g, gr, gd, gm] HO3.out (by have := HG.out; simp; omega)).mono (by simp)) HBR.out.1 HBR.out.2).mono ?_
          rintro e w4 ⟨rfl, hm4, ho4⟩
          have HX4 : Hid (BothAt w w4 g gr gd gm H L (chunkS H s b)) := ⟨HR3.out.only ho4 (by have := HG.out; simp; omega) (by have := HG.out; simp; omega) (by have := HG.out; simp; omega), hm4, HO3.out.trans (ho4.mono (by simp))⟩
          have HF4 := Lib.hid (HF3.out.only ho4 (by have := HGC.out; simp; omega))
          clear hm4 ho4
          go_wp2_with fail
          refine MixPost.normal HF4.out ?_
          refine mix_seg [8, 9] (by kernel_rfl) HF4.out ?_
          simp only [segOf, pickOps, pickOp]
          repeat (go_big_quiet_step (fail))
          refine wpQuiet_nil ?_
          refine mix_done (by kernel_rfl) ?_
          clear hne
          go_wp2_with fail
          go_meet
          case rel => exact ⟨rfl, _, HX4.out⟩
        | 2, _ =>
          go_wp2_with fail
          have HF0 : Hid (CallAt W0.drew gc xo xn A bl cap) := HC0.out.only ((Only.refl [] W0).drew) (by simp)
          refine mix_start (fun W => CallAt W gc xo xn A bl cap) (by kernel_rfl) ?_
          have hne : Nonempty (Held (fun W => CallAt W gc xo xn A bl cap)) := ⟨⟨W0.drew, HF0.out⟩⟩
          have hx2 : ∀ p : Held (fun W => CallAt W gc xo xn A bl cap), p.w.cell? ⟨gc, 1, none⟩ = some (.int .i64 xn) := fun p => p.h.c1
          clear d2
          refine mix_seg [0, 1, 2, 5, 6, 7] (by kernel_rfl) HF0.out ?_
          simp only [segOf, pickOps, pickOp]
          repeat (go_big_quiet_step (fail))
          refine wpQuiet_nil ?_
          clear hx2
          have HX1 := Lib.hid (HX0.out.old ((Only.refl [] W0).drew))
          obtain ⟨W1, hW1⟩ : ∃ W1, W1 = W0.drew := ⟨_, rfl⟩
          rw [← hW1] at HX1 HF0 ⊢
          clear hW1
          obtain ⟨X, hX⟩ : ∃ X, X = s.l.take (upto xn s.l) := ⟨_, rfl⟩
          obtain ⟨sb, hs⟩ : ∃ sb : ByteArray, sb = ⟨X.toArray⟩ := ⟨_, rfl⟩
          have HXE := Lib.hid hX
          have HSE := Lib.hid hs
          clear hX hs
          refine mix_run 3 (by kernel_rfl) ?_
          simp only [segOf, pickOps, pickOp]
          go_wp2_with fail
          refine (strRead_any g gr gd H L s xn W1 HX1.out.r).mono ?_
          rintro e w3 ⟨v3, rfl, hk3, hr3, ho3⟩
          rw [← HXE.out] at hk3
          have HR3 := Lib.hid hr3
          have HK3 := Lib.hid hk3
          have HM3 := Lib.hid (HX1.out.m.only ho3 (by have := HG.out; simp; omega))
          have HO3 : Hid (Only [g, gr, gd, gm] w w3) := HX1.out.b.trans (ho3.mono (by simp))
          have HF3 := Lib.hid (HF0.out.only ho3 (by have := HGC.out; simp; omega))
          have HL3 : Hid (∀ x ∈ ownL v3, x ∉ [gm]) := by
            show ∀ x ∈ _, _
            intro x hx
            have h1 := (HK3.out.own hx).1
            have h2 := HX1.out.m.lt
            simp
            omega
          have HV30 : Hid ((convert 28 9 v3).run Try.prog w3 = .ok (.string sb) w3) := by show _ = _; rw [HSE.out]; exact hk3.conv
          clear hr3 hk3 ho3
          go_wp2_with fail
          refine MixPost.normal HF3.out ?_
          refine mix_several [4, 8] (by kernel_rfl) ?_
          intro i hi'
          simp only [List.mem_cons, List.not_mem_nil, or_false] at hi'
          rcases hi' with rfl | rfl
          · simp only [segOf, pickOps, pickOp]
            have hcv := HV30.out
            go_wp2_with fail
            clear hcv
            refine MixPost.normal HF3.out ?_
            refine mix_run 8 (by kernel_rfl) ?_
            simp only [segOf, pickOps, pickOp]
            go_wp2_with fail
            refine (msRead_any gm H L s xn w3 HM3.out).mono ?_
            rintro e w4 ⟨v4, rfl, hk4, hm4, ho4⟩
            rw [← HXE.out] at hk4
            have HX4 : Hid (BothAt w w4 g gr gd gm H L (readS L s xn)) := ⟨HR3.out.only ho4 (by have := HG.out; simp; omega) (by have := HG.out; simp; omega) (by have := HG.out; simp; omega), hm4, HO3.out.trans (ho4.mono (by simp))⟩
            have HF4 := Lib.hid (HF3.out.only ho4 (by have := HGC.out; simp; omega))
            have HV3 : Hid ((convert 28 9 v3).run Try.prog w4 = .ok (.string sb) w4) := by show _ = _; rw [HSE.out]; exact (HK3.out.only ho4 HL3.out).conv
            have HV4 : Hid ((convert 28 9 v4).run Try.prog w4 = .ok (.string sb) w4) := by show _ = _; rw [HSE.out]; exact hk4.conv
            clear hk4 hm4 ho4
            go_wp2_with fail
            refine MixPost.normal HF4.out ?_
            refine mix_run 9 (by kernel_rfl) ?_
            simp only [segOf, pickOps, pickOp]
            have hcv := HV4.out
            go_wp2_with fail
            clear hcv
            refine MixPost.normal HF4.out ?_
            refine mix_seg [10, 11] (by kernel_rfl) HF4.out ?_
            simp only [segOf, pickOps, pickOp]
            repeat (go_big_quiet_step (fail))
            refine wpQuiet_nil ?_
            refine mix_done (by kernel_rfl) ?_
            clear hne
            go_wp2_with fail
            go_meet
            case rel => exact ⟨rfl, _, HX4.out⟩
          · simp only [segOf, pickOps, pickOp]
            go_wp2_with fail
            refine (msRead_any gm H L s xn w3 HM3.out).mono ?_
            rintro e w4 ⟨v4, rfl, hk4, hm4, ho4⟩
            rw [← HXE.out] at hk4
            have HX4 : Hid (BothAt w w4 g gr gd gm H L (readS L s xn)) := ⟨HR3.out.only ho4 (by have := HG.out; simp; omega) (by have := HG.out; simp; omega) (by have := HG.out; simp; omega), hm4, HO3.out.trans (ho4.mono (by simp))⟩
            have HF4 := Lib.hid (HF3.out.only ho4 (by have := HGC.out; simp; omega))
            have HV3 : Hid ((convert 28 9 v3).run Try.prog w4 = .ok (.string sb) w4) := by show _ = _; rw [HSE.out]; exact (HK3.out.only ho4 HL3.out).conv
            have HV4 : Hid ((convert 28 9 v4).run Try.prog w4 = .ok (.string sb) w4) := by show _ = _; rw [HSE.out]; exact hk4.conv
            clear hk4 hm4 ho4
            go_wp2_with fail
            refine MixPost.normal HF4.out ?_
            refine mix_several [4, 9] (by kernel_rfl) ?_
            intro i hi'
            simp only [List.mem_cons, List.not_mem_nil, or_false] at hi'
            rcases hi' with rfl | rfl
            · simp only [segOf, pickOps, pickOp]
              have hcv := HV3.out
              go_wp2_with fail
              clear hcv
              refine MixPost.normal HF4.out ?_
              refine mix_run 9 (by kernel_rfl) ?_
              simp only [segOf, pickOps, pickOp]
              have hcv := HV4.out
              go_wp2_with fail
              clear hcv
              refine MixPost.normal HF4.out ?_
              refine mix_seg [10, 11] (by kernel_rfl) HF4.out ?_
              simp only [segOf, pickOps, pickOp]
              repeat (go_big_quiet_step (fail))
              refine wpQuiet_nil ?_
              refine mix_done (by kernel_rfl) ?_
              clear hne
              go_wp2_with fail
              go_meet
              case rel => exact ⟨rfl, _, HX4.out⟩
            · simp only [segOf, pickOps, pickOp]
              have hcv := HV4.out
              go_wp2_with fail
              clear hcv
              refine MixPost.normal HF4.out ?_
              refine mix_run 4 (by kernel_rfl) ?_
              simp only [segOf, pickOps, pickOp]
              have hcv := HV3.out
              go_wp2_with fail
              clear hcv
              refine MixPost.normal HF4.out ?_
              refine mix_seg [10, 11] (by kernel_rfl) HF4.out ?_
              simp only [segOf, pickOps, pickOp]
              repeat (go_big_quiet_step (fail))
              refine wpQuiet_nil ?_
              refine mix_done (by kernel_rfl) ?_
              clear hne
              go_wp2_with fail
              go_meet
              case rel => exact ⟨rfl, _, HX4.out⟩
        | 3, _ =>
          go_wp2_with fail
          refine (strEnd_any g gr gd H L s W0 HX0.out.r).mono ?_
          rintro e w3 ⟨rfl, hr3, ho3⟩
          have HR3 := Lib.hid hr3
          have HM3 := Lib.hid (HX0.out.m.only ho3 (by have := HG.out; simp; omega))
          have HO3 : Hid (Only [g, gr, gd, gm] w w3) := HX0.out.b.trans (ho3.mono (by simp))
          clear hr3 ho3 d2
          go_wp2_with fail
          refine (msEnd_any gm H L s w3 HM3.out).mono ?_
          rintro e w4 ⟨rfl, hm4, ho4⟩
          have HX4 : Hid (BothAt w w4 g gr gd gm H L (endS s)) := ⟨HR3.out.only ho4 (by have := HG.out; simp; omega) (by have := HG.out; simp; omega) (by have := HG.out; simp; omega), hm4, HO3.out.trans (ho4.mono (by simp))⟩
          clear hm4 ho4
          go_wp2_with fail
          go_meet
          case rel => exact ⟨rfl, _, HX4.out⟩
        | 4, _ =>
          go_wp2_with fail
          refine (strStop_any g gr gd H L s W0 HX0.out.r).mono ?_
          rintro e w3 ⟨rfl, hr3, ho3⟩
          have HR3 := Lib.hid hr3
          have HM3 := Lib.hid (HX0.out.m.only ho3 (by have := HG.out; simp; omega))
          have HO3 : Hid (Only [g, gr, gd, gm] w w3) := HX0.out.b.trans (ho3.mono (by simp))
          clear hr3 ho3 d2
          go_wp2_with fail
          refine (msStop_any gm H L s w3 HM3.out).mono ?_
          rintro e w4 ⟨rfl, hm4, ho4⟩
          have HX4 : Hid (BothAt w w4 g gr gd gm H L (stopS s)) := ⟨HR3.out.only ho4 (by have := HG.out; simp; omega) (by have := HG.out; simp; omega) (by have := HG.out; simp; omega), hm4, HO3.out.trans (ho4.mono (by simp))⟩
          clear hm4 ho4
          go_wp2_with fail
          go_meet
          case rel => exact ⟨rfl, _, HX4.out⟩
      case rest =>
        obtain ⟨rfl, s', hx'⟩ := hcut
        have HX5 := Lib.hid hx'
        obtain ⟨vm, hvm⟩ := hx'.m.i
        obtain ⟨Am, capm, hs, _, hcm2⟩ := hvm.row.slice
        subst hs
        have HVM := Lib.hid hvm
        have HX6 := Lib.hid (hx'.old ((Only.refl [] wc).drew))
        obtain ⟨st, p, l⟩ := s'
        simp only at HVM
        have hfit : l.length ≤ H + 63 := hx'.r.ok.fits
        have hH2 : H ≤ 1024 := hx'.r.ok.h2
        obtain ⟨ov, hov⟩ : ∃ ov, ov = overC ⟨st, p, l⟩ := ⟨_, rfl⟩
        have HOV := Lib.hid hov
        clear hvm hx' hov
        obtain ⟨F, hF⟩ : ∃ F : World → Prop, ∀ W, F W ↔ MsIn W gm H L st p (.slice Am l.length capm) l := ⟨_, fun _ => Iff.rfl⟩
        obtain ⟨c, hc⟩ : ∃ c, c = l.length := ⟨_, rfl⟩
        have HCE := Lib.hid hc
        have HF5 : Hid (F wc.drew) := (hF _).2 (HVM.out.only ((Only.refl [] wc).drew) (by simp))
        have hx2 : ∀ p : Held F, p.w.cell? ⟨gm, 2, none⟩ = some (.int .i64 (st : Int)) := fun p => ((hF _).1 p.h).c2
        have hx3 : ∀ p : Held F, p.w.cell? ⟨gm, 3, none⟩ = some (.slice Am l.length capm) := fun p => ((hF _).1 p.h).c3
        have hx4 : ∀ q : Held F, q.w.cell? ⟨gm, 4, none⟩ = some (.bool p) := fun q => ((hF _).1 q.h).c4
        clear hF
        rw [← hc] at hx3 hfit
        clear hc
        go_wp2_with fail
        refine mix_start F (by kernel_rfl) ?_
        have hne : Nonempty (Held F) := ⟨⟨wc.drew, HF5.out⟩⟩
        refine mix_seg [0, 1, 2, 3, 5, 6, 7, 8] (by kernel_rfl) HF5.out ?_
        simp only [segOf, pickOps, pickOp]
        repeat (go_big_quiet_step (fail))
        refine wpQuiet_nil ?_
        obtain ⟨w5, hw5⟩ : ∃ w5, w5 = wc.drew := ⟨_, rfl⟩
        rw [← hw5] at HX6 HF5 ⊢
        clear hw5
        refine mix_run 4 (by kernel_rfl) ?_
        simp only [segOf, pickOps, pickOp]
        go_wp2_with fail
        refine (strState_any g gr gd H L _ w5 HX6.out.r).mono ?_
        rintro e w' ⟨rfl, rfl⟩
        go_wp2_with fail
        refine MixPost.normal HF5.out ?_
        refine mix_seg [9, 10, 11, 12, 14, 15, 16, 17, 18] (by kernel_rfl) HF5.out ?_
        simp only [segOf, pickOps, pickOp]
        repeat (go_big_quiet_step (fail))
        refine wpQuiet_nil ?_
        refine mix_run 13 (by kernel_rfl) ?_
        simp only [segOf, pickOps, pickOp]
        go_wp2_with fail
        refine (strLen_any g gr gd H L _ w5 HX6.out.r).mono ?_
        rintro e w' ⟨rfl, rfl⟩
        simp only [← HCE.out]
        go_wp2_with fail
        refine MixPost.normal HF5.out ?_
        refine mix_seg [19, 20, 21, 22, 24, 25, 26, 27] (by kernel_rfl) HF5.out ?_
        simp only [segOf, pickOps, pickOp]
        repeat (go_big_quiet_step (fail))
        refine wpQuiet_nil ?_
        refine mix_run 23 (by kernel_rfl) ?_
        simp only [segOf, pickOps, pickOp]
        go_wp2_with fail
        refine (strPaused_any g gr gd H L _ w5 HX6.out.r).mono ?_
        rintro e w' ⟨rfl, rfl⟩
        go_wp2_with fail
        refine MixPost.normal HF5.out ?_
        refine mix_seg [28, 29, 30, 31, 33] (by kernel_rfl) HF5.out ?_
        simp only [segOf, pickOps, pickOp]
        repeat (go_big_quiet_step (fail))
        refine wpQuiet_nil ?_
        refine mix_run 32 (by kernel_rfl) ?_
        simp only [segOf, pickOps, pickOp]
        go_wp2_with fail
        refine (strOver_any g gr gd H L _ w5 HX6.out.r).mono ?_
        rintro e w' ⟨rfl, rfl⟩
        rw [← HOV.out]
        go_wp2_with fail
        refine MixPost.normal HF5.out ?_
        refine mix_run 34 (by kernel_rfl) ?_
        simp only [segOf, pickOps, pickOp]
        go_wp2_with fail
        refine (msOver_any gm H L _ w5 HX6.out.m).mono ?_
        rintro e w' ⟨rfl, rfl⟩
        rw [← HOV.out]
        go_wp2_with fail
        refine MixPost.normal HF5.out ?_
        refine mix_seg [35, 36] (by kernel_rfl) HF5.out ?_
        simp only [segOf, pickOps, pickOp]
        repeat (go_big_quiet_step (fail))
        refine wpQuiet_nil ?_
        refine mix_done (by kernel_rfl) ?_
        clear hne hx2 hx3 hx4
        go_wp2_with fail
        go_roundw
        case rel => exact ⟨k + 1, _, by omega, by go_num, HX6.out⟩
        case measure => simp [intOf]; omega
    · have HBL := Lib.hid (HSB.out wr HX.out.b)
      have h8 : k = x2.length := by omega
      subst h8
      go_wp2_with fail
      refine (awake11_any _).mono ?_
      rintro e w' ⟨rfl, hb⟩
      have HBE := Lib.hid (HBL.out.trans (hb.mono HX.out.b.size))
      clear hb
      go_wp2
      go_ret
      exact ⟨rfl, HBE.out⟩
end Go.Proofs.Ytaadffheadimpaa
