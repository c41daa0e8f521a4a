/-
  The walk of the law PoolLimits: it returns true, and nothing that was there has turned. Conditions: the calls lie where the slice says.
-/
import Derived.Test.YtbnmldfiheffoaaQLim
import Derived.Test.YtbnmldfiheffoaaQDeed
import Derived.Test.YtbnmldfiheffoaaKPart
import Derived.Test.YtbnmldfiheffoaaKLow
import Derived.Deep.CutRange
namespace Go.Proofs.Ytbnmldfiheffoaa
open Go.RowKit

/-- a pool of the call's own, and the row of what was taken and not given -/
structure LimAt (w W : World) (g : Nat) (f : List Nat) (K m : Nat) (s : Pv) (v : Value) : Prop where
  p : PoNew w W g f s
  l : LimOk K m s
  r : IRow W v (connsL s.b)
  d : ∀ x ∈ ownL v, w.heap.size ≤ x ∧ x ∉ f
theorem connsL_len (l : List Cn) : (connsL l).length = l.length := by simp [connsL]
theorem connsL_at {l : List Cn} {i : Nat} (h : i < l.length) : (connsL l)[i]'(by rw [connsL_len]; exact h) = (l[i].n : Int) := by simp [connsL]
theorem DArg.at_ {w : World} {a : Option Addr} {c : Nat} {xs : List Dd} (h : DArg w a c xs) {j : Nat} (hj : j < xs.length) {W : World} (hb : Below w.heap.size w W) : ∃ ad : Addr, a = some ad ∧ ad.block < w.heap.size ∧
    W.cell? (ad.add (j * 5)) = some (.int .i64 xs[j].op) ∧ W.cell? ⟨(ad.add (j * 5)).block, (ad.add (j * 5)).off + 1, none⟩ = some (.int .i64 xs[j].n) ∧
    W.cell? ⟨(ad.add (j * 5)).block, (ad.add (j * 5)).off + 2, none⟩ = some (.string xs[j].key) ∧ W.cell? ⟨(ad.add (j * 5)).block, (ad.add (j * 5)).off + 3, none⟩ = some (.int .u64 xs[j].t) ∧
    W.cell? ⟨(ad.add (j * 5)).block, (ad.add (j * 5)).off + 4, none⟩ = some (.bool xs[j].keep) := by
  obtain ⟨ad, e, hB, c0, c1, c2, c3, c4⟩ := h.1 j xs[j] (List.getElem?_eq_getElem hj)
  have hB2 : (ad.add (j * 5)).block < w.heap.size := by rw [block_add]; exact hB
  exact ⟨ad, e, hB, (hb.cell (p := ad.add (j * 5)) hB2).trans c0, (hb.cell (p := ⟨(ad.add (j * 5)).block, (ad.add (j * 5)).off + 1, none⟩) hB2).trans c1, (hb.cell (p := ⟨(ad.add (j * 5)).block, (ad.add (j * 5)).off + 2, none⟩) hB2).trans c2,
    (hb.cell (p := ⟨(ad.add (j * 5)).block, (ad.add (j * 5)).off + 3, none⟩) hB2).trans c3, (hb.cell (p := ⟨(ad.add (j * 5)).block, (ad.add (j * 5)).off + 4, none⟩) hB2).trans c4⟩

set_option maxRecDepth 20000 in
set_option maxHeartbeats 8000000 in
theorem walk_PoolLimits (a0 : Int) (a1 : Option Addr) (c1 : Nat) (x1 : List Dd) (w : World) (_h0 : (Lit.int .i64 a0).wf = true) (h1 : DArg w a1 c1 x1) :
    Calls Try.prog 4 #[.int .i64 a0, .slice a1 x1.length c1] w fun e w' => e = .returned (.bool true) ∧ Below w.heap.size w w' := by
  clear _h0
  have H1 := Lib.hid h1
  have hl1 := h1.2.2.1
  have hm1 := h1.2.2.2
  unfold maxLen at hm1
  clear h1
  by_cases hb1 : 150 < x1.length
  · go_enter Try.func4, Try.ntmps4
    go_wp2_with fail
    refine (awake13_any _).mono ?_
    rintro e w' ⟨rfl, hb⟩
    go_wp2
    go_ret
    exact ⟨rfl, hb⟩
  obtain ⟨q, hq⟩ : ∃ q : Nat, lowV a0 32 = (q : Int) := ⟨(lowV a0 32).toNat, by have := lowV_bd a0 (n := 32) (by omega); omega⟩
  have hq32 : q < 32 := by have := lowV_bd a0 (n := 32) (by omega); omega
  obtain ⟨K, hK⟩ : ∃ K : Nat, K = q + 1 := ⟨_, rfl⟩
  have HQ := Lib.hid hq
  have HKE : Hid (1 + (q : Int) = (K : Int)) := by show _ = _; omega
  have hK1 : 1 ≤ K := by omega
  have hK32 : K ≤ 32 := by omega
  clear hq hK
  go_enter Try.func4, Try.ntmps4
  go_wp2_with fail
  refine (Low_any a0 32 w (by omega) (by omega)).mono ?_
  rintro e w1 ⟨rfl, rfl⟩
  rw [HQ.out]
  go_wp2_with fail
  rw [HKE.out]
  refine (nNew_any (K : Int) 5 (Below.refl _ w) (by omega)).mono ?_
  rintro e w1 ⟨g, f0, rfl, n0, _⟩
  rw [clampT_id hK1 hK32] at n0
  have N0 : Hid (LimAt w w1 g f0 K 0 ⟨K, 5, 0, [], [], []⟩ (.slice none 0 0)) := ⟨n0, LimOk.start hK1 hK32, IRow.nil, by intro x hx; simp [ownL, Value.ownBlock] at hx⟩
  clear n0
  go_wp2_with fail
  go_loopw [7, 8] (fun v i wr => ∃ (k : Nat) (f : List Nat) (s : Pv) (v' : Value), v' = v ∧ k ≤ x1.length ∧ i = .int .i64 (k : Int) ∧ LimAt w wr g f K k s v') (fun _ i _ => x1.length - (intOf i).toNat)
  case atStart => exact ⟨0, _, _, _, rfl, by omega, rfl, N0.out⟩
  case round =>
    obtain ⟨k, f, s, v', ev, hk, rfl, hx⟩ := hrel
    subst ev
    have HX := Lib.hid hx
    clear hx N0
    by_cases hlt : k < x1.length
    · have HAT : Hid (∀ W, Below w.heap.size w W → ∃ ad : Addr, a1 = some ad ∧ ad.block < w.heap.size ∧
        W.cell? (ad.add (k * 5)) = some (.int .i64 x1[k].op) ∧ W.cell? ⟨(ad.add (k * 5)).block, (ad.add (k * 5)).off + 1, none⟩ = some (.int .i64 x1[k].n) ∧
        W.cell? ⟨(ad.add (k * 5)).block, (ad.add (k * 5)).off + 2, none⟩ = some (.string x1[k].key) ∧ W.cell? ⟨(ad.add (k * 5)).block, (ad.add (k * 5)).off + 3, none⟩ = some (.int .u64 x1[k].t) ∧
        W.cell? ⟨(ad.add (k * 5)).block, (ad.add (k * 5)).off + 4, none⟩ = some (.bool x1[k].keep)) := fun W hb => H1.out.at_ hlt hb
      obtain ⟨x, hx⟩ : ∃ x, x = x1[k] := ⟨_, rfl⟩
      rw [← hx] at HAT
      clear hx
      obtain ⟨ad, e1, hadB, _⟩ := HAT.out wr HX.out.p.b
      subst e1
      have HDD : Hid (∀ W, Below w.heap.size w W → W.cell? (ad.add (k * 5)) = some (.int .i64 x.op) ∧ W.cell? ⟨(ad.add (k * 5)).block, (ad.add (k * 5)).off + 1, none⟩ = some (.int .i64 x.n) ∧ W.cell? ⟨(ad.add (k * 5)).block, (ad.add (k * 5)).off + 4, none⟩ = some (.bool x.keep)) := by
        show ∀ W, _
        intro W hb
        obtain ⟨ad2, e2, _, c0, c1, _, _, c4⟩ := HAT.out W hb
        injection e2 with e2
        subst e2
        exact ⟨c0, c1, c4⟩
      have HADB : Hid ((ad.add (k * 5)).block < w.heap.size) := by show _ < _; rw [block_add]; exact hadB
      clear hadB HAT
      obtain ⟨d0, d1, _⟩ := HDD.out wr HX.out.p.b
      obtain ⟨m, hm⟩ : ∃ m : Nat, lowV x.n 4 = (m : Int) := ⟨(lowV x.n 4).toNat, by have := lowV_bd x.n (n := 4) (by omega); omega⟩
      have hm4 : m < 4 := by have := lowV_bd x.n (n := 4) (by omega); omega
      have HM := Lib.hid hm
      obtain ⟨r, hr⟩ : ∃ r : Nat, lowV x.op 3 = (r : Int) := ⟨(lowV x.op 3).toNat, by have := lowV_bd x.op (n := 3) (by omega); omega⟩
      have HRR := Lib.hid hr
      clear hm hr
      have hix := fun W => idx4 hm4 W
      obtain ⟨X, hX⟩ : ∃ X, X = kE m := ⟨_, rfl⟩
      rw [← hX] at hix
      have HXK := Lib.hid hX
      clear hX
      go_wp2_with fail
      refine (Low_any x.n 4 wr (by omega) (by omega)).mono ?_
      rintro e w2 ⟨rfl, rfl⟩
      rw [HM.out]
      go_wp2_with fail
      refine (Low_any x.op 3 wr (by omega) (by omega)).mono ?_
      rintro e w2 ⟨rfl, rfl⟩
      rw [HRR.out]
      clear d0 hix
      go_upto_if 46 with fail
      go_cut [7] from 46 to 107 (fun v7 W => ∃ (f2 : List Nat) (s2 : Pv) (v2 : Value), v2 = v7 ∧ LimAt w W g f2 K (k + 1) s2 v2)
      case first =>
        by_cases h2 : r < 2
        · have HC : Hid (canP s X = canP s X) := rfl
          go_wp2_with fail
          refine (nCan_any X HX.out.p).mono ?_
          rintro e w3 ⟨rfl, n3, o3⟩
          have N3 := Lib.hid n3
          have R3 := Lib.hid (HX.out.r.old o3)
          obtain ⟨c, hc⟩ : ∃ c, c = canP s X := ⟨_, rfl⟩
          rw [← hc]
          have HCC := Lib.hid hc
          clear n3 o3 hc d1 HC
          go_wp2_with fail
          refine (nTake_any X 3 N3.out (by have := HX.out.l.last; omega)).mono ?_
          rintro e w4 ⟨rfl, f4, n4, o4, m4⟩
          cases c with
          | true =>
            have LT : Hid (takeC X s = 0 ∧ LimOk K (k + 1) (takeS X 3 s) ∧ connsL (takeS X 3 s).b = connsL s.b ++ [(takeN X 3 s : Int)]) := by
              show _ ∧ _ ∧ _
              have h3 := HCC.out.symm
              rw [HXK.out] at h3 ⊢
              exact HX.out.l.take hm4 3 h3
            rw [LT.out.1]
            obtain ⟨N, hN⟩ : ∃ N, N = takeN X 3 s := ⟨_, rfl⟩
            obtain ⟨Fb, hFb⟩ : ∃ Fb, Fb = takeF X 3 s := ⟨_, rfl⟩
            obtain ⟨s4, hs4⟩ : ∃ s4, s4 = takeS X 3 s := ⟨_, rfl⟩
            rw [← hN, ← hFb]
            rw [← hN, ← hs4] at LT
            rw [← hs4] at n4
            have N4 := Lib.hid n4
            have R4 : Hid (IRow w4 v' (connsL s.b)) := R3.out.only o4 (fun x hx => (HX.out.d x hx).2)
            have D4 : Hid (∀ x ∈ ownL v', w.heap.size ≤ x ∧ x ∉ f4) := by
              show ∀ x ∈ _, _
              intro x hx
              refine ⟨(HX.out.d x hx).1, fun hm => ?_⟩
              rcases m4 x hm with h3 | h3
              · exact (HX.out.d x hx).2 h3
              · exact absurd (R3.out.own hx) (Nat.not_lt.2 h3)
            clear n4 o4 m4 hN hFb hs4
            obtain ⟨W5, hW5⟩ : ∃ W5, W5 = w4.alloc (.cells #[.int .i64 (N : Int)] 3) := ⟨_, rfl⟩
            obtain ⟨B5, hB5⟩ : ∃ B5, B5 = w4.heap.size := ⟨_, rfl⟩
            have HO5 : Hid (Only [] w4 W5) := by show Only _ _ _; rw [hW5]; exact (Only.refl _ _).alloc _
            have HC5 : Hid (W5.cell? ⟨B5, 0, none⟩ = some (.int .i64 (N : Int))) := by show _ = _; rw [hW5, hB5]; simp
            have N5 := Lib.hid (N4.out.old HO5.out)
            have R5 := Lib.hid (R4.out.old HO5.out)
            obtain ⟨Av, cv, ev, _, _⟩ := R5.out.slice
            subst ev
            go_wp2_with (at_builtin; rw [← hW5, ← hB5]; refine wpList_append_int rfl (.tmp 63) (.tmp 65) rfl _ (connsL s.b) rfl R5.out B5 (N : Int) rfl HC5.out (by rw [connsL_len]; have := HX.out.l.ok.len; have := HX.out.l.ok.t2; omega) ?_)
            intro g6 cap6 w6 hr6 ho6 hg6
            rw [← hW5] at ho6
            have HS5 : Hid (W5.heap.size = w4.heap.size + 1) := by show _ = _; rw [hW5]; simp
            clear hW5 hB5
            have HL6 : Hid (LimAt w w6 g f4 K (k + 1) s4 (.slice (some ⟨g6, 0, none⟩) ((connsL s.b).length + 1) cap6)) := by
              show LimAt _ _ _ _ _ _ _ _
              refine ⟨N5.out.off ho6.out (fun x hx => D4.out x hx), LT.out.2.1, by rw [LT.out.2.2]; exact hr6.out, ?_⟩
              intro x hx
              simp [ownL, Value.ownBlock] at hx
              subst hx
              rcases hg6.out with h3 | h3
              · exact D4.out _ h3
              · refine ⟨by have := N5.out.b.size; have := HS5.out; omega, fun hm => ?_⟩
                have := N4.out.p.lt hm
                have := HS5.out
                have := HO5.out.size
                omega
            clear hr6 ho6 hg6
            go_wp2_with fail
            go_meet
            case rel => exact ⟨_, _, _, rfl, HL6.out⟩
          | false =>
            obtain ⟨e1, e2, e3, e4⟩ := take_no (now := 3) HCC.out.symm
            rw [e1, e3, e4]
            rw [e2] at n4
            have HL6 : Hid (LimAt w w4 g f4 K (k + 1) s v') := by
              show LimAt _ _ _ _ _ _ _ _
              refine ⟨n4, HX.out.l.more (by omega), R3.out.only o4 (fun x hx => (HX.out.d x hx).2), ?_⟩
              intro x hx
              refine ⟨(HX.out.d x hx).1, fun hm => ?_⟩
              rcases m4 x hm with h3 | h3
              · exact (HX.out.d x hx).2 h3
              · exact absurd (R3.out.own hx) (Nat.not_lt.2 h3)
            clear n4 o4 m4 e1 e2 e3 e4
            go_wp2_with fail
            go_meet
            case rel => exact ⟨_, _, _, rfl, HL6.out⟩
        · obtain ⟨Av, cv, ev, hcl, hcv⟩ := HX.out.r.slice
          unfold maxLen at hcv
          rw [connsL_len] at ev hcl
          subst ev
          have hr2 : ¬ (r : Int) < 2 := by omega
          by_cases h0 : s.b.length = 0
          · have HL6 : Hid (LimAt w wr g f K (k + 1) s (.slice Av 0 cv)) := by
              show LimAt _ _ _ _ _ _ _ _
              have h3 := HX.out
              rw [h0] at h3
              exact ⟨h3.p, h3.l.more (by omega), h3.r, h3.d⟩
            have h0i : ((s.b.length : Nat) : Int) = 0 := by omega
            have hgt : ¬ (0 : Int) < (s.b.length : Int) := by omega
            clear d1
            go_wp2_with fail
            go_meet
            case rel => exact ⟨_, _, _, rfl, HL6.out⟩
          · have hgt : (0 : Int) < (s.b.length : Int) := by omega
            have hbl : s.b.length ≤ 32 := by have := HX.out.l.ok.len; have := HX.out.l.ok.t2; omega
            obtain ⟨n, hn⟩ : ∃ n : Nat, lowV x.n (s.b.length : Int) = (n : Int) := ⟨(lowV x.n (s.b.length : Int)).toNat, by have := lowV_bd x.n (n := (s.b.length : Int)) (by omega); omega⟩
            have hnl : n < s.b.length := by have := lowV_bd x.n (n := (s.b.length : Int)) (by omega); omega
            have HN := Lib.hid hn
            clear hn
            have LG := Lib.hid (HX.out.l.give hnl 3 x.keep)
            have LG2 : Hid (giveC (s.b[n].n : Int) (giveS (s.b[n].n : Int) 3 x.keep s) = 11 ∧ giveS (s.b[n].n : Int) 3 true (giveS (s.b[n].n : Int) 3 x.keep s) = giveS (s.b[n].n : Int) 3 x.keep s) := LG.out.2.2.2 3 true
            go_wp2_with fail
            refine (Low_any x.n (s.b.length : Int) wr (by omega) (by omega)).mono ?_
            rintro e w3 ⟨rfl, rfl⟩
            rw [HN.out]
            clear d1
            obtain ⟨gi, e2, hci⟩ := HX.out.r.at_ (connsL_len s.b).symm (k := n) (by rw [connsL_len]; exact hnl)
            subst e2
            rw [connsL_at hnl] at hci
            obtain ⟨y, hy⟩ : ∃ y, y = s.b[n].n := ⟨_, rfl⟩
            rw [← hy] at hci LG LG2
            clear hy
            have HGI : Hid (w.heap.size ≤ gi ∧ gi ∉ f) := HX.out.d gi (by simp [ownL, Value.ownBlock])
            have HFF : Hid (∀ W, Only f wr W → W.cell? ⟨gi, n, none⟩ = some (.int .i64 (y : Int)) ∧ W.cell? ⟨(ad.add (k * 5)).block, (ad.add (k * 5)).off + 4, none⟩ = some (.bool x.keep)) := by
              show ∀ W, _
              intro W ho
              have d4 := (HDD.out wr HX.out.p.b).2.2
              refine ⟨(ho.cell (p := ⟨gi, n, none⟩) (block_of_cell (a := ⟨gi, n, none⟩) hci) HGI.out.2).trans hci, (ho.cell (p := ⟨(ad.add (k * 5)).block, (ad.add (k * 5)).off + 4, none⟩) (block_of_cell (a := ⟨(ad.add (k * 5)).block, (ad.add (k * 5)).off + 4, none⟩) d4) ?_).trans d4⟩
              intro hm
              have h3 := HX.out.p.n _ hm
              have h4 := HADB.out
              exact absurd h4 (Nat.not_lt.2 h3)
            obtain ⟨F, hF⟩ : ∃ F : World → Prop, ∀ W, F W ↔ (W.cell? ⟨gi, n, none⟩ = some (.int .i64 (y : Int)) ∧ W.cell? ⟨(ad.add (k * 5)).block, (ad.add (k * 5)).off + 4, none⟩ = some (.bool x.keep)) := ⟨_, fun _ => Iff.rfl⟩
            have hx1 : ∀ p : Held F, p.w.cell? ⟨gi, n, none⟩ = some (.int .i64 (y : Int)) := fun p => ((hF _).1 p.h).1
            have hx2 : ∀ p : Held F, p.w.cell? ⟨(ad.add (k * 5)).block, (ad.add (k * 5)).off + 4, none⟩ = some (.bool x.keep) := fun p => ((hF _).1 p.h).2
            have HFO : Hid (∀ W, Only f wr W → F W) := by show ∀ W, _; intro W ho; exact (hF _).2 (HFF.out W ho)
            clear hF hci
            obtain ⟨W0, hW0⟩ : ∃ W0, W0 = wr.drew := ⟨_, rfl⟩
            have HO0 : Hid (Only [] wr W0) := by show Only _ _ _; rw [hW0]; exact (Only.refl _ _).drew
            have N0 := Lib.hid (HX.out.p.old HO0.out)
            have HW0 : Hid (F W0) := HFO.out W0 (HO0.out.mono (by simp))
            go_wp2_with fail
            refine mix_start F (by kernel_rfl) ?_
            rw [← hW0]
            clear hW0
            refine mix_seg [0, 1, 2, 3, 4, 5, 6, 7, 8, 9] (by kernel_rfl) HW0.out ?_
            simp only [segOf, pickOps, pickOp]
            repeat (go_big_quiet_step (rfl))
            refine wpQuiet_nil ?_
            refine mix_run 10 (by kernel_rfl) ?_
            simp only [segOf, pickOps, pickOp]
            go_wp2_with fail
            refine (nGive_any (y : Int) 3 x.keep N0.out (by omega)).mono ?_
            rintro e w3 ⟨rfl, f3, n3, o3, m3⟩
            rw [LG.out.1]
            obtain ⟨s3, hs3⟩ : ∃ s3, s3 = giveS (y : Int) 3 x.keep s := ⟨_, rfl⟩
            rw [← hs3] at n3 LG LG2
            clear hs3
            have N3 := Lib.hid n3
            have HO3 : Hid (Only f wr w3) := (HO0.out.mono (by simp)).trans o3
            have HM3 : Hid (More wr.heap.size f f3) := fun z hz => by rcases m3 z hz with h3 | h3; exact .inl h3; exact .inr (Nat.le_trans HO0.out.size h3)
            have HW3 : Hid (F w3) := HFO.out w3 HO3.out
            clear n3 o3 m3
            go_wp2_with fail
            refine MixPost.normal HW3.out ?_
            refine mix_seg [11, 12, 13, 14, 15, 16, 17] (by kernel_rfl) HW3.out ?_
            simp only [segOf, pickOps, pickOp]
            repeat (go_big_quiet_step (rfl))
            refine wpQuiet_nil ?_
            refine mix_run 18 (by kernel_rfl) ?_
            simp only [segOf, pickOps, pickOp]
            go_wp2_with fail
            refine (nGive_any (y : Int) 3 true N3.out (by omega)).mono ?_
            rintro e w4 ⟨rfl, f4, n4, o4, m4⟩
            rw [LG2.out.1]
            rw [LG2.out.2] at n4
            have N4 := Lib.hid n4
            have HO4 : Hid (Only f wr w4) := HO3.out.next o4 (fun z hz => HM3.out z hz)
            have HM4 : Hid (More wr.heap.size f f4) := fun z hz => by
              rcases m4 z hz with h3 | h3
              · exact HM3.out z h3
              · exact .inr (Nat.le_trans HO3.out.size h3)
            have HW4 : Hid (F w4) := HFO.out w4 HO4.out
            clear n4 o4 m4
            go_wp2_with fail
            refine MixPost.normal HW4.out ?_
            refine mix_seg [19, 20] (by kernel_rfl) HW4.out ?_
            simp only [segOf, pickOps, pickOp]
            repeat (go_big_quiet_step (rfl))
            refine wpQuiet_nil ?_
            refine mix_done (by kernel_rfl) ?_
            clear hx1 hx2
            have R4 : Hid (IRow w4 (.slice (some ⟨gi, 0, none⟩) s.b.length cv) (connsL s.b)) := HX.out.r.only HO4.out (fun z hz => (HX.out.d z hz).2)
            have D4 : Hid (w.heap.size ≤ gi ∧ gi ∉ f4) := by
              show _ ∧ _
              refine ⟨HGI.out.1, fun hm => ?_⟩
              rcases HM4.out _ hm with h3 | h3
              · exact HGI.out.2 h3
              · exact absurd (HX.out.r.own (g := gi) (by simp [ownL, Value.ownBlock])) (Nat.not_lt.2 h3)
            obtain ⟨W5, hW5⟩ : ∃ W5, W5 = w4.drew := ⟨_, rfl⟩
            have HO5 : Hid (Only [] w4 W5) := by show Only _ _ _; rw [hW5]; exact (Only.refl _ _).drew
            have N5 := Lib.hid (N4.out.old HO5.out)
            have R5 := Lib.hid (R4.out.old HO5.out)
            obtain ⟨Z, hZ⟩ : ∃ Z, Z = connsL s.b := ⟨_, rfl⟩
            have HZL : Hid (Z.length = s.b.length) := by show _ = _; rw [hZ, connsL_len]
            have HZE : Hid (Z.take n ++ Z.drop (n + 1) = connsL s3.b) := by show _ = _; rw [LG.out.2.2.1, connsL_erase, hZ]
            rw [← hZ] at R5
            clear hZ
            have HRZ : Hid (∀ W, Only [] W5 W → IRow W (.slice (some ⟨gi, 0, none⟩) Z.length cv) Z) := by
              show ∀ W, _
              intro W ho
              have h3 := R5.out.old ho
              rw [← HZL.out] at h3
              exact h3
            obtain ⟨A, hA⟩ : ∃ A : Addr, (if cv = n + 1 then (some (⟨gi, 0, none⟩ : Addr)) else some ⟨gi, n + 1, none⟩) = some A := by
              by_cases h3 : cv = n + 1
              · exact ⟨⟨gi, 0, none⟩, if_pos h3⟩
              · exact ⟨⟨gi, n + 1, none⟩, if_neg h3⟩
            have HAA := Lib.hid hA
            have hnc : n ≤ cv := by omega
            have hnc1 : n + 1 ≤ cv := by omega
            have hnl1 : n + 1 ≤ s.b.length := by omega
            have hnl2 : n ≤ s.b.length := by omega
            go_wp2_with fail
            have hne : Nonempty (Held (fun _ => True)) := ⟨⟨W5, trivial⟩⟩
            refine mix_start (fun _ => True) (by kernel_rfl) ?_
            rw [← hW5]
            clear hW5
            refine mix_seg [0, 1, 2, 4, 5, 6, 7] (by kernel_rfl) trivial ?_
            simp only [segOf, pickOps, pickOp]
            repeat (go_big_quiet_step (rfl))
            refine wpQuiet_nil ?_
            refine mix_run 3 (by kernel_rfl) ?_
            simp only [segOf, pickOps, pickOp]
            refine wpList_append_part nE rfl (.const (.slice none 0 0)) (.tmp 101) 39 3 rfl Try.underlying39 (.int .i64 0) 8 infoI rfl 0 (.slice none 0 0) [] rfl ERow.nil _ (Z.take n) rfl (ERow.partTake (HRZ.out W5 (Only.refl _ _)) (by have := HZL.out; omega)) (by rw [List.length_take]; have := HZL.out; simp; omega) (by omega) (Nat.zero_le _) ?_
            intro v6 w6 hr6 ho6 hg6
            have HO6 : Hid (Only [] W5 w6) := ho6.out.mono (by intro z hz; simp [ownL, Value.ownBlock] at hz)
            have HR6 : Hid (IRow w6 v6 (Z.take n)) := hr6.out
            have HG6 : Hid (∀ z ∈ ownL v6, z = W5.heap.size) := by show ∀ z ∈ _, _; intro z hz; rcases hg6.out z hz with h3 | h3; simp [ownL, Value.ownBlock] at h3; exact h3
            clear hr6 ho6 hg6
            go_wp2_with fail
            refine MixPost.normal trivial ?_
            refine mix_run 8 (by kernel_rfl) ?_
            simp only [segOf, pickOps, pickOp]
            refine wpList_append_part nE rfl (.tmp 102) (.tmp 106) 39 3 rfl Try.underlying39 (.int .i64 0) 8 infoI rfl 0 v6 (Z.take n) rfl HR6.out (.slice (some A) (Z.length - (n + 1)) (cv - (n + 1))) (Z.drop (n + 1)) (by rw [HZL.out]; rfl) (ERow.partDrop (HRZ.out w6 HO6.out) (by have := HZL.out; omega) (by rw [show nE.n = 1 from rfl, Nat.mul_one]; exact HAA.out)) (by rw [List.length_take, List.length_drop]; have := HZL.out; omega) (by omega) (Nat.zero_le _) ?_
            intro v8 w8 hr8 ho8 hg8
            have HL8 : Hid (LimAt w w8 g f4 K (k + 1) s3 v8) := by
              show LimAt _ _ _ _ _ _ _ _
              have h9 := HO6.out.size
              have hlow : ∀ z ∈ ownL v8, W5.heap.size ≤ z := by
                intro z hz
                rcases hg8.out z hz with h3 | h3
                · rw [HG6.out z h3]; exact Nat.le_refl _
                · omega
              refine ⟨(N5.out.old HO6.out).off ho8.out ?_, LG.out.2.1.more (by omega), by rw [← HZE.out]; exact hr8.out, ?_⟩
              · intro z hz
                have h3 := HG6.out z hz
                refine ⟨by have := N5.out.b.size; omega, fun hm => ?_⟩
                have := N5.out.p.lt hm
                omega
              · intro z hz
                have h3 := hlow z hz
                refine ⟨by have := N5.out.b.size; omega, fun hm => ?_⟩
                have := N5.out.p.lt hm
                omega
            clear hr8 ho8 hg8
            go_wp2_with fail
            refine MixPost.normal trivial ?_
            refine mix_seg [9] (by kernel_rfl) trivial ?_
            simp only [segOf, pickOps, pickOp]
            repeat (go_big_quiet_step (rfl))
            refine wpQuiet_nil ?_
            refine mix_done (by kernel_rfl) ?_
            clear hne
            go_wp2_with fail
            go_meet
            case rel => exact ⟨_, _, _, rfl, HL8.out⟩
      case rest =>
        obtain ⟨f2, s2, v2, ev, hx2⟩ := hcut
        subst ev
        clear d1
        have HX2 := Lib.hid hx2
        clear hx2
        obtain ⟨Av, cv, ev, _, _⟩ := HX2.out.r.slice
        rw [connsL_len] at ev
        subst ev
        obtain ⟨u0, hu0⟩ : ∃ u0, u0 = usedB s2.b (kE 0) := ⟨_, rfl⟩
        obtain ⟨u1, hu1⟩ : ∃ u1, u1 = usedB s2.b (kE 1) := ⟨_, rfl⟩
        obtain ⟨u2, hu2⟩ : ∃ u2, u2 = usedB s2.b (kE 2) := ⟨_, rfl⟩
        obtain ⟨u3, hu3⟩ : ∃ u3, u3 = usedB s2.b (kE 3) := ⟨_, rfl⟩
        have HU0 : Hid (usedB s2.b ⟨#[97]⟩ = u0) := hu0.symm
        have HU1 : Hid (usedB s2.b ⟨#[98]⟩ = u1) := hu1.symm
        have HU2 : Hid (usedB s2.b ⟨#[99]⟩ = u2) := hu2.symm
        have HU3 : Hid (usedB s2.b ⟨#[100]⟩ = u3) := hu3.symm
        have hs0 : u0 ≤ 6 := by rw [hu0]; exact HX2.out.l.six _
        have hs1 : u1 ≤ 6 := by rw [hu1]; exact HX2.out.l.six _
        have hsum : u0 + u1 + u2 + u3 = s2.b.length := by rw [hu0, hu1, hu2, hu3]; exact four_sum HX2.out.l.four
        have hbz : s2.b.length ≤ 32 := by have := HX2.out.l.ok.len; have := HX2.out.l.ok.t2; omega
        obtain ⟨I, hI⟩ : ∃ I, I = s2.i.length := ⟨_, rfl⟩
        have hIK : s2.b.length + I ≤ K := by have := HX2.out.l.ok.len; have := HX2.out.l.t; omega
        have HII : Hid ((sortI (connsL s2.i)).length = I) := by show _ = _; rw [sortI_len, connsL_len, hI]
        obtain ⟨L, hL⟩ : ∃ L, L = s2.b.length := ⟨_, rfl⟩
        have HLL := Lib.hid hL
        rw [← hL] at hsum hbz hIK HX2 ⊢
        clear hu0 hu1 hu2 hu3 hI hL
        go_wp2_with fail
        refine (nBusy_any HX2.out.p).mono ?_
        rintro e w3 ⟨rfl, rfl⟩
        rw [← HLL.out]
        go_wp2_with fail
        refine (nBusy_any HX2.out.p).mono ?_
        rintro e w3 ⟨rfl, rfl⟩
        rw [← HLL.out]
        go_wp2_with fail
        refine (nIdle_any HX2.out.p).mono ?_
        rintro e w3 ⟨rr, rfl, hr3, _, n3, o3⟩
        obtain ⟨Ar, cr, er, _, _⟩ := hr3.slice
        rw [HII.out] at er
        subst er
        have N3 := Lib.hid n3
        have HO3 := Lib.hid o3
        clear hr3 n3 o3
        go_wp2_with fail
        refine (nUsed_any _ N3.out).mono ?_
        rintro e w4 ⟨rfl, n4, o4⟩
        rw [HU0.out]
        have N4 := Lib.hid n4
        have HO4 := Lib.hid (HO3.out.trans o4)
        clear n4 o4
        go_wp2_with fail
        refine (nUsed_any _ N4.out).mono ?_
        rintro e w5 ⟨rfl, n5, o5⟩
        rw [HU1.out]
        have N5 := Lib.hid n5
        have HO5 := Lib.hid (HO4.out.trans o5)
        clear n5 o5
        go_wp2_with fail
        refine (nUsed_any _ N5.out).mono ?_
        rintro e w6 ⟨rfl, n6, o6⟩
        rw [HU0.out]
        have N6 := Lib.hid n6
        have HO6 := Lib.hid (HO5.out.trans o6)
        clear n6 o6
        go_wp2_with fail
        refine (nUsed_any _ N6.out).mono ?_
        rintro e w7 ⟨rfl, n7, o7⟩
        rw [HU1.out]
        have N7 := Lib.hid n7
        have HO7 := Lib.hid (HO6.out.trans o7)
        clear n7 o7
        go_wp2_with fail
        refine (nUsed_any _ N7.out).mono ?_
        rintro e w8 ⟨rfl, n8, o8⟩
        rw [HU2.out]
        have N8 := Lib.hid n8
        have HO8 := Lib.hid (HO7.out.trans o8)
        clear n8 o8
        go_wp2_with fail
        refine (nUsed_any _ N8.out).mono ?_
        rintro e w9 ⟨rfl, n9, o9⟩
        rw [HU3.out]
        have HL9 : Hid (LimAt w w9 g f2 K (k + 1) s2 (.slice Av L cv)) := ⟨n9, HX2.out.l, HX2.out.r.old (HO8.out.trans o9), HX2.out.d⟩
        clear n9 o9
        have hsumi : (u0 : Int) + (u1 : Int) + (u2 : Int) + (u3 : Int) = (L : Int) := by omega
        go_wp2_with fail
        go_roundw
        case rel => exact ⟨k + 1, f2, s2, _, rfl, by omega, by go_num, HL9.out⟩
        case measure => simp [intOf]; omega
    · obtain rfl : k = x1.length := by omega
      go_wp2_with fail
      refine (awake13_any _).mono ?_
      rintro e w' ⟨rfl, hb⟩
      have HE := Lib.hid (HX.out.p.b.trans (hb.mono HX.out.p.b.size))
      clear hb
      go_wp2
      go_ret
      exact ⟨rfl, HE.out⟩
end Go.Proofs.Ytbnmldfiheffoaa
