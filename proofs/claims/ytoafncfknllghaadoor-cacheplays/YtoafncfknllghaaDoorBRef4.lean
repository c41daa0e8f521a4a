/-
  The contract of the document's own Covers over this seat's program. Conditions: the cache and the names lie there.
-/
import Derived.Test.YtoafncfknllghaaDoorBRef2
import Derived.Test.YtoafncfknllghaaDoorBCover
import Derived.Test.YtoafncfknllghaaDoorLRef5
namespace Go.Proofs.YtoafncfknllghaaDoor
open Go.RowKit

set_option maxRecDepth 8000 in
set_option maxHeartbeats 4000000 in
theorem mCovers_any (g n : Nat) (v : Value) (l : List En) (k : Cl) (m : ByteArray) (A : Option Addr) (c B : Nat) (ns : List ByteArray) (t : Nat) (w : World) (h : CaAt w g n v l) (hm : m.size ≤ maxLen)
    (hx : SRow w B A ns) (hB : B ≤ w.heap.size) (hs : ∀ x ∈ ns, x.size ≤ maxLen) (hl : ns.length ≤ maxLen) :
    Calls Tryd.prog 22 #[.pointer (some ⟨g, 0, none⟩), cellV k, .string m, .slice A ns.length c, .int .u64 (t : Int)] w fun r w' => r = .returned (.bool (covL k m ns t l)) ∧ Only [] w w' := by
  obtain ⟨W1, hW1⟩ : ∃ W1, W1 = w.alloc (.cells #[.string k.o, .string k.u, .bool k.c] 24) := ⟨_, rfl⟩
  obtain ⟨B1, hB1⟩ : ∃ B1, B1 = w.heap.size := ⟨_, rfl⟩
  have HO1 : Hid (Only [] w W1) := by show Only _ _ _; rw [hW1]; exact (Only.refl _ _).alloc _
  have HK1 : Hid (ClBox W1 B1 k) := by show ClBox _ _ _; rw [hW1, hB1]; exact ClBox.new _ _ _
  have HH := Lib.hid h
  have HX := Lib.hid hx
  have HBL := Lib.hid hB
  have HS := Lib.hid hs
  unfold maxLen at hl
  obtain ⟨q1, hq1⟩ : ∃ q1, q1 = Lk.safeL m.data.toList := ⟨_, rfl⟩
  obtain ⟨q2, hq2⟩ : ∃ q2, q2 = methL k m t l := ⟨_, rfl⟩
  have HE : Hid (covL k m ns t l = ((q1 || q2) && hdrsL k ns t l)) := by show _ = _; rw [hq1, hq2]; rfl
  have hsafe := refSafe_any m W1 hm
  rw [← hq1] at hsafe
  have HQ2 := Lib.hid hq2
  clear h hx hB hs hm hq1 hq2
  simp only [cellV]
  go_enter Tryd.func22, Tryd.ntmps22
  go_wp2_with fail
  rw [← hB1, ← hW1]
  clear hB1 hW1
  refine hsafe.mono ?_
  rintro r W2 ⟨rfl, hb2⟩
  have HB2 : Hid (Only [] W1 W2) := Only.of_below hb2 []
  have HO2 : Hid (Only [] w W2) := HO1.out.trans HB2.out
  have HK2 : Hid (ClBox W2 B1 k) := HK1.out.old HB2.out
  clear hsafe hb2
  have hmeth := mMethod_any g n v l k m t W2 (HH.out.old HO2.out)
  rw [← HQ2.out] at hmeth
  simp only [cellV] at hmeth
  obtain ⟨d0, d1, d2⟩ := HK2.out
  cases q1 with
  | false =>
    go_wp2_with fail
    refine hmeth.mono ?_
    rintro r W3 ⟨rfl, ho3⟩
    have HO3 := Lib.hid (HO2.out.trans ho3)
    have HK3 := Lib.hid (HK2.out.old ho3)
    clear hmeth ho3 d0 d1 d2
    cases q2 with
    | false =>
      go_wp2_with fail
      go_ret
      exact ⟨ret_bool (by rw [HE.out]; rfl), HO3.out⟩
    | true =>
      go_wp2_with fail
      go_loopw [11] (fun i wr => ∃ j : Nat, j ≤ ns.length ∧ i = .int .i64 j ∧ Only [] w wr ∧ ClBox wr B1 k ∧ hdrsL k (ns.take j) t l = true) (fun i _ => ns.length - (intOf i).toNat)
      case atStart => exact ⟨0, Nat.zero_le _, rfl, HO3.out, HK3.out, rfl⟩
      case round =>
        obtain ⟨j, hj, rfl, ho, hk, ht⟩ := hrel
        have HO := Lib.hid ho
        have HK := Lib.hid hk
        have HT := Lib.hid ht
        clear ho hk ht
        by_cases hlt : j < ns.length
        · obtain ⟨a1, e1, _, hc1⟩ := (HX.out.old HO.out HBL.out) j ns[j] (List.getElem?_eq_getElem hlt)
          have HS' := Lib.hid (HS.out _ (List.getElem_mem hlt))
          have HN := Lib.hid (hdrsL_take (k := k) (t := t) (l := l) hlt)
          have HF : Hid (hdrL k ns[j] t l = false → hdrsL k ns t l = false) := hdrsL_no hlt
          generalize ns[j] = x at *
          obtain ⟨W0, hW0⟩ : ∃ W0, W0 = wr.drew := ⟨_, rfl⟩
          have HO0 : Hid (Only [] wr W0) := by show Only _ _ _; rw [hW0]; exact (Only.refl _ _).drew
          obtain ⟨F, hF⟩ : ∃ F : World → Prop, ∀ W, F W ↔ (ClBox W B1 k ∧ W.cell? (a1.add j) = some (.string x)) := ⟨_, fun _ => Iff.rfl⟩
          have hx0 : ∀ p : Held F, p.w.cell? ⟨B1, 0, none⟩ = some (.string k.o) := fun p => ((hF _).1 p.h).1.c0
          have hx1 : ∀ p : Held F, p.w.cell? ⟨B1, 1, none⟩ = some (.string k.u) := fun p => ((hF _).1 p.h).1.c1
          have hx2 : ∀ p : Held F, p.w.cell? ⟨B1, 2, none⟩ = some (.bool k.c) := fun p => ((hF _).1 p.h).1.c2
          have hx3 : ∀ p : Held F, p.w.cell? (a1.add j) = some (.string x) := fun p => ((hF _).1 p.h).2
          have HC1 := Lib.hid hc1
          have HFF : Hid (∀ W', Only [] wr W' → F W') := by
            show ∀ W', _
            intro W' ho
            exact (hF _).2 ⟨HK.out.old ho, (ho.cell (p := a1.add j) (block_of_cell HC1.out) (by simp)).trans HC1.out⟩
          clear hF hc1
          have hcall := mHeader_any g n v l k x t W0 (HH.out.old (HO.out.trans HO0.out)) HS'.out
          obtain ⟨q, hq⟩ : ∃ q, q = hdrL k x t l := ⟨_, rfl⟩
          rw [← hq] at hcall HN HF
          clear hq
          simp only [cellV] at hcall
          subst e1
          cases q with
          | false =>
            have HF2 := Lib.hid (HF.out rfl)
            clear HF HN
            go_wp2_with fail
            refine mix_start F (by kernel_rfl) ?_
            rw [← hW0]
            clear hW0
            refine mix_seg [0, 1, 2, 3, 4, 5, 6] (by kernel_rfl) (HFF.out _ HO0.out) ?_
            simp only [segOf, pickOps, pickOp]
            repeat (go_big_quiet_step (rfl))
            refine wpQuiet_nil ?_
            clear hx0 hx1 hx2 hx3
            refine mix_run 7 (by kernel_rfl) ?_
            simp only [segOf, pickOps, pickOp]
            go_wp2_with fail
            refine hcall.mono ?_
            rintro r w' ⟨rfl, ho'⟩
            have HO0' := Lib.hid (HO0.out.trans ho')
            have HO' := Lib.hid (HO.out.trans HO0'.out)
            have HK' := Lib.hid (HK.out.old HO0'.out)
            clear hcall ho'
            go_wp2_with fail
            refine MixPost.normal (HFF.out _ HO0'.out) ?_
            refine mix_seg [8] (by kernel_rfl) (HFF.out _ HO0'.out) ?_
            simp only [segOf, pickOps, pickOp]
            repeat (go_big_quiet_step (rfl))
            refine wpQuiet_nil ?_
            refine mix_done (by kernel_rfl) ?_
            go_wp2
            go_ret
            exact ⟨ret_bool (by rw [HE.out, HF2.out, Bool.and_false]), HO'.out⟩
          | true =>
            clear HF
            go_wp2_with fail
            refine mix_start F (by kernel_rfl) ?_
            rw [← hW0]
            clear hW0
            refine mix_seg [0, 1, 2, 3, 4, 5, 6] (by kernel_rfl) (HFF.out _ HO0.out) ?_
            simp only [segOf, pickOps, pickOp]
            repeat (go_big_quiet_step (rfl))
            refine wpQuiet_nil ?_
            clear hx0 hx1 hx2 hx3
            refine mix_run 7 (by kernel_rfl) ?_
            simp only [segOf, pickOps, pickOp]
            go_wp2_with fail
            refine hcall.mono ?_
            rintro r w' ⟨rfl, ho'⟩
            have HO0' := Lib.hid (HO0.out.trans ho')
            have HO' := Lib.hid (HO.out.trans HO0'.out)
            have HK' := Lib.hid (HK.out.old HO0'.out)
            clear hcall ho'
            go_wp2_with fail
            refine MixPost.normal (HFF.out _ HO0'.out) ?_
            refine mix_seg [8] (by kernel_rfl) (HFF.out _ HO0'.out) ?_
            simp only [segOf, pickOps, pickOp]
            repeat (go_big_quiet_step (rfl))
            refine wpQuiet_nil ?_
            refine mix_done (by kernel_rfl) ?_
            go_wp2
            go_roundw
            case rel => exact ⟨j + 1, by omega, by go_num, HO'.out, HK'.out, by rw [HN.out, HT.out]; rfl⟩
            case measure => simp [intOf]; omega
        · have HF : Hid (hdrsL k ns t l = true) := by
            show _ = _
            have h1 := HT.out
            rwa [List.take_of_length_le (by omega)] at h1
          go_wp2
          go_ret
          exact ⟨ret_bool (by rw [HE.out, HF.out]; rfl), HO.out⟩
  | true =>
    clear hmeth
    clear d0 d1 d2
    go_wp2_with fail
    go_loopw [11] (fun i wr => ∃ j : Nat, j ≤ ns.length ∧ i = .int .i64 j ∧ Only [] w wr ∧ ClBox wr B1 k ∧ hdrsL k (ns.take j) t l = true) (fun i _ => ns.length - (intOf i).toNat)
    case atStart => exact ⟨0, Nat.zero_le _, rfl, HO2.out, HK2.out, rfl⟩
    case round =>
      obtain ⟨j, hj, rfl, ho, hk, ht⟩ := hrel
      have HO := Lib.hid ho
      have HK := Lib.hid hk
      have HT := Lib.hid ht
      clear ho hk ht
      by_cases hlt : j < ns.length
      · obtain ⟨a1, e1, _, hc1⟩ := (HX.out.old HO.out HBL.out) j ns[j] (List.getElem?_eq_getElem hlt)
        have HS' := Lib.hid (HS.out _ (List.getElem_mem hlt))
        have HN := Lib.hid (hdrsL_take (k := k) (t := t) (l := l) hlt)
        have HF : Hid (hdrL k ns[j] t l = false → hdrsL k ns t l = false) := hdrsL_no hlt
        generalize ns[j] = x at *
        obtain ⟨W0, hW0⟩ : ∃ W0, W0 = wr.drew := ⟨_, rfl⟩
        have HO0 : Hid (Only [] wr W0) := by show Only _ _ _; rw [hW0]; exact (Only.refl _ _).drew
        obtain ⟨F, hF⟩ : ∃ F : World → Prop, ∀ W, F W ↔ (ClBox W B1 k ∧ W.cell? (a1.add j) = some (.string x)) := ⟨_, fun _ => Iff.rfl⟩
        have hx0 : ∀ p : Held F, p.w.cell? ⟨B1, 0, none⟩ = some (.string k.o) := fun p => ((hF _).1 p.h).1.c0
        have hx1 : ∀ p : Held F, p.w.cell? ⟨B1, 1, none⟩ = some (.string k.u) := fun p => ((hF _).1 p.h).1.c1
        have hx2 : ∀ p : Held F, p.w.cell? ⟨B1, 2, none⟩ = some (.bool k.c) := fun p => ((hF _).1 p.h).1.c2
        have hx3 : ∀ p : Held F, p.w.cell? (a1.add j) = some (.string x) := fun p => ((hF _).1 p.h).2
        have HC1 := Lib.hid hc1
        have HFF : Hid (∀ W', Only [] wr W' → F W') := by
          show ∀ W', _
          intro W' ho
          exact (hF _).2 ⟨HK.out.old ho, (ho.cell (p := a1.add j) (block_of_cell HC1.out) (by simp)).trans HC1.out⟩
        clear hF hc1
        have hcall := mHeader_any g n v l k x t W0 (HH.out.old (HO.out.trans HO0.out)) HS'.out
        obtain ⟨q, hq⟩ : ∃ q, q = hdrL k x t l := ⟨_, rfl⟩
        rw [← hq] at hcall HN HF
        clear hq
        simp only [cellV] at hcall
        subst e1
        cases q with
        | false =>
          have HF2 := Lib.hid (HF.out rfl)
          clear HF HN
          go_wp2_with fail
          refine mix_start F (by kernel_rfl) ?_
          rw [← hW0]
          clear hW0
          refine mix_seg [0, 1, 2, 3, 4, 5, 6] (by kernel_rfl) (HFF.out _ HO0.out) ?_
          simp only [segOf, pickOps, pickOp]
          repeat (go_big_quiet_step (rfl))
          refine wpQuiet_nil ?_
          clear hx0 hx1 hx2 hx3
          refine mix_run 7 (by kernel_rfl) ?_
          simp only [segOf, pickOps, pickOp]
          go_wp2_with fail
          refine hcall.mono ?_
          rintro r w' ⟨rfl, ho'⟩
          have HO0' := Lib.hid (HO0.out.trans ho')
          have HO' := Lib.hid (HO.out.trans HO0'.out)
          have HK' := Lib.hid (HK.out.old HO0'.out)
          clear hcall ho'
          go_wp2_with fail
          refine MixPost.normal (HFF.out _ HO0'.out) ?_
          refine mix_seg [8] (by kernel_rfl) (HFF.out _ HO0'.out) ?_
          simp only [segOf, pickOps, pickOp]
          repeat (go_big_quiet_step (rfl))
          refine wpQuiet_nil ?_
          refine mix_done (by kernel_rfl) ?_
          go_wp2
          go_ret
          exact ⟨ret_bool (by rw [HE.out, HF2.out, Bool.and_false]), HO'.out⟩
        | true =>
          clear HF
          go_wp2_with fail
          refine mix_start F (by kernel_rfl) ?_
          rw [← hW0]
          clear hW0
          refine mix_seg [0, 1, 2, 3, 4, 5, 6] (by kernel_rfl) (HFF.out _ HO0.out) ?_
          simp only [segOf, pickOps, pickOp]
          repeat (go_big_quiet_step (rfl))
          refine wpQuiet_nil ?_
          clear hx0 hx1 hx2 hx3
          refine mix_run 7 (by kernel_rfl) ?_
          simp only [segOf, pickOps, pickOp]
          go_wp2_with fail
          refine hcall.mono ?_
          rintro r w' ⟨rfl, ho'⟩
          have HO0' := Lib.hid (HO0.out.trans ho')
          have HO' := Lib.hid (HO.out.trans HO0'.out)
          have HK' := Lib.hid (HK.out.old HO0'.out)
          clear hcall ho'
          go_wp2_with fail
          refine MixPost.normal (HFF.out _ HO0'.out) ?_
          refine mix_seg [8] (by kernel_rfl) (HFF.out _ HO0'.out) ?_
          simp only [segOf, pickOps, pickOp]
          repeat (go_big_quiet_step (rfl))
          refine wpQuiet_nil ?_
          refine mix_done (by kernel_rfl) ?_
          go_wp2
          go_roundw
          case rel => exact ⟨j + 1, by omega, by go_num, HO'.out, HK'.out, by rw [HN.out, HT.out]; rfl⟩
          case measure => simp [intOf]; omega
      · have HF : Hid (hdrsL k ns t l = true) := by
          show _ = _
          have h1 := HT.out
          rwa [List.take_of_length_le (by omega)] at h1
        go_wp2
        go_ret
        exact ⟨ret_bool (by rw [HE.out, HF.out]; rfl), HO.out⟩
end Go.Proofs.YtoafncfknllghaaDoor
