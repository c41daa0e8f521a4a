/-
  The walk of the law ShareHolds: behind any calls each member is of the preflight that has it, each preflight that is there has a member, and a want of its own; it returns true, and nothing that was there has turned. Conditions: the calls lie where the slice says.
-/
import Derived.Test.YtcljmdpnbfefbaaXHold
import Derived.Test.YtcljmdpnbfefbaaXDeed
import Derived.Deep.CutRange
import Derived.Deep.CutBlock
namespace Go.Proofs.Ytcljmdpnbfefbaa
open Go.RowKit

abbrev arr4 : Value := .agg #[.string ⟨#[97]⟩, .string ⟨#[98]⟩, .string ⟨#[99]⟩, .string ⟨#[100]⟩]
theorem idx4_0 (w : World) : (Instr.index 54 arr4 (.int .i64 0)).run Try.prog w = .ok (.string ⟨#[97]⟩) w := by kernel_rfl
theorem idx4_1 (w : World) : (Instr.index 54 arr4 (.int .i64 1)).run Try.prog w = .ok (.string ⟨#[98]⟩) w := by kernel_rfl
theorem idx4_2 (w : World) : (Instr.index 54 arr4 (.int .i64 2)).run Try.prog w = .ok (.string ⟨#[99]⟩) w := by kernel_rfl
theorem idx4_3 (w : World) : (Instr.index 54 arr4 (.int .i64 3)).run Try.prog w = .ok (.string ⟨#[100]⟩) w := by kernel_rfl
theorem idx4_view (z : Int) (hz : 0 ≤ z ∧ z < 4) : ∃ y : ByteArray, ∀ w, (Instr.index 54 arr4 (.int .i64 z)).run Try.prog w = .ok (.string y) w := by
  have h : z = 0 ∨ z = 1 ∨ z = 2 ∨ z = 3 := by omega
  rcases h with rfl | rfl | rfl | rfl
  · exact ⟨_, idx4_0⟩
  · exact ⟨_, idx4_1⟩
  · exact ⟨_, idx4_2⟩
  · exact ⟨_, idx4_3⟩

set_option maxRecDepth 20000 in
set_option maxHeartbeats 16000000 in
theorem walk_ShareHolds (a0 : Option Addr) (c0 : Nat) (x0 : List Dd) (w : World) (h0 : DArg w a0 c0 x0) :
    Calls Try.prog 6 #[.slice a0 x0.length c0] w fun e w' => e = .returned (.bool true) ∧ Below w.heap.size w w' := by
  have H2 := Lib.hid h0
  have hl2 := h0.2.2.1
  have hm2 := h0.2.2.2
  unfold maxLen at hm2
  clear h0
  by_cases hb1 : 100 < x0.length
  · go_enter Try.func6, Try.ntmps6
    go_wp2_with fail
    refine (awake18_any _).mono ?_
    rintro e w' ⟨rfl, hb⟩
    go_wp2
    go_ret
    exact ⟨rfl, hb⟩
  go_enter Try.func6, Try.ntmps6
  go_wp2_with fail
  refine (fNew_any w).mono ?_
  rintro e w1 ⟨g, rfl, hp, ho, hg⟩
  have N1 := Lib.hid (TbN.made (Below.refl _ w) hp ho hg)
  clear hp ho hg
  go_wp2_with fail
  go_loopw [4, 5] (fun la i wr => ∃ (k : Nat) (f : List Nat) (s : Sv), k ≤ x0.length ∧ i = .int .i64 (k : Int) ∧ la = .int .i64 (s.last : Int) ∧ TbN eP 1 w wr g f s ∧ s.last ≤ k) (fun _ i _ => x0.length - (intOf i).toNat)
  case atStart => exact ⟨0, _, _, by omega, rfl, rfl, N1.out, Nat.le_refl _⟩
  case round =>
    obtain ⟨k, f, s, hk, rfl, rfl, hx, hla⟩ := hrel
    have HX := Lib.hid hx
    have HLA : Hid (s.last ≤ k ∧ k ≤ 100) := ⟨hla, by omega⟩
    clear hx hla N1
    by_cases hlt : k < x0.length
    · obtain ⟨ad, e1, hda⟩ := H2.out.1 k x0[k] (List.getElem?_eq_getElem hlt)
      have hdb := hda.below HX.out.b
      clear hda
      generalize x0[k] = x at *
      subst e1
      have d0 := hdb.c0
      have d1 := hdb.c1
      clear hdb
      go_wp2_with fail
      refine (LowN_any x.id 20 wr (by omega) (by omega)).mono ?_
      rintro e w' ⟨z, rfl, hz, rfl⟩
      go_wp2_with fail
      refine (LowN_any x.op 4 wr (by omega) (by omega)).mono ?_
      rintro e w' ⟨zo, rfl, hzo, rfl⟩
      have HZB : Hid (zo = 0 ∨ zo = 1 ∨ zo = 2 ∨ zo = 3) := by show _ ∨ _; omega
      clear d0 hzo
      go_upto_block 2 with fail
      go_cut [4] from 44 to 85 (fun s4 W => ∃ (f : List Nat) (s : Sv), s4 = .int .i64 (s.last : Int) ∧ TbN eP 1 w W g f s ∧ s.last ≤ k + 1)
      case first =>
        rcases HZB.out with rfl | rfl | rfl | rfl
        · go_wp2_with fail
          refine (LowN_any _ 4 _ (by omega) (by omega)).mono ?_
          rintro e w' ⟨z4, rfl, hz4, rfl⟩
          obtain ⟨y, hix⟩ := idx4_view z4 hz4
          clear d1 hz4
          obtain ⟨N, F, C, S, hN, hF, hC, hS, hcase⟩ := join_told ⟨noT, noT, false, y, noT⟩ (1 + z) s
          have HCASE := Lib.hid hcase
          have hj := fJoin_any ⟨noT, noT, false, y, noT⟩ (1 + z) HX.out.p (by have := HLA.out; omega)
          rw [hN, hF, hC, hS] at hj
          simp only [wV] at hj
          clear hN hF hC hS hcase
          go_wp2_with fail
          refine hj.mono ?_
          rintro e W4 ⟨rfl, hn⟩
          obtain ⟨f4, h4, _, _⟩ := HX.out.step hn
          have HX4 := Lib.hid h4
          clear hj hn h4 hix
          rcases HCASE.out with ⟨rfl, rfl, hl1, hl2⟩ | ⟨hC, rfl, hl1⟩
          · have HLS : Hid (S.last = N ∧ S.last ≤ k + 1) := by show _ ∧ _; have := HLA.out; omega
            clear HCASE hl1 hl2
            go_wp2_with fail
            go_meet
            case rel => exact ⟨f4, S, by rw [HLS.out.1], HX4.out, HLS.out.2⟩
          · have HLS : Hid (s.last = S.last ∧ S.last ≤ k + 1) := by show _ ∧ _; have := HLA.out; omega
            clear HCASE hl1
            rcases hC with rfl | rfl | rfl | rfl
            all_goals
              go_wp2_with fail
              go_meet
              case rel => exact ⟨f4, S, by rw [HLS.out.1], HX4.out, HLS.out.2⟩
        · go_wp2_with fail
          refine (LowN_any _ 4 _ (by omega) (by omega)).mono ?_
          rintro e w' ⟨z4, rfl, hz4, rfl⟩
          obtain ⟨y, hix⟩ := idx4_view z4 hz4
          clear d1 hz4
          obtain ⟨N, F, C, S, hN, hF, hC, hS, hcase⟩ := join_told ⟨noT, noT, false, y, noT⟩ (1 + z) s
          have HCASE := Lib.hid hcase
          have hj := fJoin_any ⟨noT, noT, false, y, noT⟩ (1 + z) HX.out.p (by have := HLA.out; omega)
          rw [hN, hF, hC, hS] at hj
          simp only [wV] at hj
          clear hN hF hC hS hcase
          go_wp2_with fail
          refine hj.mono ?_
          rintro e W4 ⟨rfl, hn⟩
          obtain ⟨f4, h4, _, _⟩ := HX.out.step hn
          have HX4 := Lib.hid h4
          clear hj hn h4 hix
          rcases HCASE.out with ⟨rfl, rfl, hl1, hl2⟩ | ⟨hC, rfl, hl1⟩
          · have HLS : Hid (S.last = N ∧ S.last ≤ k + 1) := by show _ ∧ _; have := HLA.out; omega
            clear HCASE hl1 hl2
            go_wp2_with fail
            go_meet
            case rel => exact ⟨f4, S, by rw [HLS.out.1], HX4.out, HLS.out.2⟩
          · have HLS : Hid (s.last = S.last ∧ S.last ≤ k + 1) := by show _ ∧ _; have := HLA.out; omega
            clear HCASE hl1
            rcases hC with rfl | rfl | rfl | rfl
            all_goals
              go_wp2_with fail
              go_meet
              case rel => exact ⟨f4, S, by rw [HLS.out.1], HX4.out, HLS.out.2⟩
        · have hj := fLeave_any (1 + z) HX.out.p
          clear d1
          go_wp2_with fail
          refine hj.mono ?_
          rintro e W4 ⟨rfl, hn⟩
          obtain ⟨f4, h4, _, _⟩ := HX.out.step hn
          have HX4 := Lib.hid h4
          clear hj hn h4
          go_wp2_with fail
          go_meet
          case rel => exact ⟨f4, leaveS (1 + z) s, by rw [leaveS_last], HX4.out, by rw [leaveS_last]; have := HLA.out; omega⟩
        · have hlb : s.last ≤ 100 := by have := HLA.out; omega
          go_wp2_with fail
          refine (LowN_any x.id ((s.last : Int) + 1) wr (by omega) (by omega)).mono ?_
          rintro e w' ⟨zd, rfl, hzd, rfl⟩
          have hj := fDone_any (1 + zd) HX.out.p
          clear d1
          go_wp2_with fail
          refine hj.mono ?_
          rintro e W4 ⟨r, rfl, hr, _, hn⟩
          obtain ⟨A4, c4, rfl, _, _⟩ := hr.slice
          obtain ⟨f4, h4, _, _⟩ := HX.out.step hn
          have HX4 := Lib.hid h4
          clear hj hn h4 hr
          go_wp2_with fail
          go_meet
          case rel => exact ⟨f4, doneS (1 + zd) s, by rw [doneS_last], HX4.out, by rw [doneS_last]; have := HLA.out; omega⟩
      case rest =>
        obtain ⟨f, s, rfl, hx, hla⟩ := hcut
        have HXc := Lib.hid hx
        have HLB := Lib.hid hla
        have hok := hx.p.ok
        have HOK := Lib.hid hok
        have HONE := Lib.hid (seen_one hok)
        have HALL := Lib.hid (seen_all hok)
        have HN64 : Hid (∀ P, (seenL s P).length ≤ 64) := by show ∀ P, _; intro P; have h1 := seen_len s P; have h2 := hok.len; omega
        clear hx hla hok HX
        have hlb : s.last ≤ 101 := by have := HLB.out; omega
        have HH0 : Hid (HoldAt w wc g f (.slice none 0 0) (seenL s 1) s) := by
          show HoldAt _ _ _ _ _ _ _
          rw [HONE.out]
          exact ⟨HXc.out, WRow.nil, fun y hy => by simp [ownL, Value.ownBlock] at hy⟩
        clear HXc
        go_wp2_with fail
        go_loopw [10, 11, 12] (fun nv v pv wr => ∃ P : Nat, 1 ≤ P ∧ P ≤ s.last + 1 ∧ pv = .int .i64 (P : Int) ∧ nv = .int .i64 ((seenL s P).length : Int) ∧ HoldAt w wr g f v (seenL s P) s) (fun _ _ pv _ => s.last + 1 - (intOf pv).toNat)
        case atStart => exact ⟨1, Nat.le_refl _, by omega, rfl, by rw [HONE.out]; rfl, HH0.out⟩
        case round =>
          obtain ⟨P, hP1, hP2, rfl, rfl, hx⟩ := hrel
          rename World => wr
          have hwl := HN64.out P
          have HTOLD := Lib.hid (hold_told HOK.out P)
          obtain ⟨nx, hnx⟩ : ∃ nx, nx = seenL s (P + 1) := ⟨_, rfl⟩
          obtain ⟨ws, hws⟩ : ∃ ws, ws = seenL s P := ⟨_, rfl⟩
          rw [← hnx, ← hws] at HTOLD
          rw [← hws] at hx hwl ⊢
          have HNX := Lib.hid hnx
          have HWS := Lib.hid hws
          clear hnx hws
          obtain ⟨Aw, cw, hv, hlw, hcw⟩ := hx.r.slice
          unfold maxLen at hcw
          subst hv
          have HX := Lib.hid hx
          clear hx HH0
          by_cases hlt : P ≤ s.last
          · obtain ⟨K, hK⟩ : ∃ K, wantW (P : Int) s = K := ⟨_, rfl⟩
            obtain ⟨O, hO⟩ : ∃ O, wantO (P : Int) s = O := ⟨_, rfl⟩
            obtain ⟨D, hD⟩ : ∃ D, doneR (P : Int) s = D := ⟨_, rfl⟩
            rw [hK, hO, hD] at HTOLD
            have hj1 := fMembers_any (P : Int) HX.out.t.p
            rw [hD] at hj1
            go_wp2_with fail
            refine hj1.mono ?_
            rintro e W1 ⟨r, rfl, hr, _, ho⟩
            obtain ⟨Ar, cr, rfl, hlr, hcr⟩ := hr.slice
            unfold maxLen at hcr
            have HR1 := Lib.hid hr
            have HX1 := Lib.hid (HX.out.old ho)
            clear hj1 hr ho
            have hj2 := fWant_any (P : Int) HX1.out.t.p
            rw [hK, hO] at hj2
            clear hK hO hD
            go_wp2_with fail
            refine hj2.mono ?_
            rintro e W2 ⟨rfl, ho⟩
            obtain ⟨W3, hW3⟩ : ∃ W3, W3 = W2.alloc (.cells #[.string K.o, .string K.u, .bool K.c, .string K.m, .string K.s] 31) := ⟨_, rfl⟩
            obtain ⟨B, hB⟩ : ∃ B, B = W2.heap.size := ⟨_, rfl⟩
            have ho3 : Only [] W1 W3 := by rw [hW3]; exact ho.alloc _
            have HX3 := Lib.hid (HX1.out.old ho3)
            have HR3 := Lib.hid (HR1.out.old ho3)
            have HY3 : Hid (WtAt W3 B 0 K) := by show WtAt _ _ _ _; rw [hW3, hB]; exact WtAt.new W2 K _
            clear hj2 ho ho3 HR1 HX1 HX
            simp only [wV]
            have hdo : decide (0 < D.length) = O := by
              rcases HTOLD.out with ⟨h1, h2, _⟩ | ⟨h1, h2, _⟩
              · rw [h1]; exact decide_eq_true (by omega)
              · rw [h1]; exact decide_eq_false (by omega)
            have HOF : Hid (∀ i ∈ D, ofN i s = P) := by
              show ∀ i ∈ D, _
              rcases HTOLD.out with ⟨_, _, h3, _⟩ | ⟨_, h2, _⟩
              · exact h3
              · intro i hi; rw [List.length_eq_zero_iff] at h2; subst h2; simp at hi
            go_wp2_with fail
            rw [← hW3, ← hB]
            clear hW3 hB hdo
            go_loopw [16] (fun i wr => ∃ j : Nat, j ≤ D.length ∧ i = .int .i64 (j : Int) ∧ Only [] W3 wr) (fun i _ => D.length - (intOf i).toNat)
            case atStart => exact ⟨0, Nat.zero_le _, rfl, Only.refl _ _⟩
            case round =>
              obtain ⟨j, hj, rfl, ho⟩ := hrel
              rename World => W4
              have HO4 := Lib.hid ho
              clear ho
              by_cases hjl : j < D.length
              · obtain ⟨gr, e1, hc⟩ := (HR3.out.old HO4.out).at_ rfl hjl
                have HOI := Lib.hid (HOF.out _ (List.getElem_mem hjl))
                generalize D[j] = y at *
                have hof := fOf_any y (HX3.out.old HO4.out).t.p
                rw [HOI.out] at hof
                subst e1
                go_wp2_with fail
                refine hof.mono ?_
                rintro e W5 ⟨rfl, ho⟩
                have HO5 := Lib.hid (HO4.out.trans ho)
                clear hof ho hc
                go_wp2
                go_roundw
                case rel => exact ⟨j + 1, by omega, by go_num, HO5.out⟩
                case measure => simp [intOf]; omega
              · go_wp2_with fail
                have HX4 := Lib.hid (HX3.out.old HO4.out)
                have HY4 := Lib.hid (HY3.out.old HO4.out)
                clear HX3 HY3 HR3 HO4
                go_loopw [17] (fun i wr => ∃ j : Nat, j ≤ ws.length ∧ i = .int .i64 (j : Int) ∧ Only [] W4 wr) (fun i _ => ws.length - (intOf i).toNat)
                case atStart => exact ⟨0, Nat.zero_le _, rfl, Only.refl _ _⟩
                case round =>
                  obtain ⟨j, hj, rfl, ho⟩ := hrel
                  rename World => W5
                  have HO5 := Lib.hid ho
                  clear ho
                  by_cases hjl : j < ws.length
                  · obtain ⟨gw, e1, f0, f1, f2, f3, f4⟩ := (HX4.out.old HO5.out).r.at_ rfl hjl
                    obtain ⟨b0, b1, b2, b3, b4⟩ := HY4.out.old HO5.out
                    have HNE : Hid (O = true → wB ws[j] K = false) := by
                      show _ → _
                      intro h
                      rcases HTOLD.out with ⟨_, _, _, h4, _⟩ | ⟨h1, _⟩
                      · exact h4 _ (List.getElem_mem hjl)
                      · rw [h] at h1; cases h1
                    generalize ws[j] = kj at *
                    have hq := eqlW kj K
                    subst e1
                    cases O
                    case true =>
                      rw [HNE.out rfl] at hq
                      clear HNE
                      go_wp2_with fail
                      go_quiet (fail)
                      clear f0 f1 f2 f3 f4 b0 b1 b2 b3 b4 hq
                      go_wp2
                      go_roundw
                      case rel => exact ⟨j + 1, by omega, by go_num, HO5.out.drewN _⟩
                      case measure => simp [intOf]; omega
                    case false =>
                      clear HNE hq
                      go_wp2_with fail
                      go_quiet (fail)
                      clear f0 f1 f2 f3 f4 b0 b1 b2 b3 b4
                      go_wp2
                      go_roundw
                      case rel => exact ⟨j + 1, by omega, by go_num, HO5.out.drewN _⟩
                      case measure => simp [intOf]; omega
                  · have HX5 := Lib.hid (HX4.out.old HO5.out)
                    have HY5 := Lib.hid (HY4.out.old HO5.out)
                    clear HX4 HY4 HO5
                    rcases HTOLD.out with ⟨rfl, _, _, _, hnx⟩ | ⟨rfl, _, hnx⟩
                    · obtain ⟨b0, b1, b2, b3, b4⟩ := HY5.out
                      obtain ⟨W6, hW6⟩ : ∃ W6, W6 = W5.alloc (.cells #[.string K.o, .string K.u, .bool K.c, .string K.m, .string K.s] 31) := ⟨_, rfl⟩
                      obtain ⟨B6, hB6⟩ : ∃ B6, B6 = W5.heap.size := ⟨_, rfl⟩
                      have HY6 : Hid (WtAt W6 B6 0 K) := by show WtAt _ _ _ _; rw [hW6, hB6]; exact WtAt.new W5 K _
                      have HX6 : Hid (HoldAt w W6 g f (.slice Aw ws.length cw) ws s) := by show HoldAt _ _ _ _ _ _ _; rw [hW6]; exact HX5.out.old ((Only.refl _ _).alloc _)
                      have hs6 : W6.heap.size = W5.heap.size + 1 := by rw [hW6]; simp
                      have HNX2 : Hid (nx = ws ++ [K]) := hnx
                      clear hnx HTOLD HOF
                      go_wp2_with (at_builtin; rw [← hW6, ← hB6]; refine wpList_append_want rfl (.tmp 137) (.tmp 139) rfl _ ws rfl HX6.out.r B6 K rfl HY6.out (by omega) ?_)
                      intro g2 cap2 w7 hr7 ho7 hg7
                      try rw [← hW6] at ho7
                      try rw [← hW6] at hg7
                      have HX7 : Hid (HoldAt w w7 g f (.slice (some ⟨g2, 0, none⟩) (ws.length + 1) cap2) (ws ++ [K]) s) := by
                        refine HX6.out.row ho7.out hr7.out ?_
                        intro y hy
                        simp [ownL, Value.ownBlock] at hy
                        subst hy
                        rcases hg7.out with h1 | h1
                        · left; exact h1
                        · right; first | omega | (simp at h1; omega)
                      clear hr7 ho7 hg7 hW6 hB6 b0 b1 b2 b3 b4
                      go_wp2
                      go_roundw
                      case rel => exact ⟨P + 1, by omega, by omega, by go_num, by rw [← HNX.out, HNX2.out]; simp, by rw [← HNX.out, HNX2.out]; exact HX7.out⟩
                      case measure => simp [intOf]; omega
                    · have HNX2 : Hid (nx = ws) := hnx
                      clear hnx HTOLD HOF
                      go_wp2
                      go_roundw
                      case rel => exact ⟨P + 1, by omega, by omega, by go_num, by rw [← HNX.out, HNX2.out], by rw [← HNX.out, HNX2.out]; exact HX5.out⟩
                      case measure => simp [intOf]; omega
          · have hPe : P = s.last + 1 := by omega
            have HWL : Hid (s.l.length = ws.length) := by show _ = _; rw [HWS.out, hPe]; exact HALL.out.symm
            have hln := fLen_any HX.out.t.p
            rw [HWL.out] at hln
            clear hPe
            go_wp2_with fail
            refine hln.mono ?_
            rintro e W5 ⟨rfl, ho⟩
            have HXE := Lib.hid (HX.out.t.old ho)
            clear hln ho
            go_wp2
            go_roundw
            case rel => exact ⟨k + 1, f, s, by omega, by go_num, rfl, HXE.out, HLB.out⟩
            case measure => simp [intOf]; omega
    · obtain rfl : k = x0.length := by omega
      go_wp2_with fail
      refine (awake18_any _).mono ?_
      rintro e w' ⟨rfl, hb⟩
      have HE := Lib.hid (HX.out.b.trans (hb.mono HX.out.b.size))
      clear hb
      go_wp2
      go_ret
      exact ⟨rfl, HE.out⟩
end Go.Proofs.Ytcljmdpnbfefbaa
