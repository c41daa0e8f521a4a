/-
  The walk of the law CorsSeen: whatever the input, it returns true, and nothing that was there has turned. Conditions: the arguments are such as any that come in.
-/
import Derived.Test.YtpfbkcibpmndoaaCAwake
import Derived.Test.YtpfbkcibpmndoaaCMath2
namespace Go.Proofs.Ytpfbkcibpmndoaa
open Go.RowKit

set_option maxRecDepth 100000 in
set_option maxHeartbeats 16000000 in
theorem walk_CorsSeen (a0 : Option Addr) (c0 : Nat) (xs : List (ByteArray × ByteArray)) (cr star : Bool) (w : World) (h0 : HArg w a0 c0 xs) :
    Calls Try.prog 5 #[.slice a0 xs.length c0, .bool cr, .bool star] w fun e w' => e = .returned (.bool true) ∧ Below w.heap.size w w' := by
  have HL0 : Hid (xs.length ≤ maxLen) := Nat.le_trans h0.2.2.1 h0.2.2.2.1
  have HX0 := Lib.hid h0.1
  have HS0 := Lib.hid h0.2.1
  clear h0
  have HB0 : Hid (Below w.heap.size w w) := Below.refl _ _
  cases hg : greatB xs
  case true =>
    have HG := Lib.hid hg
    clear hg
    go_enter Try.func5, Try.ntmps5
    go_wp2_with fail
    refine (Great_any a0 _ c0 w.heap.size xs _ rfl HX0.out HL0.out (fun x hx => HS0.out x hx)).mono ?_
    rintro e w' ⟨rfl, rfl⟩
    rw [show (decide (40 < xs.length) || greatGo 0 xs) = true from HG.out]
    go_wp2_with fail
    refine (awake15_any _).mono ?_
    rintro e w9 ⟨rfl, hb⟩
    have HBZ : Hid (Below w.heap.size w w9) := HB0.out.trans (hb.mono HB0.out.size)
    clear hb
    go_wp2
    go_ret
    exact ⟨rfl, HBZ.out⟩
  have HG := Lib.hid hg
  have HD := Lib.hid (great_bd hg)
  clear hg
  have hl40 : xs.length ≤ 40 := by have := HD.out.1; simpa using this
  obtain ⟨i0, hi, hz0, hz1, hz2⟩ := info_parts infoH
  cases star <;> cases cr
  case false.false =>
    go_enter Try.func5, Try.ntmps5
    go_wp2_with fail
    refine (Great_any a0 _ c0 w.heap.size xs _ rfl HX0.out HL0.out (fun x hx => HS0.out x hx)).mono ?_
    rintro e w' ⟨rfl, rfl⟩
    rw [show (decide (40 < xs.length) || greatGo 0 xs) = false from HG.out]
    go_wp2_with fail
    go_loopw [7, 8] (fun v i wr => ∃ (k : Nat) (dl : List Hd), k ≤ xs.length ∧ i = .int .i64 k ∧ dl = inter false ((xs.take k).map hd) ∧ dl.length = 2 * k ∧ (∀ h ∈ (xs.take k).map hd, OkN h) ∧ HdRow wr w.heap.size v dl ∧ Below w.heap.size w wr) (fun _ i _ => xs.length - (intOf i).toNat)
    case atStart => exact ⟨0, [], Nat.zero_le _, rfl, rfl, rfl, by simp, HdRow.nil _ _, Below.refl _ _⟩
    case round =>
      obtain ⟨k, dl, hk, rfl, hdl, hdn, hok, hr, hb⟩ := hrel
      have HDL := Lib.hid hdl
      have HDN := Lib.hid hdn
      have HOK := Lib.hid hok
      have HRR := Lib.hid hr
      have HBB := Lib.hid hb
      clear hdl hdn hok hr hb
      by_cases hlt : k < xs.length
      · obtain ⟨ad, hA, _, hc1, hc2⟩ := HX0.out k xs[k] (List.getElem?_eq_getElem hlt)
        have HZ := Lib.hid (HS0.out xs[k] (List.getElem_mem hlt))
        have HTK := Lib.hid (take_hd (List.take_succ_eq_append_getElem hlt))
        generalize xs[k] = x at *
        obtain ⟨x1, x2⟩ := x
        subst hA
        have HCX : Hid (∀ W, Below w.heap.size w W → W.cell? (ad.add (k * 2)) = some (.string x1) ∧ W.cell? ⟨(ad.add (k * 2)).block, (ad.add (k * 2)).off + 1, none⟩ = some (.string x2)) := fun W h =>
          ⟨(h.cell (World.block_lt_of_cell? w _ hc1)).trans hc1, (h.cell (World.block_lt_of_cell? w _ hc2)).trans hc2⟩
        clear hc1 hc2
        obtain ⟨tk, htk⟩ : ∃ tk, Lk.tokL x1.data.toList = tk := ⟨_, rfl⟩
        obtain ⟨ff, hff⟩ : ∃ ff, Lk.foldL x1.data.toList expN = ff := ⟨_, rfl⟩
        have HT := Lib.hid htk
        have HF := Lib.hid hff
        clear htk hff
        obtain ⟨hc1, hc2⟩ := HCX.out wr HBB.out
        go_wp2_with fail
        refine (Token_any x1 _ HZ.out.1).mono ?_
        rintro e w' ⟨rfl, rfl⟩
        rw [HT.out]
        cases tk
        case false =>
          go_wp2_with fail
          refine (awake15_any _).mono ?_
          rintro e w9 ⟨rfl, hb⟩
          have HBZ : Hid (Below w.heap.size w w9) := HBB.out.trans (hb.mono HBB.out.size)
          clear hb
          go_wp2
          go_ret
          exact ⟨rfl, HBZ.out⟩
        case true =>
        go_wp2_with fail
        refine (Fold_any x1 _ _ HZ.out.1 (by unfold maxLen; decide)).mono ?_
        rintro e w2 ⟨rfl, q2, hw2⟩
        rw [show (ByteArray.mk #[97, 99, 99, 101, 115, 115, 45, 99, 111, 110, 116, 114, 111, 108, 45, 101, 120, 112, 111, 115, 101, 45, 104, 101, 97, 100, 101, 114, 115]).data.toList = expN from rfl, HF.out]
        have HB2 : Hid (Below w.heap.size w w2) := by show Below _ _ _; rw [hw2]; exact below_drewN HBB.out q2
        have HR2 : Hid (HdRow w2 w.heap.size u7 dl) := by show World.ownsRow _ _ _ _ _ _ _; rw [hw2]; exact HRR.out
        clear hw2 hc1 hc2
        obtain ⟨hc1, hc2⟩ := HCX.out w2 HB2.out
        cases ff
        case true =>
          go_wp2_with fail
          refine (awake15_any _).mono ?_
          rintro e w9 ⟨rfl, hb⟩
          have HBZ : Hid (Below w.heap.size w w9) := HB2.out.trans (hb.mono HB2.out.size)
          clear hb
          go_wp2
          go_ret
          exact ⟨rfl, HBZ.out⟩
        case false =>
        go_wp2_with (at_builtin; refine wpList_append_own _ rfl (.tmp 40) (.tmp 45) 22 rfl w.heap.size 35 i0 (.agg #[.string ⟨#[]⟩, .string ⟨#[]⟩]) 2 32 Try.underlying22 hi hz0 hz1 hz2 rfl (by decide) _ _ _ rfl (World.ownsRow.alloc (w := w2) HR2.out _) ⟨w2.heap.size, 0, none⟩ 1 1 [.string x1, .string x2] rfl rfl ?c1 ?c2 ?c3 ?c4 ?c5 ?_)
        case c1 => exact cells_two_new _ _ _ _
        case c2 => intro u hu; simp at hu; rcases hu with rfl | rfl <;> rfl
        case c3 => have := HDN.out; unfold maxLen; omega
        case c4 => have := HDN.out; omega
        case c5 => have := HB2.out.size; simp; omega
        intro v3 w3 hown hgrow _
        have HR3 : Hid (HdRow w3 w.heap.size v3 (dl ++ [hd (x1, x2)])) := HdRow.more hown
        have HB3 : Hid (Below w.heap.size w w3) := (HB2.out.alloc HB2.out.size _).grown hgrow (by have := HB2.out.size; simp; omega) (fun b hb => (World.ownsRow.lt HR2.out b hb).1)
        have HDM : Hid ((dl ++ [hd (x1, x2)]).length = 2 * k + 1) := by show _ = _; rw [List.length_append, HDN.out]; rfl
        clear hown hgrow hc1 hc2
        obtain ⟨hc1, hc2⟩ := HCX.out w3 HB3.out
        obtain ⟨dm, hdm⟩ : ∃ dm, dm = dl ++ [hd (x1, x2)] := ⟨_, rfl⟩
        rw [← hdm] at HR3 HDM
        have HDMM := Lib.hid hdm
        clear hdm
        go_wp2_with (at_builtin; refine wpList_append_own _ rfl (.tmp 53) (.tmp 56) 22 rfl w.heap.size 35 i0 (.agg #[.string ⟨#[]⟩, .string ⟨#[]⟩]) 2 32 Try.underlying22 hi hz0 hz1 hz2 rfl (by decide) _ _ _ rfl (World.ownsRow.alloc (w := w3) HR3.out _) ⟨w3.heap.size, 0, none⟩ 1 1 [.string ⟨#[65, 99, 99, 101, 115, 115, 45, 67, 111, 110, 116, 114, 111, 108, 45, 69, 120, 112, 111, 115, 101, 45, 72, 101, 97, 100, 101, 114, 115]⟩, .string x1] rfl rfl ?d1 ?d2 ?d3 ?d4 ?d5 ?_)
        case d1 => exact cells_two_new _ _ _ _
        case d2 => intro u hu; simp at hu; rcases hu with rfl | rfl <;> rfl
        case d3 => have := HDM.out; unfold maxLen; omega
        case d4 => have := HDM.out; omega
        case d5 => have := HB3.out.size; simp; omega
        intro v4 w4 hown hgrow _
        have HR4 : Hid (HdRow w4 w.heap.size v4 (dm ++ [(expC, valE false (hd (x1, x2)))])) := HdRow.more hown
        have HB4 : Hid (Below w.heap.size w w4) := (HB3.out.alloc HB3.out.size _).grown hgrow (by have := HB3.out.size; simp; omega) (fun b hb => (World.ownsRow.lt HR3.out b hb).1)
        clear hown hgrow hc1 hc2
        go_wp2
        go_roundw
        case rel =>
          refine ⟨k + 1, _, by omega, by go_num, ?_, ?_, ?_, HR4.out, HB4.out⟩
          · rw [HTK.out, inter_snoc, ← HDL.out, HDMM.out]
          · rw [List.length_append, HDM.out]; simp; omega
          · intro h hh
            rw [HTK.out] at hh
            rcases List.mem_append.1 hh with hh | hh
            · exact HOK.out h hh
            · obtain rfl : h = hd (x1, x2) := by simpa using hh
              exact ⟨HT.out, HF.out⟩
        case measure => simp [intOf]; omega
      · obtain rfl : k = xs.length := by omega
        have HOA : Hid (∀ h ∈ xs.map hd, OkN h) := by
          show ∀ _, _
          have h := HOK.out
          rwa [List.take_length] at h
        have HDA : Hid (dl = inter false (xs.map hd)) := by
          show _ = _
          have h := HDL.out
          rwa [List.take_length] at h
        obtain ⟨A5, n5, c5, ys, rfl, hn5, hys, _, hp5⟩ := HRR.out.row
        subst hn5
        rw [HDA.out] at hys
        have HP5 := Lib.hid hp5
        have HYS := Lib.hid hys
        have HSM5 : Hid (Sm (ys.map hd)) := by show Sm _; rw [hys]; exact inter_sm (by simpa using hl40) (fun h hh => HD.out.2 h hh)
        clear hp5 hys HDL HOK HRR HDN
        go_wp2_with fail
        refine (Seen_any false A5 _ c5 _ ys _ rfl (Nat.le_refl _) HP5.out HSM5.out).mono ?_
        rintro e w5 ⟨sv5, rfl, hs5, hb⟩
        rw [HYS.out] at hs5
        have HB5 : Hid (Below w.heap.size w w5) := HBB.out.trans (hb.mono HBB.out.size)
        obtain ⟨Sn, hSn⟩ : ∃ Sn, Sn = seenH false (inter false (xs.map hd)) := ⟨_, rfl⟩
        have HSN := Lib.hid hSn
        have HSL : Hid (Sn.length ≤ ys.length) := by
          show _ ≤ _
          have h1 := seen_len2 false (inter false (xs.map hd))
          have h2 := congrArg List.length HYS.out
          rw [List.length_map] at h2
          rw [hSn]; omega
        have HSH : Hid (∀ h ∈ Sn, hidS h.1 = false) := by show ∀ _, _; rw [hSn]; exact seen_hid _ _
        have HYL : Hid (ys.length = 2 * xs.length) := by
          show _ = _
          have h2 := congrArg List.length HYS.out
          rw [List.length_map, inter_len, List.length_map] at h2
          exact h2
        rw [← hSn] at hs5
        have HS5 := Lib.hid hs5
        clear hb hs5 hSn HP5 HBB
        go_wp2_with fail
        refine (HNorm_any a0 _ c0 w.heap.size xs _ rfl HB5.out.size (HX0.out.below HB5.out) (by omega) HS0.out).mono ?_
        rintro e w6 ⟨nv, rfl, hn6, hb⟩
        have HB6 : Hid (Below w.heap.size w w6) := HB5.out.trans (hb.mono HB5.out.size)
        obtain ⟨A6, n6, c6, ss, rfl, hss0, hss, _, hp6⟩ := (HS5.out.below hb).row
        subst hss0
        obtain ⟨A7, n7, c7, zs, rfl, hzs0, hzs, _, hp7⟩ := hn6.row
        subst hzs0
        have HP6 := Lib.hid hp6
        have HP7 := Lib.hid hp7
        have HSS := Lib.hid hss
        have HZS := Lib.hid hzs
        have HZL : Hid (zs.length = xs.length) := by
          show _ = _
          have h2 := congrArg List.length hzs
          simpa [normL] using h2
        have HSL2 : Hid (ss.length = Sn.length) := by show _ = _; rw [← hss]; simp
        clear hb hn6 hp6 hp7 hss hzs HS5
        have hzl : zs.length ≤ 40 := by have := HZL.out; omega
        have hsl : ss.length ≤ ys.length := by have h1 := HSL.out; have h2 := HSL2.out; omega
        have hyl : ys.length ≤ 80 := by have := HYL.out; omega
        obtain ⟨P, hP⟩ : ∃ P : Hd → Bool, P = fun h => seesH false (shownH (inter false (xs.map hd))) h.1 := ⟨_, rfl⟩
        have HPO : Hid (∀ h ∈ xs.map hd, P (normH h) = !hidS (normH h).1) := by
          show ∀ _, _
          intro h hh
          rw [hP]
          exact sees_own false false (xs.map hd) HOA.out rfl h hh
        have HPS : Hid (Sn = (normL (inter false (xs.map hd))).filter P) := by show _ = _; rw [HSN.out, hP]; rfl
        clear hP
        go_wp2_with fail
        go_loopw [12, 13] (fun kv i wr => ∃ (k j q : Nat), j ≤ zs.length ∧ i = .int .i64 j ∧ k ≤ ss.length ∧ kv = .int .i64 k ∧ Pend Sn P false ((xs.map hd).drop j) k ∧ wr = w6.drewN q) (fun _ i _ => zs.length - (intOf i).toNat)
        case atStart => exact ⟨0, 0, 0, Nat.zero_le _, rfl, Nat.zero_le _, rfl, by rw [HPS.out]; exact pend_start P false (xs.map hd), rfl⟩
        case round =>
          obtain ⟨k, j, q, hj, rfl, hks, rfl, hpd, hw⟩ := hrel
          have HW := Lib.hid hw
          have HPD := Lib.hid hpd
          clear hw hpd
          by_cases hlt2 : j < zs.length
          · obtain ⟨az, hAz, _, hf1, hf2⟩ := HP7.out j zs[j] (List.getElem?_eq_getElem hlt2)
            have hjx : j < xs.length := by have := HZL.out; omega
            have HZE : Hid (hd zs[j] = normH (hd xs[j])) := by
              show _ = _
              have h := HZS.out
              have h1 : (zs.map hd)[j]? = (normL (xs.map hd))[j]? := by rw [h]
              unfold normL at h1
              rw [List.getElem?_map, List.getElem?_map, List.getElem?_map, List.getElem?_eq_getElem hlt2, List.getElem?_eq_getElem hjx] at h1
              simpa using h1
            have HDR : Hid ((xs.map hd).drop j = hd xs[j] :: (xs.map hd).drop (j + 1)) := by
              show _ = _
              rw [List.drop_eq_getElem_cons (by simpa using hjx)]; simp
            have HMM : Hid (hd xs[j] ∈ xs.map hd) := List.mem_map_of_mem (List.getElem_mem hjx)
            generalize zs[j] = z at *
            generalize hd xs[j] = h at *
            obtain ⟨z1, z2⟩ := z
            subst hAz
            have HHI : Hid (hidS (normH h).1 = ((z1.toList == [115, 101, 116, 45, 99, 111, 111, 107, 105, 101]) || (z1.toList == [115, 101, 116, 45, 99, 111, 111, 107, 105, 101, 50]))) := by
              show _ = _
              rw [← HZE.out, beq_l (t := z1) rfl, beq_l (t := z1) rfl]; rfl
            generalize hq1 : (z1.toList == [115, 101, 116, 45, 99, 111, 111, 107, 105, 101]) = q1 at *
            generalize hq2 : (z1.toList == [115, 101, 116, 45, 99, 111, 111, 107, 105, 101, 50]) = q2 at *
            have hg1 : wr.cell? (az.add (j * 2)) = some (.string z1) := by rw [HW.out]; exact hf1
            rw [HDR.out] at HPD
            cases q1
            case true =>
              go_wp2
              go_roundw
              case rel => exact ⟨k, j + 1, q, by omega, by go_num, hks, rfl, pend_hid HPD.out (by rw [HPO.out _ HMM.out, HHI.out]; rfl), HW.out⟩
              case measure => simp [intOf]; omega
            case false =>
            cases q2
            case true =>
              go_wp2
              go_roundw
              case rel => exact ⟨k, j + 1, q, by omega, by go_num, hks, rfl, pend_hid HPD.out (by rw [HPO.out _ HMM.out, HHI.out]; rfl), HW.out⟩
              case measure => simp [intOf]; omega
            case false =>
            have HPT : Hid (P (normH h) = true) := by show _ = _; rw [HPO.out _ HMM.out, HHI.out]; rfl
            have HNE : Hid ((z1.toList == [97, 99, 99, 101, 115, 115, 45, 99, 111, 110, 116, 114, 111, 108, 45, 101, 120, 112, 111, 115, 101, 45, 104, 101, 97, 100, 101, 114, 115]) = false) := by
              show _ = _
              rw [beq_l (t := z1) rfl, beq_eq_false_iff_ne]
              intro e
              exact own_ne (HOA.out h HMM.out) (by rw [← HZE.out]; exact e)
            rename World => W1
            go_wp2_with fail
            go_loopw [12] (fun kv wr => ∃ k q : Nat, k ≤ ss.length ∧ kv = .int .i64 k ∧ Pend Sn P false (h :: (xs.map hd).drop (j + 1)) k ∧ wr = w6.drewN q) (fun kv _ => ss.length - (intOf kv).toNat)
            case atStart => exact ⟨k, q, hks, rfl, HPD.out, HW.out⟩
            case round =>
              obtain ⟨k2, q2, hk2, rfl, hpd2, hw2⟩ := hrel
              obtain ⟨hkn, hcase⟩ := pend_look hpd2 HPT.out
              have hlt3 : k2 < ss.length := by have := HSL2.out; omega
              obtain ⟨ay, hAy, _, he1, he2⟩ := HP6.out k2 ss[k2] (List.getElem?_eq_getElem hlt3)
              have HYE : Hid (hd ss[k2] = Sn[k2]) := by
                show _ = _
                have h1 : (ss.map hd)[k2]? = Sn[k2]? := by rw [HSS.out]
                rw [List.getElem?_map, List.getElem?_eq_getElem hlt3, List.getElem?_eq_getElem hkn] at h1
                simpa using h1
              rw [← HYE.out] at hcase
              clear HYE
              generalize ss[k2] = y at *
              obtain ⟨y1, y2⟩ := y
              subst hAy
              have hk1 : wr.cell? (ay.add (k2 * 2)) = some (.string y1) := by rw [hw2]; exact he1
              have hk2' : wr.cell? ⟨(ay.add (k2 * 2)).block, (ay.add (k2 * 2)).off + 1, none⟩ = some (.string y2) := by rw [hw2]; exact he2
              have hl1 : wr.cell? (az.add (j * 2)) = some (.string z1) := by rw [hw2]; exact hf1
              have hl2 : wr.cell? ⟨(az.add (j * 2)).block, (az.add (j * 2)).off + 1, none⟩ = some (.string z2) := by rw [hw2]; exact hf2
              have HW2 := Lib.hid hw2
              clear hw2 he1 he2 hpd2 hkn
              have hki : ((k2 : Int) < (ss.length : Int)) := by omega
              have hji : ((j : Int) < (zs.length : Int)) := by omega
              rcases hcase with ⟨hn, hpd3⟩ | ⟨he, hpd3⟩
              · have HPD3 := Lib.hid hpd3
                have hn1 : (y1.toList == [97, 99, 99, 101, 115, 115, 45, 99, 111, 110, 116, 114, 111, 108, 45, 101, 120, 112, 111, 115, 101, 45, 104, 101, 97, 100, 101, 114, 115]) = true := by rw [beq_l (t := y1) rfl]; exact beq_iff_eq.2 hn
                have hn2 : (y1.toList == z1.toList) = false := by
                  rw [beq_eq_false_iff_ne]
                  intro e
                  rw [e] at hn1
                  rw [HNE.out] at hn1
                  cases hn1
                clear hn hpd3
                go_wp2_with fail
                go_quiet (fail)
                go_wp2
                go_roundw
                case rel => exact ⟨k2 + 1, _, by omega, by go_num, HPD3.out, by rw [HW2.out, World.drewN_drewN]⟩
                case measure => simp [intOf]; omega
              · have HPD3 := Lib.hid hpd3
                have he2 : hd (y1, y2) = hd (z1, z2) := by rw [he, HZE.out]
                obtain ⟨rfl, rfl⟩ : y1 = z1 ∧ y2 = z2 := by
                  have h1 := congrArg mkp he2
                  rw [mkp_hd, mkp_hd] at h1
                  injection h1 with h1 h2
                  exact ⟨h1, h2⟩
                have hn1 := HNE.out
                have hkq : ((k2 : Int) == (ss.length : Int)) = false := by rw [beq_eq_false_iff_ne]; omega
                clear he he2 hpd3
                go_wp2_with fail
                go_quiet (fail)
                go_wp2_with fail
                go_quiet (fail)
                go_wp2
                go_roundw
                case rel => exact ⟨k2 + 1, j + 1, _, by omega, by go_num, by omega, by go_num, HPD3.out, by rw [HW2.out, World.drewN_drewN]⟩
                case measure => simp [intOf]; omega
          · obtain rfl : j = zs.length := by omega
            clear HPD
            go_wp2_with fail
            go_loopw [14] (fun i wr => ∃ m : Nat, m ≤ ss.length ∧ i = .int .i64 m ∧ wr = w6.drewN q) (fun i _ => ss.length - (intOf i).toNat)
            case atStart => exact ⟨0, Nat.zero_le _, rfl, HW.out⟩
            case round =>
              obtain ⟨m, hm, rfl, hw⟩ := hrel
              have HWW := Lib.hid hw
              clear hw
              by_cases hlt3 : m < ss.length
              · obtain ⟨a9, hA9, _, hd1, hd2⟩ := HP6.out m ss[m] (List.getElem?_eq_getElem hlt3)
                have HHS : Hid (hidS ss[m].1.data.toList = false) := by
                  have hm2 : hd ss[m] ∈ Sn := by rw [← HSS.out]; exact List.mem_map_of_mem (List.getElem_mem hlt3)
                  exact HSH.out _ hm2
                generalize ss[m] = y at *
                obtain ⟨y1, y2⟩ := y
                subst hA9
                have hr1 := beq_l (t := y1) rfl cookL
                have hr2 := beq_l (t := y1) rfl cook2L
                have hr3 := HHS.out
                unfold hidS at hr3
                rw [← hr1, ← hr2] at hr3
                unfold cookL cook2L at hr3
                obtain ⟨hq1, hq2⟩ := Bool.or_eq_false_iff.1 hr3
                clear hr1 hr2 hr3
                have he1 : wr.cell? (a9.add (m * 2)) = some (.string y1) := by rw [HWW.out]; exact hd1
                clear hd1 hd2
                go_wp2
                go_roundw
                case rel => exact ⟨m + 1, by omega, by go_num, HWW.out⟩
                case measure => simp [intOf]; omega
              · obtain rfl : m = ss.length := by omega
                have hle : decide ((ss.length : Int) ≤ (ys.length : Int)) = true := by simpa using hsl
                have HBW : Hid (Below w.heap.size w wr) := by show Below _ _ _; rw [HWW.out]; exact below_drewN HB6.out q
                go_wp2_with fail
                refine (awake15_any _).mono ?_
                rintro e w9 ⟨rfl, hb⟩
                have HBZ : Hid (Below w.heap.size w w9) := HBW.out.trans (hb.mono HBW.out.size)
                clear hb
                go_wp2
                go_ret
                exact ⟨rfl, HBZ.out⟩
  case false.true =>
    go_enter Try.func5, Try.ntmps5
    go_wp2_with fail
    refine (Great_any a0 _ c0 w.heap.size xs _ rfl HX0.out HL0.out (fun x hx => HS0.out x hx)).mono ?_
    rintro e w' ⟨rfl, rfl⟩
    rw [show (decide (40 < xs.length) || greatGo 0 xs) = false from HG.out]
    go_wp2_with fail
    go_loopw [7, 8] (fun v i wr => ∃ (k : Nat) (dl : List Hd), k ≤ xs.length ∧ i = .int .i64 k ∧ dl = inter false ((xs.take k).map hd) ∧ dl.length = 2 * k ∧ (∀ h ∈ (xs.take k).map hd, OkN h) ∧ HdRow wr w.heap.size v dl ∧ Below w.heap.size w wr) (fun _ i _ => xs.length - (intOf i).toNat)
    case atStart => exact ⟨0, [], Nat.zero_le _, rfl, rfl, rfl, by simp, HdRow.nil _ _, Below.refl _ _⟩
    case round =>
      obtain ⟨k, dl, hk, rfl, hdl, hdn, hok, hr, hb⟩ := hrel
      have HDL := Lib.hid hdl
      have HDN := Lib.hid hdn
      have HOK := Lib.hid hok
      have HRR := Lib.hid hr
      have HBB := Lib.hid hb
      clear hdl hdn hok hr hb
      by_cases hlt : k < xs.length
      · obtain ⟨ad, hA, _, hc1, hc2⟩ := HX0.out k xs[k] (List.getElem?_eq_getElem hlt)
        have HZ := Lib.hid (HS0.out xs[k] (List.getElem_mem hlt))
        have HTK := Lib.hid (take_hd (List.take_succ_eq_append_getElem hlt))
        generalize xs[k] = x at *
        obtain ⟨x1, x2⟩ := x
        subst hA
        have HCX : Hid (∀ W, Below w.heap.size w W → W.cell? (ad.add (k * 2)) = some (.string x1) ∧ W.cell? ⟨(ad.add (k * 2)).block, (ad.add (k * 2)).off + 1, none⟩ = some (.string x2)) := fun W h =>
          ⟨(h.cell (World.block_lt_of_cell? w _ hc1)).trans hc1, (h.cell (World.block_lt_of_cell? w _ hc2)).trans hc2⟩
        clear hc1 hc2
        obtain ⟨tk, htk⟩ : ∃ tk, Lk.tokL x1.data.toList = tk := ⟨_, rfl⟩
        obtain ⟨ff, hff⟩ : ∃ ff, Lk.foldL x1.data.toList expN = ff := ⟨_, rfl⟩
        have HT := Lib.hid htk
        have HF := Lib.hid hff
        clear htk hff
        obtain ⟨hc1, hc2⟩ := HCX.out wr HBB.out
        go_wp2_with fail
        refine (Token_any x1 _ HZ.out.1).mono ?_
        rintro e w' ⟨rfl, rfl⟩
        rw [HT.out]
        cases tk
        case false =>
          go_wp2_with fail
          refine (awake15_any _).mono ?_
          rintro e w9 ⟨rfl, hb⟩
          have HBZ : Hid (Below w.heap.size w w9) := HBB.out.trans (hb.mono HBB.out.size)
          clear hb
          go_wp2
          go_ret
          exact ⟨rfl, HBZ.out⟩
        case true =>
        go_wp2_with fail
        refine (Fold_any x1 _ _ HZ.out.1 (by unfold maxLen; decide)).mono ?_
        rintro e w2 ⟨rfl, q2, hw2⟩
        rw [show (ByteArray.mk #[97, 99, 99, 101, 115, 115, 45, 99, 111, 110, 116, 114, 111, 108, 45, 101, 120, 112, 111, 115, 101, 45, 104, 101, 97, 100, 101, 114, 115]).data.toList = expN from rfl, HF.out]
        have HB2 : Hid (Below w.heap.size w w2) := by show Below _ _ _; rw [hw2]; exact below_drewN HBB.out q2
        have HR2 : Hid (HdRow w2 w.heap.size u7 dl) := by show World.ownsRow _ _ _ _ _ _ _; rw [hw2]; exact HRR.out
        clear hw2 hc1 hc2
        obtain ⟨hc1, hc2⟩ := HCX.out w2 HB2.out
        cases ff
        case true =>
          go_wp2_with fail
          refine (awake15_any _).mono ?_
          rintro e w9 ⟨rfl, hb⟩
          have HBZ : Hid (Below w.heap.size w w9) := HB2.out.trans (hb.mono HB2.out.size)
          clear hb
          go_wp2
          go_ret
          exact ⟨rfl, HBZ.out⟩
        case false =>
        go_wp2_with (at_builtin; refine wpList_append_own _ rfl (.tmp 40) (.tmp 45) 22 rfl w.heap.size 35 i0 (.agg #[.string ⟨#[]⟩, .string ⟨#[]⟩]) 2 32 Try.underlying22 hi hz0 hz1 hz2 rfl (by decide) _ _ _ rfl (World.ownsRow.alloc (w := w2) HR2.out _) ⟨w2.heap.size, 0, none⟩ 1 1 [.string x1, .string x2] rfl rfl ?c1 ?c2 ?c3 ?c4 ?c5 ?_)
        case c1 => exact cells_two_new _ _ _ _
        case c2 => intro u hu; simp at hu; rcases hu with rfl | rfl <;> rfl
        case c3 => have := HDN.out; unfold maxLen; omega
        case c4 => have := HDN.out; omega
        case c5 => have := HB2.out.size; simp; omega
        intro v3 w3 hown hgrow _
        have HR3 : Hid (HdRow w3 w.heap.size v3 (dl ++ [hd (x1, x2)])) := HdRow.more hown
        have HB3 : Hid (Below w.heap.size w w3) := (HB2.out.alloc HB2.out.size _).grown hgrow (by have := HB2.out.size; simp; omega) (fun b hb => (World.ownsRow.lt HR2.out b hb).1)
        have HDM : Hid ((dl ++ [hd (x1, x2)]).length = 2 * k + 1) := by show _ = _; rw [List.length_append, HDN.out]; rfl
        clear hown hgrow hc1 hc2
        obtain ⟨hc1, hc2⟩ := HCX.out w3 HB3.out
        obtain ⟨dm, hdm⟩ : ∃ dm, dm = dl ++ [hd (x1, x2)] := ⟨_, rfl⟩
        rw [← hdm] at HR3 HDM
        have HDMM := Lib.hid hdm
        clear hdm
        go_wp2_with (at_builtin; refine wpList_append_own _ rfl (.tmp 53) (.tmp 56) 22 rfl w.heap.size 35 i0 (.agg #[.string ⟨#[]⟩, .string ⟨#[]⟩]) 2 32 Try.underlying22 hi hz0 hz1 hz2 rfl (by decide) _ _ _ rfl (World.ownsRow.alloc (w := w3) HR3.out _) ⟨w3.heap.size, 0, none⟩ 1 1 [.string ⟨#[65, 99, 99, 101, 115, 115, 45, 67, 111, 110, 116, 114, 111, 108, 45, 69, 120, 112, 111, 115, 101, 45, 72, 101, 97, 100, 101, 114, 115]⟩, .string x1] rfl rfl ?d1 ?d2 ?d3 ?d4 ?d5 ?_)
        case d1 => exact cells_two_new _ _ _ _
        case d2 => intro u hu; simp at hu; rcases hu with rfl | rfl <;> rfl
        case d3 => have := HDM.out; unfold maxLen; omega
        case d4 => have := HDM.out; omega
        case d5 => have := HB3.out.size; simp; omega
        intro v4 w4 hown hgrow _
        have HR4 : Hid (HdRow w4 w.heap.size v4 (dm ++ [(expC, valE false (hd (x1, x2)))])) := HdRow.more hown
        have HB4 : Hid (Below w.heap.size w w4) := (HB3.out.alloc HB3.out.size _).grown hgrow (by have := HB3.out.size; simp; omega) (fun b hb => (World.ownsRow.lt HR3.out b hb).1)
        clear hown hgrow hc1 hc2
        go_wp2
        go_roundw
        case rel =>
          refine ⟨k + 1, _, by omega, by go_num, ?_, ?_, ?_, HR4.out, HB4.out⟩
          · rw [HTK.out, inter_snoc, ← HDL.out, HDMM.out]
          · rw [List.length_append, HDM.out]; simp; omega
          · intro h hh
            rw [HTK.out] at hh
            rcases List.mem_append.1 hh with hh | hh
            · exact HOK.out h hh
            · obtain rfl : h = hd (x1, x2) := by simpa using hh
              exact ⟨HT.out, HF.out⟩
        case measure => simp [intOf]; omega
      · obtain rfl : k = xs.length := by omega
        have HOA : Hid (∀ h ∈ xs.map hd, OkN h) := by
          show ∀ _, _
          have h := HOK.out
          rwa [List.take_length] at h
        have HDA : Hid (dl = inter false (xs.map hd)) := by
          show _ = _
          have h := HDL.out
          rwa [List.take_length] at h
        obtain ⟨A5, n5, c5, ys, rfl, hn5, hys, _, hp5⟩ := HRR.out.row
        subst hn5
        rw [HDA.out] at hys
        have HP5 := Lib.hid hp5
        have HYS := Lib.hid hys
        have HSM5 : Hid (Sm (ys.map hd)) := by show Sm _; rw [hys]; exact inter_sm (by simpa using hl40) (fun h hh => HD.out.2 h hh)
        clear hp5 hys HDL HOK HRR HDN
        go_wp2_with fail
        refine (Seen_any true A5 _ c5 _ ys _ rfl (Nat.le_refl _) HP5.out HSM5.out).mono ?_
        rintro e w5 ⟨sv5, rfl, hs5, hb⟩
        rw [HYS.out] at hs5
        have HB5 : Hid (Below w.heap.size w w5) := HBB.out.trans (hb.mono HBB.out.size)
        obtain ⟨Sn, hSn⟩ : ∃ Sn, Sn = seenH true (inter false (xs.map hd)) := ⟨_, rfl⟩
        have HSN := Lib.hid hSn
        have HSL : Hid (Sn.length ≤ ys.length) := by
          show _ ≤ _
          have h1 := seen_len2 true (inter false (xs.map hd))
          have h2 := congrArg List.length HYS.out
          rw [List.length_map] at h2
          rw [hSn]; omega
        have HSH : Hid (∀ h ∈ Sn, hidS h.1 = false) := by show ∀ _, _; rw [hSn]; exact seen_hid _ _
        have HYL : Hid (ys.length = 2 * xs.length) := by
          show _ = _
          have h2 := congrArg List.length HYS.out
          rw [List.length_map, inter_len, List.length_map] at h2
          exact h2
        rw [← hSn] at hs5
        have HS5 := Lib.hid hs5
        clear hb hs5 hSn HP5 HBB
        go_wp2_with fail
        refine (HNorm_any a0 _ c0 w.heap.size xs _ rfl HB5.out.size (HX0.out.below HB5.out) (by omega) HS0.out).mono ?_
        rintro e w6 ⟨nv, rfl, hn6, hb⟩
        have HB6 : Hid (Below w.heap.size w w6) := HB5.out.trans (hb.mono HB5.out.size)
        obtain ⟨A6, n6, c6, ss, rfl, hss0, hss, _, hp6⟩ := (HS5.out.below hb).row
        subst hss0
        obtain ⟨A7, n7, c7, zs, rfl, hzs0, hzs, _, hp7⟩ := hn6.row
        subst hzs0
        have HP6 := Lib.hid hp6
        have HP7 := Lib.hid hp7
        have HSS := Lib.hid hss
        have HZS := Lib.hid hzs
        have HZL : Hid (zs.length = xs.length) := by
          show _ = _
          have h2 := congrArg List.length hzs
          simpa [normL] using h2
        have HSL2 : Hid (ss.length = Sn.length) := by show _ = _; rw [← hss]; simp
        clear hb hn6 hp6 hp7 hss hzs HS5
        have hzl : zs.length ≤ 40 := by have := HZL.out; omega
        have hsl : ss.length ≤ ys.length := by have h1 := HSL.out; have h2 := HSL2.out; omega
        have hyl : ys.length ≤ 80 := by have := HYL.out; omega
        obtain ⟨P, hP⟩ : ∃ P : Hd → Bool, P = fun h => seesH true (shownH (inter false (xs.map hd))) h.1 := ⟨_, rfl⟩
        have HPO : Hid (∀ h ∈ xs.map hd, P (normH h) = !hidS (normH h).1) := by
          show ∀ _, _
          intro h hh
          rw [hP]
          exact sees_own false true (xs.map hd) HOA.out rfl h hh
        have HPS : Hid (Sn = (normL (inter false (xs.map hd))).filter P) := by show _ = _; rw [HSN.out, hP]; rfl
        clear hP
        go_wp2_with fail
        go_loopw [12, 13] (fun kv i wr => ∃ (k j q : Nat), j ≤ zs.length ∧ i = .int .i64 j ∧ k ≤ ss.length ∧ kv = .int .i64 k ∧ Pend Sn P false ((xs.map hd).drop j) k ∧ wr = w6.drewN q) (fun _ i _ => zs.length - (intOf i).toNat)
        case atStart => exact ⟨0, 0, 0, Nat.zero_le _, rfl, Nat.zero_le _, rfl, by rw [HPS.out]; exact pend_start P false (xs.map hd), rfl⟩
        case round =>
          obtain ⟨k, j, q, hj, rfl, hks, rfl, hpd, hw⟩ := hrel
          have HW := Lib.hid hw
          have HPD := Lib.hid hpd
          clear hw hpd
          by_cases hlt2 : j < zs.length
          · obtain ⟨az, hAz, _, hf1, hf2⟩ := HP7.out j zs[j] (List.getElem?_eq_getElem hlt2)
            have hjx : j < xs.length := by have := HZL.out; omega
            have HZE : Hid (hd zs[j] = normH (hd xs[j])) := by
              show _ = _
              have h := HZS.out
              have h1 : (zs.map hd)[j]? = (normL (xs.map hd))[j]? := by rw [h]
              unfold normL at h1
              rw [List.getElem?_map, List.getElem?_map, List.getElem?_map, List.getElem?_eq_getElem hlt2, List.getElem?_eq_getElem hjx] at h1
              simpa using h1
            have HDR : Hid ((xs.map hd).drop j = hd xs[j] :: (xs.map hd).drop (j + 1)) := by
              show _ = _
              rw [List.drop_eq_getElem_cons (by simpa using hjx)]; simp
            have HMM : Hid (hd xs[j] ∈ xs.map hd) := List.mem_map_of_mem (List.getElem_mem hjx)
            generalize zs[j] = z at *
            generalize hd xs[j] = h at *
            obtain ⟨z1, z2⟩ := z
            subst hAz
            have HHI : Hid (hidS (normH h).1 = ((z1.toList == [115, 101, 116, 45, 99, 111, 111, 107, 105, 101]) || (z1.toList == [115, 101, 116, 45, 99, 111, 111, 107, 105, 101, 50]))) := by
              show _ = _
              rw [← HZE.out, beq_l (t := z1) rfl, beq_l (t := z1) rfl]; rfl
            generalize hq1 : (z1.toList == [115, 101, 116, 45, 99, 111, 111, 107, 105, 101]) = q1 at *
            generalize hq2 : (z1.toList == [115, 101, 116, 45, 99, 111, 111, 107, 105, 101, 50]) = q2 at *
            have hg1 : wr.cell? (az.add (j * 2)) = some (.string z1) := by rw [HW.out]; exact hf1
            rw [HDR.out] at HPD
            cases q1
            case true =>
              go_wp2
              go_roundw
              case rel => exact ⟨k, j + 1, q, by omega, by go_num, hks, rfl, pend_hid HPD.out (by rw [HPO.out _ HMM.out, HHI.out]; rfl), HW.out⟩
              case measure => simp [intOf]; omega
            case false =>
            cases q2
            case true =>
              go_wp2
              go_roundw
              case rel => exact ⟨k, j + 1, q, by omega, by go_num, hks, rfl, pend_hid HPD.out (by rw [HPO.out _ HMM.out, HHI.out]; rfl), HW.out⟩
              case measure => simp [intOf]; omega
            case false =>
            have HPT : Hid (P (normH h) = true) := by show _ = _; rw [HPO.out _ HMM.out, HHI.out]; rfl
            have HNE : Hid ((z1.toList == [97, 99, 99, 101, 115, 115, 45, 99, 111, 110, 116, 114, 111, 108, 45, 101, 120, 112, 111, 115, 101, 45, 104, 101, 97, 100, 101, 114, 115]) = false) := by
              show _ = _
              rw [beq_l (t := z1) rfl, beq_eq_false_iff_ne]
              intro e
              exact own_ne (HOA.out h HMM.out) (by rw [← HZE.out]; exact e)
            rename World => W1
            go_wp2_with fail
            go_loopw [12] (fun kv wr => ∃ k q : Nat, k ≤ ss.length ∧ kv = .int .i64 k ∧ Pend Sn P false (h :: (xs.map hd).drop (j + 1)) k ∧ wr = w6.drewN q) (fun kv _ => ss.length - (intOf kv).toNat)
            case atStart => exact ⟨k, q, hks, rfl, HPD.out, HW.out⟩
            case round =>
              obtain ⟨k2, q2, hk2, rfl, hpd2, hw2⟩ := hrel
              obtain ⟨hkn, hcase⟩ := pend_look hpd2 HPT.out
              have hlt3 : k2 < ss.length := by have := HSL2.out; omega
              obtain ⟨ay, hAy, _, he1, he2⟩ := HP6.out k2 ss[k2] (List.getElem?_eq_getElem hlt3)
              have HYE : Hid (hd ss[k2] = Sn[k2]) := by
                show _ = _
                have h1 : (ss.map hd)[k2]? = Sn[k2]? := by rw [HSS.out]
                rw [List.getElem?_map, List.getElem?_eq_getElem hlt3, List.getElem?_eq_getElem hkn] at h1
                simpa using h1
              rw [← HYE.out] at hcase
              clear HYE
              generalize ss[k2] = y at *
              obtain ⟨y1, y2⟩ := y
              subst hAy
              have hk1 : wr.cell? (ay.add (k2 * 2)) = some (.string y1) := by rw [hw2]; exact he1
              have hk2' : wr.cell? ⟨(ay.add (k2 * 2)).block, (ay.add (k2 * 2)).off + 1, none⟩ = some (.string y2) := by rw [hw2]; exact he2
              have hl1 : wr.cell? (az.add (j * 2)) = some (.string z1) := by rw [hw2]; exact hf1
              have hl2 : wr.cell? ⟨(az.add (j * 2)).block, (az.add (j * 2)).off + 1, none⟩ = some (.string z2) := by rw [hw2]; exact hf2
              have HW2 := Lib.hid hw2
              clear hw2 he1 he2 hpd2 hkn
              have hki : ((k2 : Int) < (ss.length : Int)) := by omega
              have hji : ((j : Int) < (zs.length : Int)) := by omega
              rcases hcase with ⟨hn, hpd3⟩ | ⟨he, hpd3⟩
              · have HPD3 := Lib.hid hpd3
                have hn1 : (y1.toList == [97, 99, 99, 101, 115, 115, 45, 99, 111, 110, 116, 114, 111, 108, 45, 101, 120, 112, 111, 115, 101, 45, 104, 101, 97, 100, 101, 114, 115]) = true := by rw [beq_l (t := y1) rfl]; exact beq_iff_eq.2 hn
                have hn2 : (y1.toList == z1.toList) = false := by
                  rw [beq_eq_false_iff_ne]
                  intro e
                  rw [e] at hn1
                  rw [HNE.out] at hn1
                  cases hn1
                clear hn hpd3
                go_wp2_with fail
                go_quiet (fail)
                go_wp2
                go_roundw
                case rel => exact ⟨k2 + 1, _, by omega, by go_num, HPD3.out, by rw [HW2.out, World.drewN_drewN]⟩
                case measure => simp [intOf]; omega
              · have HPD3 := Lib.hid hpd3
                have he2 : hd (y1, y2) = hd (z1, z2) := by rw [he, HZE.out]
                obtain ⟨rfl, rfl⟩ : y1 = z1 ∧ y2 = z2 := by
                  have h1 := congrArg mkp he2
                  rw [mkp_hd, mkp_hd] at h1
                  injection h1 with h1 h2
                  exact ⟨h1, h2⟩
                have hn1 := HNE.out
                have hkq : ((k2 : Int) == (ss.length : Int)) = false := by rw [beq_eq_false_iff_ne]; omega
                clear he he2 hpd3
                go_wp2_with fail
                go_quiet (fail)
                go_wp2_with fail
                go_quiet (fail)
                go_wp2
                go_roundw
                case rel => exact ⟨k2 + 1, j + 1, _, by omega, by go_num, by omega, by go_num, HPD3.out, by rw [HW2.out, World.drewN_drewN]⟩
                case measure => simp [intOf]; omega
          · obtain rfl : j = zs.length := by omega
            clear HPD
            go_wp2_with fail
            go_loopw [14] (fun i wr => ∃ m : Nat, m ≤ ss.length ∧ i = .int .i64 m ∧ wr = w6.drewN q) (fun i _ => ss.length - (intOf i).toNat)
            case atStart => exact ⟨0, Nat.zero_le _, rfl, HW.out⟩
            case round =>
              obtain ⟨m, hm, rfl, hw⟩ := hrel
              have HWW := Lib.hid hw
              clear hw
              by_cases hlt3 : m < ss.length
              · obtain ⟨a9, hA9, _, hd1, hd2⟩ := HP6.out m ss[m] (List.getElem?_eq_getElem hlt3)
                have HHS : Hid (hidS ss[m].1.data.toList = false) := by
                  have hm2 : hd ss[m] ∈ Sn := by rw [← HSS.out]; exact List.mem_map_of_mem (List.getElem_mem hlt3)
                  exact HSH.out _ hm2
                generalize ss[m] = y at *
                obtain ⟨y1, y2⟩ := y
                subst hA9
                have hr1 := beq_l (t := y1) rfl cookL
                have hr2 := beq_l (t := y1) rfl cook2L
                have hr3 := HHS.out
                unfold hidS at hr3
                rw [← hr1, ← hr2] at hr3
                unfold cookL cook2L at hr3
                obtain ⟨hq1, hq2⟩ := Bool.or_eq_false_iff.1 hr3
                clear hr1 hr2 hr3
                have he1 : wr.cell? (a9.add (m * 2)) = some (.string y1) := by rw [HWW.out]; exact hd1
                clear hd1 hd2
                go_wp2
                go_roundw
                case rel => exact ⟨m + 1, by omega, by go_num, HWW.out⟩
                case measure => simp [intOf]; omega
              · obtain rfl : m = ss.length := by omega
                have hle : decide ((ss.length : Int) ≤ (ys.length : Int)) = true := by simpa using hsl
                have HBW : Hid (Below w.heap.size w wr) := by show Below _ _ _; rw [HWW.out]; exact below_drewN HB6.out q
                go_wp2_with fail
                refine (awake15_any _).mono ?_
                rintro e w9 ⟨rfl, hb⟩
                have HBZ : Hid (Below w.heap.size w w9) := HBW.out.trans (hb.mono HBW.out.size)
                clear hb
                go_wp2
                go_ret
                exact ⟨rfl, HBZ.out⟩
  case true.false =>
    go_enter Try.func5, Try.ntmps5
    go_wp2_with fail
    refine (Great_any a0 _ c0 w.heap.size xs _ rfl HX0.out HL0.out (fun x hx => HS0.out x hx)).mono ?_
    rintro e w' ⟨rfl, rfl⟩
    rw [show (decide (40 < xs.length) || greatGo 0 xs) = false from HG.out]
    go_wp2_with fail
    go_loopw [7, 8] (fun v i wr => ∃ (k : Nat) (dl : List Hd), k ≤ xs.length ∧ i = .int .i64 k ∧ dl = inter true ((xs.take k).map hd) ∧ dl.length = 2 * k ∧ (∀ h ∈ (xs.take k).map hd, OkN h) ∧ HdRow wr w.heap.size v dl ∧ Below w.heap.size w wr) (fun _ i _ => xs.length - (intOf i).toNat)
    case atStart => exact ⟨0, [], Nat.zero_le _, rfl, rfl, rfl, by simp, HdRow.nil _ _, Below.refl _ _⟩
    case round =>
      obtain ⟨k, dl, hk, rfl, hdl, hdn, hok, hr, hb⟩ := hrel
      have HDL := Lib.hid hdl
      have HDN := Lib.hid hdn
      have HOK := Lib.hid hok
      have HRR := Lib.hid hr
      have HBB := Lib.hid hb
      clear hdl hdn hok hr hb
      by_cases hlt : k < xs.length
      · obtain ⟨ad, hA, _, hc1, hc2⟩ := HX0.out k xs[k] (List.getElem?_eq_getElem hlt)
        have HZ := Lib.hid (HS0.out xs[k] (List.getElem_mem hlt))
        have HTK := Lib.hid (take_hd (List.take_succ_eq_append_getElem hlt))
        generalize xs[k] = x at *
        obtain ⟨x1, x2⟩ := x
        subst hA
        have HCX : Hid (∀ W, Below w.heap.size w W → W.cell? (ad.add (k * 2)) = some (.string x1) ∧ W.cell? ⟨(ad.add (k * 2)).block, (ad.add (k * 2)).off + 1, none⟩ = some (.string x2)) := fun W h =>
          ⟨(h.cell (World.block_lt_of_cell? w _ hc1)).trans hc1, (h.cell (World.block_lt_of_cell? w _ hc2)).trans hc2⟩
        clear hc1 hc2
        obtain ⟨tk, htk⟩ : ∃ tk, Lk.tokL x1.data.toList = tk := ⟨_, rfl⟩
        obtain ⟨ff, hff⟩ : ∃ ff, Lk.foldL x1.data.toList expN = ff := ⟨_, rfl⟩
        have HT := Lib.hid htk
        have HF := Lib.hid hff
        clear htk hff
        obtain ⟨hc1, hc2⟩ := HCX.out wr HBB.out
        go_wp2_with fail
        refine (Token_any x1 _ HZ.out.1).mono ?_
        rintro e w' ⟨rfl, rfl⟩
        rw [HT.out]
        cases tk
        case false =>
          go_wp2_with fail
          refine (awake15_any _).mono ?_
          rintro e w9 ⟨rfl, hb⟩
          have HBZ : Hid (Below w.heap.size w w9) := HBB.out.trans (hb.mono HBB.out.size)
          clear hb
          go_wp2
          go_ret
          exact ⟨rfl, HBZ.out⟩
        case true =>
        go_wp2_with fail
        refine (Fold_any x1 _ _ HZ.out.1 (by unfold maxLen; decide)).mono ?_
        rintro e w2 ⟨rfl, q2, hw2⟩
        rw [show (ByteArray.mk #[97, 99, 99, 101, 115, 115, 45, 99, 111, 110, 116, 114, 111, 108, 45, 101, 120, 112, 111, 115, 101, 45, 104, 101, 97, 100, 101, 114, 115]).data.toList = expN from rfl, HF.out]
        have HB2 : Hid (Below w.heap.size w w2) := by show Below _ _ _; rw [hw2]; exact below_drewN HBB.out q2
        have HR2 : Hid (HdRow w2 w.heap.size u7 dl) := by show World.ownsRow _ _ _ _ _ _ _; rw [hw2]; exact HRR.out
        clear hw2 hc1 hc2
        obtain ⟨hc1, hc2⟩ := HCX.out w2 HB2.out
        cases ff
        case true =>
          go_wp2_with fail
          refine (awake15_any _).mono ?_
          rintro e w9 ⟨rfl, hb⟩
          have HBZ : Hid (Below w.heap.size w w9) := HB2.out.trans (hb.mono HB2.out.size)
          clear hb
          go_wp2
          go_ret
          exact ⟨rfl, HBZ.out⟩
        case false =>
        go_wp2_with (at_builtin; refine wpList_append_own _ rfl (.tmp 40) (.tmp 45) 22 rfl w.heap.size 35 i0 (.agg #[.string ⟨#[]⟩, .string ⟨#[]⟩]) 2 32 Try.underlying22 hi hz0 hz1 hz2 rfl (by decide) _ _ _ rfl (World.ownsRow.alloc (w := w2) HR2.out _) ⟨w2.heap.size, 0, none⟩ 1 1 [.string x1, .string x2] rfl rfl ?c1 ?c2 ?c3 ?c4 ?c5 ?_)
        case c1 => exact cells_two_new _ _ _ _
        case c2 => intro u hu; simp at hu; rcases hu with rfl | rfl <;> rfl
        case c3 => have := HDN.out; unfold maxLen; omega
        case c4 => have := HDN.out; omega
        case c5 => have := HB2.out.size; simp; omega
        intro v3 w3 hown hgrow _
        have HR3 : Hid (HdRow w3 w.heap.size v3 (dl ++ [hd (x1, x2)])) := HdRow.more hown
        have HB3 : Hid (Below w.heap.size w w3) := (HB2.out.alloc HB2.out.size _).grown hgrow (by have := HB2.out.size; simp; omega) (fun b hb => (World.ownsRow.lt HR2.out b hb).1)
        have HDM : Hid ((dl ++ [hd (x1, x2)]).length = 2 * k + 1) := by show _ = _; rw [List.length_append, HDN.out]; rfl
        clear hown hgrow hc1 hc2
        obtain ⟨hc1, hc2⟩ := HCX.out w3 HB3.out
        obtain ⟨dm, hdm⟩ : ∃ dm, dm = dl ++ [hd (x1, x2)] := ⟨_, rfl⟩
        rw [← hdm] at HR3 HDM
        have HDMM := Lib.hid hdm
        clear hdm
        go_wp2_with (at_builtin; refine wpList_append_own _ rfl (.tmp 53) (.tmp 56) 22 rfl w.heap.size 35 i0 (.agg #[.string ⟨#[]⟩, .string ⟨#[]⟩]) 2 32 Try.underlying22 hi hz0 hz1 hz2 rfl (by decide) _ _ _ rfl (World.ownsRow.alloc (w := w3) HR3.out _) ⟨w3.heap.size, 0, none⟩ 1 1 [.string ⟨#[65, 99, 99, 101, 115, 115, 45, 67, 111, 110, 116, 114, 111, 108, 45, 69, 120, 112, 111, 115, 101, 45, 72, 101, 97, 100, 101, 114, 115]⟩, .string ⟨#[42]⟩] rfl rfl ?d1 ?d2 ?d3 ?d4 ?d5 ?_)
        case d1 => exact cells_two_new _ _ _ _
        case d2 => intro u hu; simp at hu; rcases hu with rfl | rfl <;> rfl
        case d3 => have := HDM.out; unfold maxLen; omega
        case d4 => have := HDM.out; omega
        case d5 => have := HB3.out.size; simp; omega
        intro v4 w4 hown hgrow _
        have HR4 : Hid (HdRow w4 w.heap.size v4 (dm ++ [(expC, valE true (hd (x1, x2)))])) := HdRow.more hown
        have HB4 : Hid (Below w.heap.size w w4) := (HB3.out.alloc HB3.out.size _).grown hgrow (by have := HB3.out.size; simp; omega) (fun b hb => (World.ownsRow.lt HR3.out b hb).1)
        clear hown hgrow hc1 hc2
        go_wp2
        go_roundw
        case rel =>
          refine ⟨k + 1, _, by omega, by go_num, ?_, ?_, ?_, HR4.out, HB4.out⟩
          · rw [HTK.out, inter_snoc, ← HDL.out, HDMM.out]
          · rw [List.length_append, HDM.out]; simp; omega
          · intro h hh
            rw [HTK.out] at hh
            rcases List.mem_append.1 hh with hh | hh
            · exact HOK.out h hh
            · obtain rfl : h = hd (x1, x2) := by simpa using hh
              exact ⟨HT.out, HF.out⟩
        case measure => simp [intOf]; omega
      · obtain rfl : k = xs.length := by omega
        have HOA : Hid (∀ h ∈ xs.map hd, OkN h) := by
          show ∀ _, _
          have h := HOK.out
          rwa [List.take_length] at h
        have HDA : Hid (dl = inter true (xs.map hd)) := by
          show _ = _
          have h := HDL.out
          rwa [List.take_length] at h
        obtain ⟨A5, n5, c5, ys, rfl, hn5, hys, _, hp5⟩ := HRR.out.row
        subst hn5
        rw [HDA.out] at hys
        have HP5 := Lib.hid hp5
        have HYS := Lib.hid hys
        have HSM5 : Hid (Sm (ys.map hd)) := by show Sm _; rw [hys]; exact inter_sm (by simpa using hl40) (fun h hh => HD.out.2 h hh)
        clear hp5 hys HDL HOK HRR HDN
        go_wp2_with fail
        refine (Seen_any false A5 _ c5 _ ys _ rfl (Nat.le_refl _) HP5.out HSM5.out).mono ?_
        rintro e w5 ⟨sv5, rfl, hs5, hb⟩
        rw [HYS.out] at hs5
        have HB5 : Hid (Below w.heap.size w w5) := HBB.out.trans (hb.mono HBB.out.size)
        obtain ⟨Sn, hSn⟩ : ∃ Sn, Sn = seenH false (inter true (xs.map hd)) := ⟨_, rfl⟩
        have HSN := Lib.hid hSn
        have HSL : Hid (Sn.length ≤ ys.length) := by
          show _ ≤ _
          have h1 := seen_len2 false (inter true (xs.map hd))
          have h2 := congrArg List.length HYS.out
          rw [List.length_map] at h2
          rw [hSn]; omega
        have HSH : Hid (∀ h ∈ Sn, hidS h.1 = false) := by show ∀ _, _; rw [hSn]; exact seen_hid _ _
        have HYL : Hid (ys.length = 2 * xs.length) := by
          show _ = _
          have h2 := congrArg List.length HYS.out
          rw [List.length_map, inter_len, List.length_map] at h2
          exact h2
        rw [← hSn] at hs5
        have HS5 := Lib.hid hs5
        clear hb hs5 hSn HP5 HBB
        go_wp2_with fail
        refine (HNorm_any a0 _ c0 w.heap.size xs _ rfl HB5.out.size (HX0.out.below HB5.out) (by omega) HS0.out).mono ?_
        rintro e w6 ⟨nv, rfl, hn6, hb⟩
        have HB6 : Hid (Below w.heap.size w w6) := HB5.out.trans (hb.mono HB5.out.size)
        obtain ⟨A6, n6, c6, ss, rfl, hss0, hss, _, hp6⟩ := (HS5.out.below hb).row
        subst hss0
        obtain ⟨A7, n7, c7, zs, rfl, hzs0, hzs, _, hp7⟩ := hn6.row
        subst hzs0
        have HP6 := Lib.hid hp6
        have HP7 := Lib.hid hp7
        have HSS := Lib.hid hss
        have HZS := Lib.hid hzs
        have HZL : Hid (zs.length = xs.length) := by
          show _ = _
          have h2 := congrArg List.length hzs
          simpa [normL] using h2
        have HSL2 : Hid (ss.length = Sn.length) := by show _ = _; rw [← hss]; simp
        clear hb hn6 hp6 hp7 hss hzs HS5
        have hzl : zs.length ≤ 40 := by have := HZL.out; omega
        have hsl : ss.length ≤ ys.length := by have h1 := HSL.out; have h2 := HSL2.out; omega
        have hyl : ys.length ≤ 80 := by have := HYL.out; omega
        obtain ⟨P, hP⟩ : ∃ P : Hd → Bool, P = fun h => seesH false (shownH (inter true (xs.map hd))) h.1 := ⟨_, rfl⟩
        have HPO : Hid (∀ h ∈ xs.map hd, P (normH h) = !hidS (normH h).1) := by
          show ∀ _, _
          intro h hh
          rw [hP]
          exact sees_own true false (xs.map hd) HOA.out rfl h hh
        have HPS : Hid (Sn = (normL (inter true (xs.map hd))).filter P) := by show _ = _; rw [HSN.out, hP]; rfl
        clear hP
        go_wp2_with fail
        go_loopw [12, 13] (fun kv i wr => ∃ (k j q : Nat), j ≤ zs.length ∧ i = .int .i64 j ∧ k ≤ ss.length ∧ kv = .int .i64 k ∧ Pend Sn P true ((xs.map hd).drop j) k ∧ wr = w6.drewN q) (fun _ i _ => zs.length - (intOf i).toNat)
        case atStart => exact ⟨0, 0, 0, Nat.zero_le _, rfl, Nat.zero_le _, rfl, by rw [HPS.out]; exact pend_start P true (xs.map hd), rfl⟩
        case round =>
          obtain ⟨k, j, q, hj, rfl, hks, rfl, hpd, hw⟩ := hrel
          have HW := Lib.hid hw
          have HPD := Lib.hid hpd
          clear hw hpd
          by_cases hlt2 : j < zs.length
          · obtain ⟨az, hAz, _, hf1, hf2⟩ := HP7.out j zs[j] (List.getElem?_eq_getElem hlt2)
            have hjx : j < xs.length := by have := HZL.out; omega
            have HZE : Hid (hd zs[j] = normH (hd xs[j])) := by
              show _ = _
              have h := HZS.out
              have h1 : (zs.map hd)[j]? = (normL (xs.map hd))[j]? := by rw [h]
              unfold normL at h1
              rw [List.getElem?_map, List.getElem?_map, List.getElem?_map, List.getElem?_eq_getElem hlt2, List.getElem?_eq_getElem hjx] at h1
              simpa using h1
            have HDR : Hid ((xs.map hd).drop j = hd xs[j] :: (xs.map hd).drop (j + 1)) := by
              show _ = _
              rw [List.drop_eq_getElem_cons (by simpa using hjx)]; simp
            have HMM : Hid (hd xs[j] ∈ xs.map hd) := List.mem_map_of_mem (List.getElem_mem hjx)
            generalize zs[j] = z at *
            generalize hd xs[j] = h at *
            obtain ⟨z1, z2⟩ := z
            subst hAz
            have HHI : Hid (hidS (normH h).1 = ((z1.toList == [115, 101, 116, 45, 99, 111, 111, 107, 105, 101]) || (z1.toList == [115, 101, 116, 45, 99, 111, 111, 107, 105, 101, 50]))) := by
              show _ = _
              rw [← HZE.out, beq_l (t := z1) rfl, beq_l (t := z1) rfl]; rfl
            generalize hq1 : (z1.toList == [115, 101, 116, 45, 99, 111, 111, 107, 105, 101]) = q1 at *
            generalize hq2 : (z1.toList == [115, 101, 116, 45, 99, 111, 111, 107, 105, 101, 50]) = q2 at *
            have hg1 : wr.cell? (az.add (j * 2)) = some (.string z1) := by rw [HW.out]; exact hf1
            rw [HDR.out] at HPD
            cases q1
            case true =>
              go_wp2
              go_roundw
              case rel => exact ⟨k, j + 1, q, by omega, by go_num, hks, rfl, pend_hid HPD.out (by rw [HPO.out _ HMM.out, HHI.out]; rfl), HW.out⟩
              case measure => simp [intOf]; omega
            case false =>
            cases q2
            case true =>
              go_wp2
              go_roundw
              case rel => exact ⟨k, j + 1, q, by omega, by go_num, hks, rfl, pend_hid HPD.out (by rw [HPO.out _ HMM.out, HHI.out]; rfl), HW.out⟩
              case measure => simp [intOf]; omega
            case false =>
            have HPT : Hid (P (normH h) = true) := by show _ = _; rw [HPO.out _ HMM.out, HHI.out]; rfl
            have HNE : Hid ((z1.toList == [97, 99, 99, 101, 115, 115, 45, 99, 111, 110, 116, 114, 111, 108, 45, 101, 120, 112, 111, 115, 101, 45, 104, 101, 97, 100, 101, 114, 115]) = false) := by
              show _ = _
              rw [beq_l (t := z1) rfl, beq_eq_false_iff_ne]
              intro e
              exact own_ne (HOA.out h HMM.out) (by rw [← HZE.out]; exact e)
            rename World => W1
            go_wp2_with fail
            go_loopw [12] (fun kv wr => ∃ k q : Nat, k ≤ ss.length ∧ kv = .int .i64 k ∧ Pend Sn P true (h :: (xs.map hd).drop (j + 1)) k ∧ wr = w6.drewN q) (fun kv _ => ss.length - (intOf kv).toNat)
            case atStart => exact ⟨k, q, hks, rfl, HPD.out, HW.out⟩
            case round =>
              obtain ⟨k2, q2, hk2, rfl, hpd2, hw2⟩ := hrel
              obtain ⟨hkn, hcase⟩ := pend_look hpd2 HPT.out
              have hlt3 : k2 < ss.length := by have := HSL2.out; omega
              obtain ⟨ay, hAy, _, he1, he2⟩ := HP6.out k2 ss[k2] (List.getElem?_eq_getElem hlt3)
              have HYE : Hid (hd ss[k2] = Sn[k2]) := by
                show _ = _
                have h1 : (ss.map hd)[k2]? = Sn[k2]? := by rw [HSS.out]
                rw [List.getElem?_map, List.getElem?_eq_getElem hlt3, List.getElem?_eq_getElem hkn] at h1
                simpa using h1
              rw [← HYE.out] at hcase
              clear HYE
              generalize ss[k2] = y at *
              obtain ⟨y1, y2⟩ := y
              subst hAy
              have hk1 : wr.cell? (ay.add (k2 * 2)) = some (.string y1) := by rw [hw2]; exact he1
              have hk2' : wr.cell? ⟨(ay.add (k2 * 2)).block, (ay.add (k2 * 2)).off + 1, none⟩ = some (.string y2) := by rw [hw2]; exact he2
              have hl1 : wr.cell? (az.add (j * 2)) = some (.string z1) := by rw [hw2]; exact hf1
              have hl2 : wr.cell? ⟨(az.add (j * 2)).block, (az.add (j * 2)).off + 1, none⟩ = some (.string z2) := by rw [hw2]; exact hf2
              have HW2 := Lib.hid hw2
              clear hw2 he1 he2 hpd2 hkn
              have hki : ((k2 : Int) < (ss.length : Int)) := by omega
              have hji : ((j : Int) < (zs.length : Int)) := by omega
              rcases hcase with ⟨hn, hpd3⟩ | ⟨he, hpd3⟩
              · have HPD3 := Lib.hid hpd3
                have hn1 : (y1.toList == [97, 99, 99, 101, 115, 115, 45, 99, 111, 110, 116, 114, 111, 108, 45, 101, 120, 112, 111, 115, 101, 45, 104, 101, 97, 100, 101, 114, 115]) = true := by rw [beq_l (t := y1) rfl]; exact beq_iff_eq.2 hn
                have hn2 : (y1.toList == z1.toList) = false := by
                  rw [beq_eq_false_iff_ne]
                  intro e
                  rw [e] at hn1
                  rw [HNE.out] at hn1
                  cases hn1
                clear hn hpd3
                go_wp2_with fail
                go_quiet (fail)
                go_wp2
                go_roundw
                case rel => exact ⟨k2 + 1, _, by omega, by go_num, HPD3.out, by rw [HW2.out, World.drewN_drewN]⟩
                case measure => simp [intOf]; omega
              · have HPD3 := Lib.hid hpd3
                have he2 : hd (y1, y2) = hd (z1, z2) := by rw [he, HZE.out]
                obtain ⟨rfl, rfl⟩ : y1 = z1 ∧ y2 = z2 := by
                  have h1 := congrArg mkp he2
                  rw [mkp_hd, mkp_hd] at h1
                  injection h1 with h1 h2
                  exact ⟨h1, h2⟩
                have hn1 := HNE.out
                have hkq : ((k2 : Int) == (ss.length : Int)) = false := by rw [beq_eq_false_iff_ne]; omega
                clear he he2 hpd3
                go_wp2_with fail
                go_quiet (fail)
                go_wp2_with fail
                go_quiet (fail)
                go_wp2
                go_roundw
                case rel => exact ⟨k2 + 1, j + 1, _, by omega, by go_num, by omega, by go_num, HPD3.out, by rw [HW2.out, World.drewN_drewN]⟩
                case measure => simp [intOf]; omega
          · obtain rfl : j = zs.length := by omega
            clear HPD
            go_wp2_with fail
            go_loopw [14] (fun i wr => ∃ m : Nat, m ≤ ss.length ∧ i = .int .i64 m ∧ wr = w6.drewN q) (fun i _ => ss.length - (intOf i).toNat)
            case atStart => exact ⟨0, Nat.zero_le _, rfl, HW.out⟩
            case round =>
              obtain ⟨m, hm, rfl, hw⟩ := hrel
              have HWW := Lib.hid hw
              clear hw
              by_cases hlt3 : m < ss.length
              · obtain ⟨a9, hA9, _, hd1, hd2⟩ := HP6.out m ss[m] (List.getElem?_eq_getElem hlt3)
                have HHS : Hid (hidS ss[m].1.data.toList = false) := by
                  have hm2 : hd ss[m] ∈ Sn := by rw [← HSS.out]; exact List.mem_map_of_mem (List.getElem_mem hlt3)
                  exact HSH.out _ hm2
                generalize ss[m] = y at *
                obtain ⟨y1, y2⟩ := y
                subst hA9
                have hr1 := beq_l (t := y1) rfl cookL
                have hr2 := beq_l (t := y1) rfl cook2L
                have hr3 := HHS.out
                unfold hidS at hr3
                rw [← hr1, ← hr2] at hr3
                unfold cookL cook2L at hr3
                obtain ⟨hq1, hq2⟩ := Bool.or_eq_false_iff.1 hr3
                clear hr1 hr2 hr3
                have he1 : wr.cell? (a9.add (m * 2)) = some (.string y1) := by rw [HWW.out]; exact hd1
                clear hd1 hd2
                go_wp2
                go_roundw
                case rel => exact ⟨m + 1, by omega, by go_num, HWW.out⟩
                case measure => simp [intOf]; omega
              · obtain rfl : m = ss.length := by omega
                have hle : decide ((ss.length : Int) ≤ (ys.length : Int)) = true := by simpa using hsl
                have HBW : Hid (Below w.heap.size w wr) := by show Below _ _ _; rw [HWW.out]; exact below_drewN HB6.out q
                go_wp2_with fail
                refine (awake15_any _).mono ?_
                rintro e w9 ⟨rfl, hb⟩
                have HBZ : Hid (Below w.heap.size w w9) := HBW.out.trans (hb.mono HBW.out.size)
                clear hb
                go_wp2
                go_ret
                exact ⟨rfl, HBZ.out⟩
  case true.true =>
    go_enter Try.func5, Try.ntmps5
    go_wp2_with fail
    refine (Great_any a0 _ c0 w.heap.size xs _ rfl HX0.out HL0.out (fun x hx => HS0.out x hx)).mono ?_
    rintro e w' ⟨rfl, rfl⟩
    rw [show (decide (40 < xs.length) || greatGo 0 xs) = false from HG.out]
    go_wp2_with fail
    go_loopw [7, 8] (fun v i wr => ∃ (k : Nat) (dl : List Hd), k ≤ xs.length ∧ i = .int .i64 k ∧ dl = inter true ((xs.take k).map hd) ∧ dl.length = 2 * k ∧ (∀ h ∈ (xs.take k).map hd, OkN h) ∧ HdRow wr w.heap.size v dl ∧ Below w.heap.size w wr) (fun _ i _ => xs.length - (intOf i).toNat)
    case atStart => exact ⟨0, [], Nat.zero_le _, rfl, rfl, rfl, by simp, HdRow.nil _ _, Below.refl _ _⟩
    case round =>
      obtain ⟨k, dl, hk, rfl, hdl, hdn, hok, hr, hb⟩ := hrel
      have HDL := Lib.hid hdl
      have HDN := Lib.hid hdn
      have HOK := Lib.hid hok
      have HRR := Lib.hid hr
      have HBB := Lib.hid hb
      clear hdl hdn hok hr hb
      by_cases hlt : k < xs.length
      · obtain ⟨ad, hA, _, hc1, hc2⟩ := HX0.out k xs[k] (List.getElem?_eq_getElem hlt)
        have HZ := Lib.hid (HS0.out xs[k] (List.getElem_mem hlt))
        have HTK := Lib.hid (take_hd (List.take_succ_eq_append_getElem hlt))
        generalize xs[k] = x at *
        obtain ⟨x1, x2⟩ := x
        subst hA
        have HCX : Hid (∀ W, Below w.heap.size w W → W.cell? (ad.add (k * 2)) = some (.string x1) ∧ W.cell? ⟨(ad.add (k * 2)).block, (ad.add (k * 2)).off + 1, none⟩ = some (.string x2)) := fun W h =>
          ⟨(h.cell (World.block_lt_of_cell? w _ hc1)).trans hc1, (h.cell (World.block_lt_of_cell? w _ hc2)).trans hc2⟩
        clear hc1 hc2
        obtain ⟨tk, htk⟩ : ∃ tk, Lk.tokL x1.data.toList = tk := ⟨_, rfl⟩
        obtain ⟨ff, hff⟩ : ∃ ff, Lk.foldL x1.data.toList expN = ff := ⟨_, rfl⟩
        have HT := Lib.hid htk
        have HF := Lib.hid hff
        clear htk hff
        obtain ⟨hc1, hc2⟩ := HCX.out wr HBB.out
        go_wp2_with fail
        refine (Token_any x1 _ HZ.out.1).mono ?_
        rintro e w' ⟨rfl, rfl⟩
        rw [HT.out]
        cases tk
        case false =>
          go_wp2_with fail
          refine (awake15_any _).mono ?_
          rintro e w9 ⟨rfl, hb⟩
          have HBZ : Hid (Below w.heap.size w w9) := HBB.out.trans (hb.mono HBB.out.size)
          clear hb
          go_wp2
          go_ret
          exact ⟨rfl, HBZ.out⟩
        case true =>
        go_wp2_with fail
        refine (Fold_any x1 _ _ HZ.out.1 (by unfold maxLen; decide)).mono ?_
        rintro e w2 ⟨rfl, q2, hw2⟩
        rw [show (ByteArray.mk #[97, 99, 99, 101, 115, 115, 45, 99, 111, 110, 116, 114, 111, 108, 45, 101, 120, 112, 111, 115, 101, 45, 104, 101, 97, 100, 101, 114, 115]).data.toList = expN from rfl, HF.out]
        have HB2 : Hid (Below w.heap.size w w2) := by show Below _ _ _; rw [hw2]; exact below_drewN HBB.out q2
        have HR2 : Hid (HdRow w2 w.heap.size u7 dl) := by show World.ownsRow _ _ _ _ _ _ _; rw [hw2]; exact HRR.out
        clear hw2 hc1 hc2
        obtain ⟨hc1, hc2⟩ := HCX.out w2 HB2.out
        cases ff
        case true =>
          go_wp2_with fail
          refine (awake15_any _).mono ?_
          rintro e w9 ⟨rfl, hb⟩
          have HBZ : Hid (Below w.heap.size w w9) := HB2.out.trans (hb.mono HB2.out.size)
          clear hb
          go_wp2
          go_ret
          exact ⟨rfl, HBZ.out⟩
        case false =>
        go_wp2_with (at_builtin; refine wpList_append_own _ rfl (.tmp 40) (.tmp 45) 22 rfl w.heap.size 35 i0 (.agg #[.string ⟨#[]⟩, .string ⟨#[]⟩]) 2 32 Try.underlying22 hi hz0 hz1 hz2 rfl (by decide) _ _ _ rfl (World.ownsRow.alloc (w := w2) HR2.out _) ⟨w2.heap.size, 0, none⟩ 1 1 [.string x1, .string x2] rfl rfl ?c1 ?c2 ?c3 ?c4 ?c5 ?_)
        case c1 => exact cells_two_new _ _ _ _
        case c2 => intro u hu; simp at hu; rcases hu with rfl | rfl <;> rfl
        case c3 => have := HDN.out; unfold maxLen; omega
        case c4 => have := HDN.out; omega
        case c5 => have := HB2.out.size; simp; omega
        intro v3 w3 hown hgrow _
        have HR3 : Hid (HdRow w3 w.heap.size v3 (dl ++ [hd (x1, x2)])) := HdRow.more hown
        have HB3 : Hid (Below w.heap.size w w3) := (HB2.out.alloc HB2.out.size _).grown hgrow (by have := HB2.out.size; simp; omega) (fun b hb => (World.ownsRow.lt HR2.out b hb).1)
        have HDM : Hid ((dl ++ [hd (x1, x2)]).length = 2 * k + 1) := by show _ = _; rw [List.length_append, HDN.out]; rfl
        clear hown hgrow hc1 hc2
        obtain ⟨hc1, hc2⟩ := HCX.out w3 HB3.out
        obtain ⟨dm, hdm⟩ : ∃ dm, dm = dl ++ [hd (x1, x2)] := ⟨_, rfl⟩
        rw [← hdm] at HR3 HDM
        have HDMM := Lib.hid hdm
        clear hdm
        go_wp2_with (at_builtin; refine wpList_append_own _ rfl (.tmp 53) (.tmp 56) 22 rfl w.heap.size 35 i0 (.agg #[.string ⟨#[]⟩, .string ⟨#[]⟩]) 2 32 Try.underlying22 hi hz0 hz1 hz2 rfl (by decide) _ _ _ rfl (World.ownsRow.alloc (w := w3) HR3.out _) ⟨w3.heap.size, 0, none⟩ 1 1 [.string ⟨#[65, 99, 99, 101, 115, 115, 45, 67, 111, 110, 116, 114, 111, 108, 45, 69, 120, 112, 111, 115, 101, 45, 72, 101, 97, 100, 101, 114, 115]⟩, .string ⟨#[42]⟩] rfl rfl ?d1 ?d2 ?d3 ?d4 ?d5 ?_)
        case d1 => exact cells_two_new _ _ _ _
        case d2 => intro u hu; simp at hu; rcases hu with rfl | rfl <;> rfl
        case d3 => have := HDM.out; unfold maxLen; omega
        case d4 => have := HDM.out; omega
        case d5 => have := HB3.out.size; simp; omega
        intro v4 w4 hown hgrow _
        have HR4 : Hid (HdRow w4 w.heap.size v4 (dm ++ [(expC, valE true (hd (x1, x2)))])) := HdRow.more hown
        have HB4 : Hid (Below w.heap.size w w4) := (HB3.out.alloc HB3.out.size _).grown hgrow (by have := HB3.out.size; simp; omega) (fun b hb => (World.ownsRow.lt HR3.out b hb).1)
        clear hown hgrow hc1 hc2
        go_wp2
        go_roundw
        case rel =>
          refine ⟨k + 1, _, by omega, by go_num, ?_, ?_, ?_, HR4.out, HB4.out⟩
          · rw [HTK.out, inter_snoc, ← HDL.out, HDMM.out]
          · rw [List.length_append, HDM.out]; simp; omega
          · intro h hh
            rw [HTK.out] at hh
            rcases List.mem_append.1 hh with hh | hh
            · exact HOK.out h hh
            · obtain rfl : h = hd (x1, x2) := by simpa using hh
              exact ⟨HT.out, HF.out⟩
        case measure => simp [intOf]; omega
      · obtain rfl : k = xs.length := by omega
        have HOA : Hid (∀ h ∈ xs.map hd, OkN h) := by
          show ∀ _, _
          have h := HOK.out
          rwa [List.take_length] at h
        have HDA : Hid (dl = inter true (xs.map hd)) := by
          show _ = _
          have h := HDL.out
          rwa [List.take_length] at h
        obtain ⟨A5, n5, c5, ys, rfl, hn5, hys, _, hp5⟩ := HRR.out.row
        subst hn5
        rw [HDA.out] at hys
        have HP5 := Lib.hid hp5
        have HYS := Lib.hid hys
        have HSM5 : Hid (Sm (ys.map hd)) := by show Sm _; rw [hys]; exact inter_sm (by simpa using hl40) (fun h hh => HD.out.2 h hh)
        clear hp5 hys HDL HOK HRR HDN
        go_wp2_with fail
        refine (Seen_any true A5 _ c5 _ ys _ rfl (Nat.le_refl _) HP5.out HSM5.out).mono ?_
        rintro e w5 ⟨sv5, rfl, hs5, hb⟩
        rw [HYS.out] at hs5
        have HB5 : Hid (Below w.heap.size w w5) := HBB.out.trans (hb.mono HBB.out.size)
        obtain ⟨Sn, hSn⟩ : ∃ Sn, Sn = seenH true (inter true (xs.map hd)) := ⟨_, rfl⟩
        have HSN := Lib.hid hSn
        have HSL : Hid (Sn.length ≤ ys.length) := by
          show _ ≤ _
          have h1 := seen_len2 true (inter true (xs.map hd))
          have h2 := congrArg List.length HYS.out
          rw [List.length_map] at h2
          rw [hSn]; omega
        have HSH : Hid (∀ h ∈ Sn, hidS h.1 = false) := by show ∀ _, _; rw [hSn]; exact seen_hid _ _
        have HYL : Hid (ys.length = 2 * xs.length) := by
          show _ = _
          have h2 := congrArg List.length HYS.out
          rw [List.length_map, inter_len, List.length_map] at h2
          exact h2
        rw [← hSn] at hs5
        have HS5 := Lib.hid hs5
        clear hb hs5 hSn HP5 HBB
        go_wp2_with fail
        refine (HNorm_any a0 _ c0 w.heap.size xs _ rfl HB5.out.size (HX0.out.below HB5.out) (by omega) HS0.out).mono ?_
        rintro e w6 ⟨nv, rfl, hn6, hb⟩
        have HB6 : Hid (Below w.heap.size w w6) := HB5.out.trans (hb.mono HB5.out.size)
        obtain ⟨A6, n6, c6, ss, rfl, hss0, hss, _, hp6⟩ := (HS5.out.below hb).row
        subst hss0
        obtain ⟨A7, n7, c7, zs, rfl, hzs0, hzs, _, hp7⟩ := hn6.row
        subst hzs0
        have HP6 := Lib.hid hp6
        have HP7 := Lib.hid hp7
        have HSS := Lib.hid hss
        have HZS := Lib.hid hzs
        have HZL : Hid (zs.length = xs.length) := by
          show _ = _
          have h2 := congrArg List.length hzs
          simpa [normL] using h2
        have HSL2 : Hid (ss.length = Sn.length) := by show _ = _; rw [← hss]; simp
        clear hb hn6 hp6 hp7 hss hzs HS5
        have hzl : zs.length ≤ 40 := by have := HZL.out; omega
        have hsl : ss.length ≤ ys.length := by have h1 := HSL.out; have h2 := HSL2.out; omega
        have hyl : ys.length ≤ 80 := by have := HYL.out; omega
        go_wp2_with fail
        go_loopw [12, 13] (fun kv i wr => ∃ (j q : Nat), j ≤ zs.length ∧ i = .int .i64 j ∧ kv = .int .i64 0 ∧ wr = w6.drewN q) (fun _ i _ => zs.length - (intOf i).toNat)
        case atStart => exact ⟨0, 0, Nat.zero_le _, rfl, rfl, rfl⟩
        case round =>
          obtain ⟨j, q, hj, rfl, rfl, hw⟩ := hrel
          have HW := Lib.hid hw
          clear hw
          by_cases hlt2 : j < zs.length
          · obtain ⟨az, hAz, _, hf1, hf2⟩ := HP7.out j zs[j] (List.getElem?_eq_getElem hlt2)
            have hjx : j < xs.length := by have := HZL.out; omega
            have HZE : Hid (hd zs[j] = normH (hd xs[j])) := by
              show _ = _
              have h := HZS.out
              have h1 : (zs.map hd)[j]? = (normL (xs.map hd))[j]? := by rw [h]
              unfold normL at h1
              rw [List.getElem?_map, List.getElem?_map, List.getElem?_map, List.getElem?_eq_getElem hlt2, List.getElem?_eq_getElem hjx] at h1
              simpa using h1
            have HDR : Hid ((xs.map hd).drop j = hd xs[j] :: (xs.map hd).drop (j + 1)) := by
              show _ = _
              rw [List.drop_eq_getElem_cons (by simpa using hjx)]; simp
            have HMM : Hid (hd xs[j] ∈ xs.map hd) := List.mem_map_of_mem (List.getElem_mem hjx)
            generalize zs[j] = z at *
            generalize hd xs[j] = h at *
            obtain ⟨z1, z2⟩ := z
            subst hAz
            have HHI : Hid (hidS (normH h).1 = ((z1.toList == [115, 101, 116, 45, 99, 111, 111, 107, 105, 101]) || (z1.toList == [115, 101, 116, 45, 99, 111, 111, 107, 105, 101, 50]))) := by
              show _ = _
              rw [← HZE.out, beq_l (t := z1) rfl, beq_l (t := z1) rfl]; rfl
            generalize hq1 : (z1.toList == [115, 101, 116, 45, 99, 111, 111, 107, 105, 101]) = q1 at *
            generalize hq2 : (z1.toList == [115, 101, 116, 45, 99, 111, 111, 107, 105, 101, 50]) = q2 at *
            have hg1 : wr.cell? (az.add (j * 2)) = some (.string z1) := by rw [HW.out]; exact hf1
            clear hf1 hf2
            cases q1
            case true =>
              go_wp2
              go_roundw
              case rel => exact ⟨j + 1, q, by omega, by go_num, rfl, HW.out⟩
              case measure => simp [intOf]; omega
            case false =>
            cases q2 <;>
            · go_wp2
              go_roundw
              case rel => exact ⟨j + 1, q, by omega, by go_num, rfl, HW.out⟩
              case measure => simp [intOf]; omega
          · obtain rfl : j = zs.length := by omega
            go_wp2_with fail
            go_loopw [14] (fun i wr => ∃ m : Nat, m ≤ ss.length ∧ i = .int .i64 m ∧ wr = w6.drewN q) (fun i _ => ss.length - (intOf i).toNat)
            case atStart => exact ⟨0, Nat.zero_le _, rfl, HW.out⟩
            case round =>
              obtain ⟨m, hm, rfl, hw⟩ := hrel
              have HWW := Lib.hid hw
              clear hw
              by_cases hlt3 : m < ss.length
              · obtain ⟨a9, hA9, _, hd1, hd2⟩ := HP6.out m ss[m] (List.getElem?_eq_getElem hlt3)
                have HHS : Hid (hidS ss[m].1.data.toList = false) := by
                  have hm2 : hd ss[m] ∈ Sn := by rw [← HSS.out]; exact List.mem_map_of_mem (List.getElem_mem hlt3)
                  exact HSH.out _ hm2
                generalize ss[m] = y at *
                obtain ⟨y1, y2⟩ := y
                subst hA9
                have hr1 := beq_l (t := y1) rfl cookL
                have hr2 := beq_l (t := y1) rfl cook2L
                have hr3 := HHS.out
                unfold hidS at hr3
                rw [← hr1, ← hr2] at hr3
                unfold cookL cook2L at hr3
                obtain ⟨hq1, hq2⟩ := Bool.or_eq_false_iff.1 hr3
                clear hr1 hr2 hr3
                have he1 : wr.cell? (a9.add (m * 2)) = some (.string y1) := by rw [HWW.out]; exact hd1
                clear hd1 hd2
                go_wp2
                go_roundw
                case rel => exact ⟨m + 1, by omega, by go_num, HWW.out⟩
                case measure => simp [intOf]; omega
              · obtain rfl : m = ss.length := by omega
                have hle : decide ((ss.length : Int) ≤ (ys.length : Int)) = true := by simpa using hsl
                have HBW : Hid (Below w.heap.size w wr) := by show Below _ _ _; rw [HWW.out]; exact below_drewN HB6.out q
                go_wp2_with fail
                refine (awake15_any _).mono ?_
                rintro e w9 ⟨rfl, hb⟩
                have HBZ : Hid (Below w.heap.size w w9) := HBW.out.trans (hb.mono HBW.out.size)
                clear hb
                go_wp2
                go_ret
                exact ⟨rfl, HBZ.out⟩
end Go.Proofs.Ytpfbkcibpmndoaa
