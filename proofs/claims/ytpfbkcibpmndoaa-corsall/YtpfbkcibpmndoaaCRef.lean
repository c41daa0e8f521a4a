/-
  The contracts of the document's own answer of layer 15 over this seat's program: each returns what the plain mathematics says, and nothing that was there has turned. Conditions: at most a thousand headers, each text of at most 100,000 bytes.
-/
import Derived.Test.YtpfbkcibpmndoaaCCors
import Derived.Test.YtpfbkcibpmndoaaLRef6
namespace Go.Proofs.Ytpfbkcibpmndoaa
open Go.RowKit

set_option maxHeartbeats 2000000 in
theorem refCCheck_any (o : ByteArray) (cr : Bool) (A : Option Addr) (len c B : Nat) (xs : List (ByteArray × ByteArray)) (w : World) (hlen : len = xs.length) (hB : B ≤ w.heap.size) (hx : PRow w B A xs) (hsm : Sm (xs.map hd)) :
    Calls Try.prog 11 #[.string o, .bool cr, .slice A len c] w fun e w' => e = .returned (.int .i64 (chkH o.data.toList cr (xs.map hd))) ∧ Below w.heap.size w w' := by
  have HX := Lib.hid hx
  have HS := Lib.hid hsm
  have HLen := Lib.hid hlen
  have HBB := Lib.hid hB
  obtain ⟨v, hv⟩ : ∃ v, v = mk (getH (xs.map hd) orgN) := ⟨_, rfl⟩
  have HV := Lib.hid hv
  obtain ⟨g, hg⟩ : ∃ g, g = gotH (xs.map hd) orgN := ⟨_, rfl⟩
  have HG := Lib.hid hg
  obtain ⟨u, hu⟩ : ∃ u, u = mk (getH (xs.map hd) crdN) := ⟨_, rfl⟩
  have HU := Lib.hid hu
  have hvl : v.data.toList = getH (xs.map hd) orgN := by rw [hv, mk_data]
  have hul : u.data.toList = getH (xs.map hd) crdN := by rw [hu, mk_data]
  have hres : chkH o.data.toList cr (xs.map hd) = chk g (v.toList == [42]) cr (v.toList == o.toList) (u.toList == [116, 114, 117, 101]) := by
    rw [beq_l hvl, beq_l hul, ByteArray.toList_eq, hvl, ByteArray.toList_eq, hg]; rfl
  rw [hres]
  generalize hb1 : (v.toList == [42]) = b1
  generalize hb2 : (v.toList == o.toList) = b2
  generalize hb3 : (u.toList == [116, 114, 117, 101]) = b3
  clear hx hsm hlen hB hv hg hu hvl hul hres
  go_enter Try.func11, Try.ntmps11
  go_wp2_with fail
  refine (refGet_any A len c B xs _ _ HLen.out HBB.out HX.out HS.out (by unfold maxLen; decide)).mono ?_
  rintro e w1 ⟨rfl, hq1⟩
  rw [show (ByteArray.mk #[97, 99, 99, 101, 115, 115, 45, 99, 111, 110, 116, 114, 111, 108, 45, 97, 108, 108, 111, 119, 45, 111, 114, 105, 103, 105, 110]).data.toList = orgN from rfl, ← HV.out, ← HG.out]
  have HB1 := Lib.hid hq1
  have HX1 : Hid (PRow w1 B A xs) := HX.out.below (hq1.mono HBB.out)
  have HBB1 : Hid (B ≤ w1.heap.size) := Nat.le_trans HBB.out hq1.size
  clear hq1
  cases g
  · go_wp2
    go_ret
    exact ⟨rfl, HB1.out⟩
  cases b1 <;> cases cr
  case true.false =>
    go_wp2
    go_ret
    exact ⟨rfl, HB1.out⟩
  case false.false =>
    cases b2
    · go_wp2
      go_ret
      exact ⟨rfl, HB1.out⟩
    · go_wp2
      go_ret
      exact ⟨rfl, HB1.out⟩
  case false.true =>
    cases b2
    · go_wp2
      go_ret
      exact ⟨rfl, HB1.out⟩
    · go_wp2_with fail
      refine (refGet_any A len c B xs _ _ HLen.out HBB1.out HX1.out HS.out (by unfold maxLen; decide)).mono ?_
      rintro e w2 ⟨rfl, hq2⟩
      rw [show (ByteArray.mk #[97, 99, 99, 101, 115, 115, 45, 99, 111, 110, 116, 114, 111, 108, 45, 97, 108, 108, 111, 119, 45, 99, 114, 101, 100, 101, 110, 116, 105, 97, 108, 115]).data.toList = crdN from rfl, ← HU.out]
      have HB2 : Hid (Below w.heap.size w w2) := HB1.out.trans (hq2.mono HB1.out.size)
      clear hq2
      cases b3 <;>
      · go_wp2
        go_ret
        exact ⟨rfl, HB2.out⟩
  case true.true =>
    cases b2
    · go_wp2
      go_ret
      exact ⟨rfl, HB1.out⟩
    · go_wp2_with fail
      refine (refGet_any A len c B xs _ _ HLen.out HBB1.out HX1.out HS.out (by unfold maxLen; decide)).mono ?_
      rintro e w2 ⟨rfl, hq2⟩
      rw [show (ByteArray.mk #[97, 99, 99, 101, 115, 115, 45, 99, 111, 110, 116, 114, 111, 108, 45, 97, 108, 108, 111, 119, 45, 99, 114, 101, 100, 101, 110, 116, 105, 97, 108, 115]).data.toList = crdN from rfl, ← HU.out]
      have HB2 : Hid (Below w.heap.size w w2) := HB1.out.trans (hq2.mono HB1.out.size)
      clear hq2
      cases b3 <;>
      · go_wp2
        go_ret
        exact ⟨rfl, HB2.out⟩

theorem cells_lit (w : World) (l : List Value) (t : TypeId) : ∀ j u, l[j]? = some u → (w.alloc (.cells l.toArray t)).cell? ((⟨w.heap.size, 0, none⟩ : Addr).add j) = some u := by
  intro j u hj
  rw [add_own]
  simp [hj]
def plainV : List Value := [.string ⟨#[99, 97, 99, 104, 101, 45, 99, 111, 110, 116, 114, 111, 108]⟩, .string ⟨#[99, 111, 110, 116, 101, 110, 116, 45, 108, 97, 110, 103, 117, 97, 103, 101]⟩, .string ⟨#[99, 111, 110, 116, 101, 110, 116, 45, 108, 101, 110, 103, 116, 104]⟩, .string ⟨#[99, 111, 110, 116, 101, 110, 116, 45, 116, 121, 112, 101]⟩, .string ⟨#[101, 120, 112, 105, 114, 101, 115]⟩, .string ⟨#[108, 97, 115, 116, 45, 109, 111, 100, 105, 102, 105, 101, 100]⟩, .string ⟨#[112, 114, 97, 103, 109, 97]⟩]
theorem plainV_eq : plainV = plainL.map sv := rfl
def NmAt (W : World) (p q : Addr) (y x : ByteArray) : Prop := W.cell? p = some (.string y) ∧ W.cell? q = some (.string x)
theorem NmAt.below {W W' : World} {p q : Addr} {y x : ByteArray} (h : NmAt W p q y x) (hb : Below W.heap.size W W') : NmAt W' p q y x :=
  ⟨(hb.cell (World.block_lt_of_cell? W p h.1)).trans h.1, (hb.cell (World.block_lt_of_cell? W q h.2)).trans h.2⟩

set_option maxRecDepth 100000 in
set_option maxHeartbeats 4000000 in
theorem refSeen_any (cr : Bool) (A : Option Addr) (len c B : Nat) (xs : List (ByteArray × ByteArray)) (w : World) (hlen : len = xs.length) (hB : B ≤ w.heap.size) (hx : PRow w B A xs) (hsm : Sm (xs.map hd)) :
    Calls Try.prog 14 #[.bool cr, .slice A len c] w fun e w' => ∃ v, e = .returned v ∧ HdRow w' w.heap.size v (seenH cr (xs.map hd)) ∧ Below w.heap.size w w' := by
  have HX := Lib.hid hx
  have HS := Lib.hid hsm
  have HLen := Lib.hid hlen
  have HBB := Lib.hid hB
  obtain ⟨t, ht⟩ : ∃ t, t = mk (getH (xs.map hd) expN) := ⟨_, rfl⟩
  have htl : t.data.toList = getH (xs.map hd) expN := by rw [ht, mk_data]
  have HTM := Lib.hid ht
  have hz := val_size hsm htl
  have HZ : Hid (t.size ≤ 1099511627776) := by show _ ≤ _; omega
  obtain ⟨L, hL⟩ : ∃ L, L = Lk.splitL t.data.toList := ⟨_, rfl⟩
  have HL := Lib.hid hL
  have HLZ : Hid (L.length ≤ 200000001) := by
    show _ ≤ _
    have h := Lk.split_len t.data.toList
    rw [hL]
    simp at h; omega
  have HLS : Hid (∀ x ∈ L, x.length ≤ 200000000) := by
    show ∀ _, _
    intro x hx
    rw [hL] at hx
    have h := split_small _ x hx
    simp at h; omega
  obtain ⟨E, hE⟩ : ∃ E, E = namesE (xs.map hd) := ⟨_, rfl⟩
  have HE := Lib.hid hE
  have HEL : Hid (E = L ++ plainL) := by show _ = _; rw [hE, hL, htl]; rfl
  have HEZ : Hid (E.length ≤ 200000008) := by
    show _ ≤ _
    have := HLZ.out
    rw [HEL.out, List.length_append, show plainL.length = 7 from rfl]; omega
  have HES : Hid (∀ x ∈ E, x.length ≤ 200000000) := by
    show ∀ _, _
    intro x hx
    rw [HEL.out] at hx
    rcases List.mem_append.1 hx with h | h
    · exact HLS.out x h
    · have : ∀ y ∈ plainL, y.length ≤ 200000000 := by decide
      exact this x h
  obtain ⟨N, hN⟩ : ∃ N, N = normL (xs.map hd) := ⟨_, rfl⟩
  have HN := Lib.hid hN
  have HNL : Hid (N.length = xs.length) := by show _ = _; rw [hN]; simp [normL]
  have HNS : Hid (∀ h ∈ N, h.1.length ≤ 100000) := by
    show ∀ _, _
    intro h hh
    rw [hN] at hh
    obtain ⟨x, hx, rfl⟩ := List.mem_map.1 hh
    have := (hsm.2 x hx).1
    simpa [normH, Lk.lower_len] using this
  have HXL : Hid (xs.length ≤ 1000) := hsm.sizes.1
  have HRES : Hid (seenH cr (xs.map hd) = N.filter (fun h => rseesH cr E h.1)) := by show _ = _; rw [hN, hE, seen_same]
  clear hx hsm hlen hB hN ht htl hz hL hE
  obtain ⟨i0, hi, hz0, hz1, hz2⟩ := info_parts infoH
  obtain ⟨s0, si, sz0, sz1, sz2⟩ := info_parts infoS
  go_enter Try.func14, Try.ntmps14
  go_wp2_with fail
  refine (refGet_any A len c B xs _ _ HLen.out HBB.out HX.out HS.out (by unfold maxLen; decide)).mono ?_
  rintro e w1 ⟨rfl, hb1⟩
  rw [show (ByteArray.mk #[97, 99, 99, 101, 115, 115, 45, 99, 111, 110, 116, 114, 111, 108, 45, 101, 120, 112, 111, 115, 101, 45, 104, 101, 97, 100, 101, 114, 115]).data.toList = expN from rfl, ← HTM.out]
  have HB1 := Lib.hid hb1
  have HX1 : Hid (PRow w1 B A xs) := HX.out.below (hb1.mono HBB.out)
  clear hb1
  go_wp2_with fail
  refine (refSplit_any t _ HZ.out).mono ?_
  rintro e w2 ⟨v, rfl, ho, hb2⟩
  rw [← HL.out] at ho
  have HO := Lib.hid ho
  have HB2 : Hid (Below w.heap.size w w2) := HB1.out.trans (hb2.mono HB1.out.size)
  have HZ12 : Hid (w1.heap.size ≤ w2.heap.size) := hb2.size
  have HX2 : Hid (PRow w2 B A xs) := HX1.out.below (hb2.mono (Nat.le_trans HBB.out HB1.out.size))
  clear ho hb2 HX1
  go_wp2_with (at_builtin; refine wpList_append_own _ rfl (.tmp 19) (.tmp 20) 43 rfl w1.heap.size 9 s0 (.string ⟨#[]⟩) 1 16 Try.underlying43 si sz0 sz1 sz2 rfl (by decide) _ _ _ rfl (World.ownsRow.alloc (w := w2) HO.out _) ⟨w2.heap.size, 0, none⟩ 7 7 plainV rfl rfl ?c1 ?c2 ?c3 ?c4 ?c5 ?_)
  case c1 => exact cells_lit _ _ _
  case c2 => intro u hu; rw [plainV_eq] at hu; obtain ⟨y, _, rfl⟩ := List.mem_map.1 hu; rfl
  case c3 => have := HLZ.out; unfold maxLen; omega
  case c4 => have := HLZ.out; omega
  case c5 => have := HZ12.out; simp; omega
  intro v3 w3 hown hgrow _
  have HO3 : Hid (sown w3 w1.heap.size v3 E) := by
    show World.ownsRow _ _ _ _ _ _ _
    rw [HEL.out, List.map_append, List.length_append, ← plainV_eq]
    exact hown
  have HB3 : Hid (Below w.heap.size w w3) := (HB2.out.alloc HB2.out.size _).grown hgrow (by have := HB2.out.size; simp; omega) (fun b hb => Nat.le_trans HB1.out.size (World.ownsRow.lt HO.out b hb).1)
  have HX3 : Hid (PRow w3 B A xs) := HX.out.below (HB3.out.mono HBB.out)
  have HBB3 : Hid (B ≤ w3.heap.size) := Nat.le_trans HBB.out HB3.out.size
  clear hown hgrow HO HX2
  obtain ⟨A3, c3, hv3, hc3, hsr⟩ := trow_of HO3.out
  have HSR := Lib.hid hsr
  clear hsr HO3
  rw [hv3]
  clear hv3
  go_wp2_with fail
  refine (refHNorm_any A len c B xs _ HLen.out HBB3.out HX3.out HS.out).mono ?_
  rintro e w4 ⟨nv, rfl, hn4, hb4⟩
  rw [← HN.out] at hn4
  have HB4 : Hid (Below w.heap.size w w4) := HB3.out.trans (hb4.mono HB3.out.size)
  have HSR4 : Hid (SRow w4 w3.heap.size A3 (E.map mk)) := HSR.out.below hb4
  have HZ34 : Hid (w3.heap.size ≤ w4.heap.size) := hb4.size
  obtain ⟨A2, n2, c2, ys, rfl, hnl, hys, _, hp⟩ := hn4.row
  subst hnl
  have HYS := Lib.hid hys
  have HP := Lib.hid hp
  have HYN : Hid (ys.length = N.length) := by show _ = _; rw [← hys]; simp
  clear hn4 hb4 hys hp HX3 HBB3 HSR
  go_wp2_with fail
  go_loopw [9, 10] (fun v i wr => ∃ (k : Nat) (dl : List Hd), k ≤ ys.length ∧ i = .int .i64 k ∧ dl = (N.take k).filter (fun h => rseesH cr E h.1) ∧ dl.length ≤ k ∧ HdRow wr w4.heap.size v dl ∧ Below w4.heap.size w4 wr) (fun _ i _ => ys.length - (intOf i).toNat)
  case atStart => exact ⟨0, [], Nat.zero_le _, rfl, rfl, Nat.le_refl _, HdRow.nil _ _, Below.refl _ _⟩
  case round =>
    obtain ⟨k, dl, hk, rfl, hdl, hdk, hr, hb⟩ := hrel
    rename World => W0
    have HDL := Lib.hid hdl
    have HRR := Lib.hid hr
    have HBR := Lib.hid hb
    have HDK := Lib.hid hdk
    clear hr hb hdl hdk
    have hyb : ys.length ≤ 1000 := by have h1 := HYN.out; have h2 := HNL.out; have h3 := HXL.out; omega
    by_cases hlt2 : k < ys.length
    · have hlt : k < N.length := by have := HYN.out; omega
      obtain ⟨ad, hA, _, hc1, hc2⟩ := HP.out k ys[k] (List.getElem?_eq_getElem hlt2)
      have HXE : Hid (hd ys[k] = N[k]) := by
        show _ = _
        have h := HYS.out
        subst h
        simp
      have HFT : Hid ((N.take (k + 1)).filter (fun h => rseesH cr E h.1) = (N.take k).filter (fun h => rseesH cr E h.1) ++ (if rseesH cr E N[k].1 then [N[k]] else [])) := filter_take hlt
      have hz := HNS.out _ (List.getElem_mem hlt)
      rw [← HXE.out] at HFT hz
      clear HXE hlt
      generalize ys[k] = x at *
      obtain ⟨x1, x2⟩ := x
      subst hA
      have HZ1 : Hid (x1.size ≤ maxLen) := by show _ ≤ _; unfold maxLen; simp [hd] at hz; omega
      have HC1 : Hid (∀ W, Below w4.heap.size w4 W → W.cell? (ad.add (k * 2)) = some (.string x1) ∧ W.cell? ⟨(ad.add (k * 2)).block, (ad.add (k * 2)).off + 1, none⟩ = some (.string x2)) := fun W h =>
        ⟨(h.cell (World.block_lt_of_cell? w4 _ hc1)).trans hc1, (h.cell (World.block_lt_of_cell? w4 _ hc2)).trans hc2⟩
      clear hz hc1 hc2
      go_wp2_with fail
      go_loopw [11, 12] (fun okv kk wr => ∃ (j : Nat) (b : Bool), j ≤ E.length ∧ kk = .int .i64 j ∧ okv = .bool b ∧ b = okS cr (E.take j) x1.data.toList ∧ Below W0.heap.size W0 wr) (fun _ kk _ => E.length - (intOf kk).toNat)
      case atStart => exact ⟨0, false, Nat.zero_le _, rfl, rfl, rfl, Below.refl _ _⟩
      case round =>
        obtain ⟨j, b, hj, rfl, rfl, hbe, hbq⟩ := hrel
        have HBE := Lib.hid hbe
        have HBQ := Lib.hid hbq
        have HBQ4 : Hid (Below w4.heap.size w4 wr) := HBR.out.trans (hbq.mono HBR.out.size)
        clear hbe hbq
        have heb := HEZ.out
        by_cases hltj : j < E.length
        · obtain ⟨a1, e1, _, hn1⟩ := (HSR4.out.below (HBQ4.out.mono HZ34.out)) j (mk E[j]) (by rw [List.getElem?_map, List.getElem?_eq_getElem hltj]; rfl)
          have HYZ : Hid ((mk E[j]).size ≤ maxLen) := by
            show _ ≤ _
            have := HES.out _ (List.getElem_mem hltj)
            have h2 : (mk E[j]).data.toList.length = E[j].length := by rw [mk_data]
            unfold maxLen
            simp at h2; omega
          have HOK : Hid (okS cr (E.take (j + 1)) x1.data.toList = (okS cr (E.take j) x1.data.toList || (Lk.foldL (mk E[j]).data.toList x1.data.toList || ((mk E[j]).data.toList == [42] && !cr)))) := by
            show _ = _
            rw [mk_data]
            exact okS_take hltj
          generalize mk E[j] = y at *
          subst e1
          have hst := beq_l (t := y) rfl [42]
          rw [← HBE.out, ← hst] at HOK
          clear hst
          have HNM : Hid (NmAt wr (a1.add j) (ad.add (k * 2)) y x1) := ⟨hn1, (HC1.out wr HBQ4.out).1⟩
          cases b
          case true =>
            have HOK2 : Hid (true = okS cr (E.take (j + 1)) x1.data.toList) := by show _ = _; rw [HOK.out]; rfl
            go_wp2_with fail
            go_quiet (fail)
            go_wp2
            go_roundw
            case rel => exact ⟨j + 1, true, by omega, by go_num, rfl, HOK2.out, by first | exact HBQ.out | exact below_drewN HBQ.out _⟩
            case measure => simp [intOf]; omega
          case false =>
            obtain ⟨ff, hff⟩ : ∃ ff, ff = Lk.foldL y.data.toList x1.data.toList := ⟨_, rfl⟩
            have HFF := Lib.hid hff
            generalize hsb : (y.toList == [42]) = sb at *
            rw [← hff] at HOK
            clear hff
            go_wp2_with fail
            obtain ⟨F, hF⟩ : ∃ F : World → Prop, ∀ W, F W ↔ NmAt W (a1.add j) (ad.add (k * 2)) y x1 := ⟨_, fun _ => Iff.rfl⟩
            have HF := Lib.hid hF
            have z0 : ∀ p : Held F, p.w.cell? (a1.add j) = some (.string y) := fun p => ((hF _).1 p.h).1
            have z1 : ∀ p : Held F, p.w.cell? (ad.add (k * 2)) = some (.string x1) := fun p => ((hF _).1 p.h).2
            clear hF
            have hne : Nonempty (Held F) := ⟨⟨wr, (HF.out _).2 HNM.out⟩⟩
            have hj2 : ((j : Int) < (E.length : Int)) := by omega
            have hk2 : ((k : Int) < (ys.length : Int)) := by omega
            refine mix_start F (by kernel_rfl) ?_
            refine mix_seg [0, 1, 2, 3, 4, 5, 6, 7, 8, 9, 10] (by kernel_rfl) ((HF.out _).2 HNM.out) ?_
            simp only [segOf, pickOps, pickOp]
            repeat (go_big_quiet_step (fail))
            refine wpQuiet_nil ?_
            refine mix_run 11 (by kernel_rfl) ?_
            simp only [segOf, pickOps, pickOp]
            go_wp2_with fail
            refine (refFold_any y x1 _ HYZ.out HZ1.out).mono ?_
            rintro e w5 ⟨rfl, hb5⟩
            rw [← HFF.out]
            have hb5' : Below wr.heap.size wr w5 := (Below.refl _ _).drew.trans hb5
            have HNM5 := Lib.hid (HNM.out.below hb5')
            have HBQ5 : Hid (Below W0.heap.size W0 w5) := HBQ.out.trans (hb5'.mono HBQ.out.size)
            clear hb5 hb5'
            go_wp2_with fail
            refine MixPost.normal ((HF.out _).2 HNM5.out) ?_
            cases ff <;> cases sb <;> cases cr <;>
            · refine mix_seg [12, 13, 14, 15, 16, 17, 18, 19, 20, 21, 22, 23, 24] (by kernel_rfl) ((HF.out _).2 HNM5.out) ?_
              simp only [segOf, pickOps, pickOp]
              repeat (go_big_quiet_step (fail))
              refine wpQuiet_nil ?_
              refine mix_done (by kernel_rfl) ?_
              go_wp2
              go_roundw
              case rel => exact ⟨j + 1, _, by omega, by go_num, rfl, HOK.out.symm, HBQ5.out⟩
              case measure => simp [intOf]; omega
        · obtain rfl : j = E.length := by omega
          have HBE2 : Hid (b = okS cr E x1.data.toList) := by
            show _ = _
            have h := HBE.out
            rwa [List.take_length] at h
          have h1 := beq_l (t := x1) rfl cookL
          have h2 := beq_l (t := x1) rfl cook2L
          have HSE : Hid (rseesH cr E x1.data.toList = (b && (!(x1.toList == cookL) && !(x1.toList == cook2L)))) := by
            show _ = _
            unfold rseesH
            rw [← HBE2.out, h1, h2]
          clear h1 h2 HBE
          unfold cookL cook2L at HSE
          generalize hq1 : (x1.toList == [115, 101, 116, 45, 99, 111, 111, 107, 105, 101]) = q1 at *
          generalize hq2 : (x1.toList == [115, 101, 116, 45, 99, 111, 111, 107, 105, 101, 50]) = q2 at *
          obtain ⟨c1, c2'⟩ := HC1.out wr HBQ4.out
          have HRW : Hid (HdRow wr w4.heap.size u9 dl) := ownsRow_below HRR.out HBQ.out
          cases b
          case false =>
            go_wp2
            go_roundw
            case rel =>
              refine ⟨k + 1, dl, by omega, by go_num, ?_, by have := HDK.out; omega, HRW.out, HBQ4.out⟩
              have h := HFT.out
              rw [show (hd (x1, x2)).1 = x1.data.toList from rfl, HSE.out] at h
              rw [HDL.out, h]
              simp
            case measure => simp [intOf]; omega
          case true =>
            cases q1
            case true =>
              go_wp2
              go_roundw
              case rel =>
                refine ⟨k + 1, dl, by omega, by go_num, ?_, by have := HDK.out; omega, HRW.out, HBQ4.out⟩
                have h := HFT.out
                rw [show (hd (x1, x2)).1 = x1.data.toList from rfl, HSE.out] at h
                rw [HDL.out, h]
                simp
              case measure => simp [intOf]; omega
            case false =>
              cases q2
              case true =>
                go_wp2
                go_roundw
                case rel =>
                  refine ⟨k + 1, dl, by omega, by go_num, ?_, by have := HDK.out; omega, HRW.out, HBQ4.out⟩
                  have h := HFT.out
                  rw [show (hd (x1, x2)).1 = x1.data.toList from rfl, HSE.out] at h
                  rw [HDL.out, h]
                  simp
                case measure => simp [intOf]; omega
              case false =>
                go_wp2_with (at_builtin; refine wpList_append_own _ rfl (.tmp 77) (.tmp 82) 22 rfl w4.heap.size 35 i0 (.agg #[.string ⟨#[]⟩, .string ⟨#[]⟩]) 2 32 Try.underlying22 hi hz0 hz1 hz2 rfl (by decide) _ _ _ rfl (World.ownsRow.alloc (w := wr) HRW.out _) ⟨wr.heap.size, 0, none⟩ 1 1 [.string x1, .string x2] rfl rfl ?d1 ?d2 ?d3 ?d4 ?d5 ?_)
                case d1 => exact cells_two_new _ _ _ _
                case d2 => intro u hu; simp at hu; rcases hu with rfl | rfl <;> rfl
                case d3 => have h1 := HDK.out; unfold maxLen; omega
                case d4 => have h1 := HDK.out; omega
                case d5 => have := HBQ4.out.size; simp; omega
                intro v' w5 hown' hgrow _
                have HR5 := Lib.hid hown'
                have HB5 : Hid (Below w4.heap.size w4 w5) := (HBQ4.out.alloc HBQ4.out.size _).grown hgrow (by have := HBQ4.out.size; simp; omega) (fun b hb => (World.ownsRow.lt HRW.out b hb).1)
                clear hown' hgrow
                go_wp2
                go_roundw
                case rel =>
                  refine ⟨k + 1, dl ++ [hd (x1, x2)], by omega, by go_num, ?_, by have := HDK.out; simp; omega, HdRow.more HR5.out, HB5.out⟩
                  have h := HFT.out
                  rw [show (hd (x1, x2)).1 = x1.data.toList from rfl, HSE.out] at h
                  rw [HDL.out, h]
                  simp
                case measure => simp [intOf]; omega
    · obtain rfl : k = ys.length := by omega
      go_wp2
      go_ret
      refine ⟨_, rfl, ?_, HB4.out.trans (HBR.out.mono HB4.out.size)⟩
      rw [HRES.out]
      have h := HDL.out
      rw [HYN.out, List.take_length] at h
      rw [← h]
      exact HRR.out.base HB4.out.size
end Go.Proofs.Ytpfbkcibpmndoaa
