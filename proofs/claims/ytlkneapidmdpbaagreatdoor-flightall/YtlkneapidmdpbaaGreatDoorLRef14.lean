/-
  Contracts of the document's own answer of layer 14 over this seat's program. Conditions: those of each statement.
-/
import Derived.Test.YtlkneapidmdpbaaGreatDoorLAllow
import Derived.Test.YtlkneapidmdpbaaGreatDoorLRef6
import Derived.Deep.CutRange
namespace Go.Proofs.YtlkneapidmdpbaaGreatDoor
open Go.RowKit

theorem sown_block_lt {w : World} {b : Nat} {A : Option Addr} {n c : Nat} {l : List (List UInt8)} (h : sown w b (.slice A n c) l) : ∀ g, (Value.slice A n c).ownBlock = some g → g < w.heap.size := fun _ hg => (own_lt h hg).2
theorem sown_keep {w w' : World} {b B : Nat} {v : Value} {l : List (List UInt8)} (h : sown w b v l) (hg : ∀ g, v.ownBlock = some g → g < B) (hb : Below B w w') : sown w' b v l := by
  refine ⟨h.1, ?_⟩
  rcases h.2 with hn | ⟨g, cap, cur, hv, hb1, hc, rest⟩
  · exact .inl hn
  · exact .inr ⟨g, cap, cur, hv, hb1, (hb.block _ (hg g (by rw [hv]; rfl))).trans hc, rest⟩
theorem srow_set {w : World} {B : Nat} {A : Option Addr} {xs : List ByteArray} (h : SRow w B A xs) {g j : Nat} {u : Value} (hg : B ≤ g) : SRow (w.setCell ⟨g, j, none⟩ u) B A xs := h.below ((Below.refl _ _).setCell (p := ⟨g, j, none⟩) hg u)
theorem al_beside {W : World} {g g' j : Nat} {a : Av} {u : Value} (o : AlAt W g a) (h : g' ≠ g) : AlAt (W.setCell ⟨g', j, none⟩ u) g a := by
  have k : ∀ i, (⟨g', j, none⟩ : Addr) ≠ ⟨g, i, none⟩ := fun i e => by cases e; exact h rfl
  exact ⟨(World.cell?_setCell_other W _ _ u (k 0)).trans o.c0, (World.cell?_setCell_other W _ _ u (k 1)).trans o.c1, (World.cell?_setCell_other W _ _ u (k 2)).trans o.c2, fun i => by rw [World.frozen?_setCell]; exact o.own i⟩
theorem tokAll_dat {l : List (List UInt8)} {k : Nat} (h : k < l.length) : (Lk.tokL (mk l[k]).data.toList = false → tokAll l = false) ∧ (Lk.tokL (mk l[k]).data.toList = true → tokAll (l.take k) = true → tokAll (l.take (k + 1)) = true) := by
  rw [mk_data]; exact ⟨tokAll_here h, fun h1 h2 => tokAll_next h h2 h1⟩
theorem sizes_mk {l : List (List UInt8)} (hz : ∀ x ∈ l, x.length ≤ maxLen) {k : Nat} (h : k < l.length) : (mk l[k]).size ≤ maxLen := by
  have := hz _ (List.getElem_mem h)
  have h2 : (mk l[k]).data.toList.length = l[k].length := by rw [mk_data]
  simp at h2; omega
theorem get_ba {l : List Hd} (h : Sm l) (n : List UInt8) : ∃ t : ByteArray, t = mk (getH l n) ∧ t.data.toList = getH l n ∧ t.size ≤ 1099511627776 := by
  refine ⟨_, rfl, mk_data _, ?_⟩
  have h1 := congrArg List.length (mk_data (getH l n))
  have h2 := get_len h n
  simp at h1; omega

set_option maxRecDepth 100000 in
set_option maxHeartbeats 8000000 in
theorem refARead_any (A : Option Addr) (len c B : Nat) (xs : List (ByteArray × ByteArray)) (w : World) (hlen : len = xs.length) (hB : B ≤ w.heap.size) (hx : PRow w B A xs) (hsm : Sm (xs.map hd)) :
    Calls Tryz.prog 44 #[.slice A len c] w (LetPost (xs.map hd) w) := by
  obtain ⟨i0, hi, hz0, hz1, hz2⟩ := info_parts infoS
  obtain ⟨tm, htm, htm2, htm3⟩ := get_ba hsm metN
  obtain ⟨th, hth, hth2, hth3⟩ := get_ba hsm hdrN
  obtain ⟨tg, htg, htg2, htg3⟩ := get_ba hsm agN
  obtain ⟨ms, hms⟩ : ∃ ms, ms = elsH (xs.map hd) metN := ⟨_, rfl⟩
  obtain ⟨hs, hhs⟩ : ∃ hs, hs = elsH (xs.map hd) hdrN := ⟨_, rfl⟩
  have HZM : Hid (∀ x ∈ ms, x.length ≤ maxLen) := by rw [hms]; intro x h; have := els_small hsm _ x h; unfold maxLen; omega
  have HZH : Hid (∀ x ∈ hs, x.length ≤ maxLen) := by rw [hhs]; intro x h; have := els_small hsm _ x h; unfold maxLen; omega
  have hlm : ms.length ≤ 200000001 := by rw [hms]; exact els_len hsm metN
  have hlh : hs.length ≤ 200000001 := by rw [hhs]; exact els_len hsm hdrN
  have HLM := Lib.hid hlm
  have HLH := Lib.hid hlh
  have HMS := Lib.hid hms
  have HHS := Lib.hid hhs
  have HTM := Lib.hid htm
  have HTH := Lib.hid hth
  have HTG := Lib.hid htg
  have HTM2 : Hid (Lk.splitL tm.data.toList = ms) := by show _ = _; rw [htm2, hms]; rfl
  have HTH2 : Hid (Lk.splitL th.data.toList = hs) := by show _ = _; rw [hth2, hhs]; rfl
  have HTM3 := Lib.hid htm3
  have HTH3 := Lib.hid hth3
  have HTG3 : Hid (tg.size ≤ maxLen) := by show _ ≤ _; unfold maxLen; omega
  obtain ⟨u, hu⟩ : ∃ u, u = mk (Lk.trimL tg.data.toList) := ⟨_, rfl⟩
  have HU : Hid (u.data.toList = Lk.trimL tg.data.toList) := by show _ = _; rw [hu, mk_data]
  have HUM := Lib.hid hu
  have HUZ : Hid (u.size ≤ maxLen) := by
    show _ ≤ _
    have h1 := congrArg List.length HU.out
    have h2 := Lk.trim_len tg.data.toList
    have h3 := HTG3.out
    simp at h1 h2; omega
  have HAG : Hid (ageH (xs.map hd) = ageV u.data.toList) := by show _ = _; rw [HU.out, htg2]; rfl
  obtain ⟨dn, db, hd1, hd2, hd3⟩ := digRes_as u.data.toList
  have HD := Lib.hid hd1
  have HDB := Lib.hid hd2
  have HDV := Lib.hid hd3
  have HS := Lib.hid hsm
  have HLen := Lib.hid hlen
  obtain ⟨W, hW⟩ : ∃ W, W = w.alloc (.cells #[.slice none 0 0, .slice none 0 0, .int .u64 0] 28) := ⟨_, rfl⟩
  have hb0 : Below w.heap.size w W := by rw [hW]; exact (Below.refl _ _).alloc (Nat.le_refl _) _
  have HB0 := Lib.hid hb0
  have HC0 : Hid (AlAt W w.heap.size Av.zero) := by rw [hW]; exact AlAt.new w Av.zero _
  have HX0 : Hid (PRow W w.heap.size A xs) := (hx.mono hB).below hb0
  clear hms hhs hlh hlm hx hsm hlen hB hb0 htm htm2 htm3 hth hth2 hth3 htg htg2 htg3 hu hd1 hd2 hd3
  go_enter Tryz.func44, Tryz.ntmps44
  go_wp2_with fail
  rw [← hW]
  clear hW
  refine (refGet_any A len c w.heap.size xs _ _ HLen.out HB0.out.size HX0.out HS.out (by unfold maxLen; decide)).mono ?_
  rintro e w1 ⟨rfl, hb⟩
  rw [show (ByteArray.mk #[97, 99, 99, 101, 115, 115, 45, 99, 111, 110, 116, 114, 111, 108, 45, 97, 108, 108, 111, 119, 45, 109, 101, 116, 104, 111, 100, 115]).data.toList = metN from rfl, ← HTM.out]
  have HC1 := Lib.hid (HC0.out.up hb)
  have HX1 : Hid (PRow w1 w.heap.size A xs) := HX0.out.below (hb.mono HB0.out.size)
  have HB1 : Hid (Below w.heap.size w w1) := HB0.out.trans (hb.mono HB0.out.size)
  clear hb HC0 HX0 HB0
  go_wp2_with fail
  refine (refGet_any A len c w.heap.size xs _ _ HLen.out HB1.out.size HX1.out HS.out (by unfold maxLen; decide)).mono ?_
  rintro e w2 ⟨rfl, hb⟩
  rw [show (ByteArray.mk #[97, 99, 99, 101, 115, 115, 45, 99, 111, 110, 116, 114, 111, 108, 45, 97, 108, 108, 111, 119, 45, 104, 101, 97, 100, 101, 114, 115]).data.toList = hdrN from rfl, ← HTH.out]
  have HC2 := Lib.hid (HC1.out.up hb)
  have HX2 : Hid (PRow w2 w.heap.size A xs) := HX1.out.below (hb.mono HB1.out.size)
  have HB2 : Hid (Below w.heap.size w w2) := HB1.out.trans (hb.mono HB1.out.size)
  clear hb HC1 HX1 HB1
  go_wp2_with fail
  refine (refGet_any A len c w.heap.size xs _ _ HLen.out HB2.out.size HX2.out HS.out (by unfold maxLen; decide)).mono ?_
  rintro e w3 ⟨rfl, hb⟩
  rw [show (ByteArray.mk #[97, 99, 99, 101, 115, 115, 45, 99, 111, 110, 116, 114, 111, 108, 45, 109, 97, 120, 45, 97, 103, 101]).data.toList = agN from rfl, ← HTG.out]
  have HC3 := Lib.hid (HC2.out.up hb)
  have HX3 : Hid (PRow w3 w.heap.size A xs) := HX2.out.below (hb.mono HB2.out.size)
  have HB3 : Hid (Below w.heap.size w w3) := HB2.out.trans (hb.mono HB2.out.size)
  clear hb HC2 HX2 HB2
  go_wp2_with fail
  refine (refSplit_any tm _ HTM3.out).mono ?_
  rintro e w4 ⟨v1, rfl, ho1, hb⟩
  rw [HTM2.out] at ho1
  have HC4 := Lib.hid (HC3.out.up hb)
  have HB4 : Hid (Below w.heap.size w w4) := HB3.out.trans (hb.mono HB3.out.size)
  obtain ⟨A1, n1, c1, hv, hn1, _⟩ := sown_slice ho1
  subst hv
  have HN1 := Lib.hid hn1
  obtain ⟨A1', c1', e1', _, hr1⟩ := trow_of ho1
  have HR4 : Hid (SRow w4 w4.heap.size A1 (ms.map mk)) := by injection e1' with ea; rw [ea]; exact hr1
  have hnb1 : n1 ≤ 200000001 := by rw [hn1]; exact HLM.out
  obtain ⟨B1, hB1⟩ : ∃ B1, B1 = w3.heap.size := ⟨_, rfl⟩
  rw [← hB1] at ho1
  have HG0 : Hid (w.heap.size < B1) := by rw [hB1]; exact HC3.out.lt
  have HM4 := Lib.hid ho1
  clear hb hn1 ho1 hr1 e1' HC3 HX3 HB3 hB1
  obtain ⟨g1, hg1⟩ : ∃ g1, g1 = w4.heap.size := ⟨_, rfl⟩
  obtain ⟨W5, hW5⟩ : ∃ W5, W5 = w4.alloc (.cells #[.slice A1 n1 c1, .slice none 0 0, .int .u64 5] 28) := ⟨_, rfl⟩
  have hb5 : Below w4.heap.size w4 W5 := by rw [hW5]; exact (Below.refl _ _).alloc (Nat.le_refl _) _
  have HC5 := Lib.hid (HC4.out.up hb5)
  have HA5 : Hid (AlAt W5 g1 ⟨A1, n1, c1, none, 0, 0, 5⟩) := by rw [hW5, hg1]; exact AlAt.new w4 ⟨A1, n1, c1, none, 0, 0, 5⟩ _
  have HB5 : Hid (Below w.heap.size w W5) := HB4.out.trans (hb5.mono HB4.out.size)
  have HR5 : Hid (SRow W5 g1 A1 (ms.map mk)) := by rw [hg1]; exact HR4.out.below hb5
  have HM5 : Hid (sown W5 B1 (.slice A1 n1 c1) ms) := sown_up HM4.out hb5
  have HL1 : Hid (∀ g, (Value.slice A1 n1 c1).ownBlock = some g → g < g1) := by rw [hg1]; exact sown_block_lt HM4.out
  have HG1 : Hid (w.heap.size < g1) := by rw [hg1]; exact HC4.out.lt
  have HS5 : Hid (g1 < W5.heap.size) := HA5.out.lt
  clear hb5 HC4 HB4 HR4 HM4
  obtain ⟨p0, p1, p2, pf⟩ := HA5.out
  dsimp only at p0 p1 p2
  obtain ⟨q0, q1, q2, qf⟩ := HC5.out
  dsimp only [Av.zero] at q0 q1 q2
  go_wp2_with fail
  rw [← hW5, ← hg1]
  clear hW5 hg1
  go_loop [11] (fun i => ∃ k : Nat, k ≤ n1 ∧ i = .int .i64 k ∧ tokAll (ms.take k) = true) (fun i => n1 - (intOf i).toNat)
  case atStart => exact ⟨0, Nat.zero_le _, rfl, rfl⟩
  case round =>
    obtain ⟨k, hk, rfl, hf⟩ := hrel
    have HF := Lib.hid hf
    clear hf
    by_cases hlt : k < n1
    · have hlt2 : k < ms.length := by rw [← HN1.out]; exact hlt
      obtain ⟨a1, e1, _, hc1⟩ := HR5.out k (mk ms[k]) (by rw [List.getElem?_map, List.getElem?_eq_getElem hlt2]; rfl)
      have HM := Lib.hid (sizes_mk HZM.out hlt2)
      have HT := Lib.hid (tokAll_dat hlt2)
      generalize mk ms[k] = x at *
      clear hlt2
      subst e1
      cases hc : Lk.tokL x.data.toList
      · have HC := Lib.hid hc
        have HI : Hid (readI (xs.map hd) = 5) := readI_5 (by rw [← HMS.out]; exact HT.out.1 hc)
        clear hc
        go_wp2_with fail
        refine (refToken_any x _ HM.out).mono ?_
        rintro e w' ⟨rfl, rfl⟩
        rw [HC.out]
        go_wp2
        obtain ⟨z0, z1, z2, _⟩ := HC5.out.put_at Av.zero
        dsimp only [AlAt.put, Av.zero] at z0 z1 z2
        refine bodyPost_ret (v := .tuple #[.agg #[.slice none 0 0, .slice none 0 0, .int .u64 0], .int .i64 5]) (by simp [results, Tryz.results44, go_sem, z0, z1, z2]) rfl ?_
        exact ⟨Av.zero, by rw [HI.out]; rfl, by rw [readA_no HI.out (by decide)]; exact AvIs.zero _, AlAt.put_below HB5.out (Nat.le_refl _) Av.zero⟩
      · have HC := Lib.hid hc
        have HQ := Lib.hid (HT.out.2 hc HF.out)
        clear hc
        go_wp2_with fail
        refine (refToken_any x _ HM.out).mono ?_
        rintro e w' ⟨rfl, rfl⟩
        rw [HC.out]
        go_wp2
        go_round
        case rel => exact ⟨k + 1, by omega, by go_num, HQ.out⟩
        case measure => simp [intOf]; omega
    · obtain rfl : k = n1 := by omega
      have K1 : Hid (tokAll ms = true) := by have h := HF.out; rw [HN1.out, List.take_length] at h; exact h
      clear hlt hk HF
      go_wp2_with fail
      refine (refSplit_any th _ HTH3.out).mono ?_
      rintro e w6 ⟨v2, rfl, ho2, hb⟩
      rw [HTH2.out] at ho2
      clear p0 p1 p2 pf q0 q1 q2 qf
      have HC6 := Lib.hid (HC5.out.up hb)
      have HA6 := Lib.hid (HA5.out.up hb)
      have HB6 : Hid (Below w.heap.size w w6) := HB5.out.trans (hb.mono HB5.out.size)
      have HM6 : Hid (sown w6 B1 (.slice A1 k c1) ms) := sown_up HM5.out hb
      have HS6 : Hid (W5.heap.size ≤ w6.heap.size) := hb.size
      obtain ⟨A2, n2, c2, hv, hn2, hgA⟩ := sown_slice ho2
      subst hv
      have HN2 := Lib.hid hn2
      have HGA := Lib.hid hgA
      have HO2 := Lib.hid ho2
      have HL2 := Lib.hid (sown_block_lt ho2)
      have hnb2 : n2 ≤ 200000001 := by rw [hn2]; exact HLH.out
      clear hb hn2 hgA ho2 HC5 HA5 HB5 HR5 HM5
      go_wp2_with fail
      go_loopw [13] (fun i wr => ∃ (j : Nat) (Ah : Option Addr) (ch : Nat), j ≤ n2 ∧ i = .int .i64 j ∧ AlAt wr w.heap.size Av.zero ∧ AlAt wr g1 ⟨A1, k, c1, Ah, j, ch, 5⟩ ∧ sown wr w6.heap.size (.slice Ah j ch) ((hs.take j).map Lk.lower) ∧ sown wr W5.heap.size (.slice A2 n2 c2) hs ∧ sown wr B1 (.slice A1 k c1) ms ∧ Below w.heap.size w wr ∧ w6.heap.size ≤ wr.heap.size ∧ tokAll (hs.take j) = true) (fun i _ => n2 - (intOf i).toNat)
      case atStart => exact ⟨0, none, 0, Nat.zero_le _, rfl, HC6.out, HA6.out, World.ownsRow_nil _ _ _ _, HO2.out, HM6.out, HB6.out, Nat.le_refl _, rfl⟩
      case round =>
        obtain ⟨j, Ah, ch, hj, rfl, h1, h2, h3, h4, h5, h6, h7, h8⟩ := hrel
        have HC7 := Lib.hid h1
        have HA7 := Lib.hid h2
        have HH7 := Lib.hid h3
        have HO7 := Lib.hid h4
        have HM7 := Lib.hid h5
        have HB7 := Lib.hid h6
        have HZ7 := Lib.hid h7
        have HF7 := Lib.hid h8
        clear h1 h2 h3 h4 h5 h6 h7 h8
        by_cases hlt : j < n2
        · have hlt2 : j < hs.length := by rw [← HN2.out]; exact hlt
          obtain ⟨g2, hA, hg2⟩ := HGA.out (by omega)
          subst hA
          have hg2' : g2 < w6.heap.size := HL2.out g2 rfl
          obtain ⟨s1, _⟩ := sown_slot HO7.out HN2.out j hlt2
          have HM := Lib.hid (sizes_mk HZH.out hlt2)
          have HT := Lib.hid (tokAll_dat hlt2)
          have HTK : Hid ((hs.take (j + 1)).map Lk.lower = (hs.take j).map Lk.lower ++ [Lk.lower (mk hs[j]).data.toList]) := by
            show _ = _
            rw [List.take_succ_eq_append_getElem hlt2, List.map_append, mk_data]; rfl
          have HTL : Hid (((hs.take j).map Lk.lower).length = j) := by show _ = _; rw [List.length_map, List.length_take]; omega
          obtain ⟨L, hL⟩ : ∃ L, L = (hs.take j).map Lk.lower := ⟨_, rfl⟩
          rw [← hL] at HTK HTL HH7
          clear hL
          generalize mk hs[j] = x at *
          clear hlt2
          obtain ⟨t, ht⟩ := lower_ba x
          have HLT := Lib.hid ht
          clear ht
          cases hc : Lk.tokL x.data.toList
          · have HC := Lib.hid hc
            have HI : Hid (readI (xs.map hd) = 6) := readI_6 (by rw [← HMS.out]; exact K1.out) (by rw [← HHS.out]; exact HT.out.1 hc)
            clear hc
            obtain ⟨q0, q1, q2, qf⟩ := HC7.out
            dsimp only [Av.zero] at q0 q1 q2
            go_wp2_with fail
            refine (refToken_any x _ HM.out).mono ?_
            rintro e w' ⟨rfl, rfl⟩
            rw [HC.out]
            go_wp2
            obtain ⟨z0, z1, z2, _⟩ := HC7.out.put_at Av.zero
            dsimp only [AlAt.put, Av.zero] at z0 z1 z2
            refine bodyPost_ret (v := .tuple #[.agg #[.slice none 0 0, .slice none 0 0, .int .u64 0], .int .i64 6]) (by simp [results, Tryz.results44, go_sem, z0, z1, z2]) rfl ?_
            exact ⟨Av.zero, by rw [HI.out]; rfl, by rw [readA_no HI.out (by decide)]; exact AvIs.zero _, AlAt.put_below HB7.out (Nat.le_refl _) Av.zero⟩
          · have HC := Lib.hid hc
            have HQ := Lib.hid (HT.out.2 hc HF7.out)
            clear hc
            obtain ⟨wd, hwd⟩ : ∃ wd, wd = wr.drew := ⟨_, rfl⟩
            have HBD : Hid (Below wr.heap.size wr wd) := by show Below _ _ _; rw [hwd]; exact (Below.refl _ _).drew
            have HFD : Hid (wd.cell? ⟨g2, j, none⟩ = some (.string x)) := by show _ = _; rw [hwd]; exact s1
            have HAD := Lib.hid (HA7.out.up HBD.out)
            have HG2R : Hid (g2 < wr.heap.size) := by show _ < _; have := HZ7.out; omega
            go_wp2_with fail
            refine (refToken_any x _ HM.out).mono ?_
            rintro e w' ⟨rfl, rfl⟩
            rw [HC.out]
            go_wp2_with fail
            refine mix_start (fun X => X.cell? ⟨g2, j, none⟩ = some (.string x)) (by kernel_rfl) ?_
            rw [← hwd]
            clear hwd s1
            have hne : Nonempty (Held (fun X => X.cell? ⟨g2, j, none⟩ = some (.string x))) := ⟨⟨wd, HFD.out⟩⟩
            have hx1 : ∀ p : Held (fun X => X.cell? ⟨g2, j, none⟩ = some (.string x)), p.w.cell? ⟨g2, j, none⟩ = some (.string x) := fun p => p.h
            refine mix_seg [0, 2, 3, 4, 5] (by kernel_rfl) HFD.out ?_
            simp only [segOf, pickOps, pickOp]
            repeat (go_big_quiet_step (fail))
            refine wpQuiet_nil ?_
            clear hx1
            refine mix_several [1, 6] (by kernel_rfl) ?_
            intro i' hi'
            simp only [List.mem_cons, List.not_mem_nil, or_false] at hi'
            rcases hi' with rfl | rfl
            case' inl =>
              simp only [segOf, pickOps, pickOp]
              obtain ⟨_, r1, _, _⟩ := HAD.out
              dsimp only at r1
              go_wp2_with fail
              refine MixPost.normal HFD.out ?_
              clear r1
              refine mix_run 6 (by kernel_rfl) ?_
              simp only [segOf, pickOps, pickOp]
              go_wp2_with fail
              refine (erefLower_as x t _ HM.out HLT.out).mono ?_
              rintro e w8 ⟨rfl, hb⟩
              have HB8 : Hid (Below wr.heap.size wr w8) := HBD.out.trans (hb.mono HBD.out.size)
              have HF8 : Hid (w8.cell? ⟨g2, j, none⟩ = some (.string x)) := (hb.cell (p := ⟨g2, j, none⟩) (Nat.lt_of_lt_of_le HG2R.out HBD.out.size)).trans HFD.out
              clear hb
              go_wp2_with fail
              refine MixPost.normal HF8.out ?_
              refine mix_run 7 (by kernel_rfl) ?_
              simp only [segOf, pickOps, pickOp]
              obtain ⟨gb, hgb⟩ : ∃ gb, gb = w8.heap.size := ⟨_, rfl⟩
              obtain ⟨W9, hW9⟩ : ∃ W9, W9 = w8.alloc (.cells #[.string t] 9) := ⟨_, rfl⟩
              have HB9 : Hid (Below wr.heap.size wr W9) := by show Below _ _ _; rw [hW9]; exact HB8.out.alloc HB8.out.size _
              have HF9 : Hid (W9.cell? ⟨g2, j, none⟩ = some (.string x)) := by show _ = _; rw [hW9]; exact (Below.cell ((Below.refl _ _).alloc (Nat.le_refl w8.heap.size) _) (p := ⟨g2, j, none⟩) (Nat.lt_of_lt_of_le HG2R.out HB8.out.size)).trans HF8.out
              have HE9 : Hid (W9.cell? ⟨gb, 0, none⟩ = some (.string t)) := by show _ = _; rw [hW9, hgb]; simp
              have HA9 := Lib.hid (HA7.out.up HB9.out)
              go_wp2_with fail
              rw [← hW9, ← hgb]
              clear hW9 hgb
              refine MixPost.normal HF9.out ?_
            case' inr =>
              simp only [segOf, pickOps, pickOp]
              go_wp2_with fail
              refine (erefLower_as x t _ HM.out HLT.out).mono ?_
              rintro e w8 ⟨rfl, hb⟩
              have HB8 : Hid (Below wr.heap.size wr w8) := HBD.out.trans (hb.mono HBD.out.size)
              have HF8 : Hid (w8.cell? ⟨g2, j, none⟩ = some (.string x)) := (hb.cell (p := ⟨g2, j, none⟩) (Nat.lt_of_lt_of_le HG2R.out HBD.out.size)).trans HFD.out
              clear hb
              go_wp2_with fail
              refine MixPost.normal HF8.out ?_
              refine mix_several [1, 7] (by kernel_rfl) ?_
              intro i' hi'
              simp only [List.mem_cons, List.not_mem_nil, or_false] at hi'
              rcases hi' with rfl | rfl
              case' inl =>
                have HA8 := Lib.hid (HA7.out.up HB8.out)
                simp only [segOf, pickOps, pickOp]
                obtain ⟨_, r1, _, _⟩ := HA8.out
                dsimp only at r1
                go_wp2_with fail
                refine MixPost.normal HF8.out ?_
                clear r1
                clear HA8
                refine mix_run 7 (by kernel_rfl) ?_
                simp only [segOf, pickOps, pickOp]
                obtain ⟨gb, hgb⟩ : ∃ gb, gb = w8.heap.size := ⟨_, rfl⟩
                obtain ⟨W9, hW9⟩ : ∃ W9, W9 = w8.alloc (.cells #[.string t] 9) := ⟨_, rfl⟩
                have HB9 : Hid (Below wr.heap.size wr W9) := by show Below _ _ _; rw [hW9]; exact HB8.out.alloc HB8.out.size _
                have HF9 : Hid (W9.cell? ⟨g2, j, none⟩ = some (.string x)) := by show _ = _; rw [hW9]; exact (Below.cell ((Below.refl _ _).alloc (Nat.le_refl w8.heap.size) _) (p := ⟨g2, j, none⟩) (Nat.lt_of_lt_of_le HG2R.out HB8.out.size)).trans HF8.out
                have HE9 : Hid (W9.cell? ⟨gb, 0, none⟩ = some (.string t)) := by show _ = _; rw [hW9, hgb]; simp
                have HA9 := Lib.hid (HA7.out.up HB9.out)
                go_wp2_with fail
                rw [← hW9, ← hgb]
                clear hW9 hgb
                refine MixPost.normal HF9.out ?_
              case' inr =>
                simp only [segOf, pickOps, pickOp]
                obtain ⟨gb, hgb⟩ : ∃ gb, gb = w8.heap.size := ⟨_, rfl⟩
                obtain ⟨W9, hW9⟩ : ∃ W9, W9 = w8.alloc (.cells #[.string t] 9) := ⟨_, rfl⟩
                have HB9 : Hid (Below wr.heap.size wr W9) := by show Below _ _ _; rw [hW9]; exact HB8.out.alloc HB8.out.size _
                have HF9 : Hid (W9.cell? ⟨g2, j, none⟩ = some (.string x)) := by show _ = _; rw [hW9]; exact (Below.cell ((Below.refl _ _).alloc (Nat.le_refl w8.heap.size) _) (p := ⟨g2, j, none⟩) (Nat.lt_of_lt_of_le HG2R.out HB8.out.size)).trans HF8.out
                have HE9 : Hid (W9.cell? ⟨gb, 0, none⟩ = some (.string t)) := by show _ = _; rw [hW9, hgb]; simp
                have HA9 := Lib.hid (HA7.out.up HB9.out)
                go_wp2_with fail
                rw [← hW9, ← hgb]
                clear hW9 hgb
                refine MixPost.normal HF9.out ?_
                refine mix_run 1 (by kernel_rfl) ?_
                simp only [segOf, pickOps, pickOp]
                obtain ⟨_, r1, _, _⟩ := HA9.out
                dsimp only at r1
                go_wp2_with fail
                refine MixPost.normal HF9.out ?_
                clear r1
            all_goals
              have HH9 : Hid (sown W9 w6.heap.size (.slice Ah j ch) L) := sown_up HH7.out HB9.out
              have HLL := HTL.out
              refine mix_run 8 (by kernel_rfl) ?_
              simp only [segOf, pickOps, pickOp]
              refine wpList_append_lies W9 rfl (.tmp 65) (.tmp 71) 26 rfl w6.heap.size 9 i0 (.string ⟨#[]⟩) 1 16 Tryz.underlying26 hi hz0 hz1 hz2 rfl (by decide) (.slice Ah j ch) _ _ rfl HH9.out ⟨gb, 0, none⟩ 1 1 [.string t] rfl rfl ?_ ?_ (by decide) (by unfold maxLen; omega) (by omega) (by have := HB9.out.size; have := HZ7.out; omega) _ rfl ?_
              · intro q uu hq
                match q, hq with
                | 0, hq => simp at hq; subst hq; simpa [Addr.add] using HE9.out
              · intro uu hu; simp at hu; subst hu; rfl
              intro g3 cap3 w10 hown hgrow hat hlt3
              have HB10 : Hid (Below w6.heap.size wr w10) := (HB9.out.mono HZ7.out).grown hgrow (by have := HB9.out.size; have := HZ7.out; omega) (fun b hb => (own_lt HH9.out hb).1)
              have HA10 : Hid (AlAt w10 g1 ⟨A1, k, c1, Ah, j, ch, 5⟩) := HA7.out.below HB10.out (by have := HS5.out; have := HS6.out; omega)
              have HC10 : Hid (AlAt w10 w.heap.size Av.zero) := HC7.out.below HB10.out (by have := HS5.out; have := HS6.out; have := HG1.out; omega)
              have HM10 : Hid (sown w10 B1 (.slice A1 k c1) ms) := sown_keep HM7.out HL1.out (HB10.out.mono (by have := HS5.out; have := HS6.out; omega))
              have HO10 : Hid (sown w10 W5.heap.size (.slice (some ⟨g2, 0, none⟩) n2 c2) hs) := sown_keep HO7.out (fun g hg => by simp [Value.ownBlock] at hg; omega) HB10.out
              have HF10 : Hid (w10.cell? ⟨g2, j, none⟩ = some (.string x)) := by
                show _ = _
                have h1 := HB10.out.cell (p := ⟨g2, j, none⟩) hg2'
                have h2 := HBD.out.cell (p := ⟨g2, j, none⟩) HG2R.out
                rw [h1, ← h2]; exact HFD.out
              have HBW : Hid (Below w.heap.size w w10) := HB7.out.trans (HB10.out.mono (by have := HS5.out; have := HS6.out; have := HG1.out; omega))
              have HH10 : Hid (sown w10 w6.heap.size (.slice (some ⟨g3, 0, none⟩) (j + 1) cap3) ((hs.take (j + 1)).map Lk.lower)) := by
                show World.ownsRow _ _ _ _ _ _ _
                rw [HTK.out, List.length_append, List.map_append, ← HLT.out]
                have e : [t.data.toList].map sv = [.string t] := by show [sv _] = _; rw [sv_mk, mk_eq]
                rw [e, HTL.out]
                have h := hown
                rw [HTL.out] at h
                exact h
              have HZ10 : Hid (w6.heap.size ≤ w10.heap.size) := by show _ ≤ _; have := HB10.out.size; have := HZ7.out; omega
              rw [HTL.out] at *
              clear hown hgrow hat hlt3
              obtain ⟨W11, hW11⟩ : ∃ W11, W11 = w10.setCell ⟨g1, 1, none⟩ (.slice (some ⟨g3, 0, none⟩) (j + 1) cap3) := ⟨_, rfl⟩
              have HA11 : Hid (AlAt W11 g1 ⟨A1, k, c1, some ⟨g3, 0, none⟩, j + 1, cap3, 5⟩) := by rw [hW11]; exact HA10.out.set1 _ _ _
              have HC11 : Hid (AlAt W11 w.heap.size Av.zero) := by rw [hW11]; exact al_beside HC10.out (by have := HG1.out; omega)
              have HM11 : Hid (sown W11 B1 (.slice A1 k c1) ms) := by rw [hW11]; exact sown_keep HM10.out HL1.out ((Below.refl _ _).setCell (p := ⟨g1, 1, none⟩) (Nat.le_refl _) _)
              have HO11 : Hid (sown W11 W5.heap.size (.slice (some ⟨g2, 0, none⟩) n2 c2) hs) := by rw [hW11]; exact own_al1 HO10.out HS5.out
              have HH11 : Hid (sown W11 w6.heap.size (.slice (some ⟨g3, 0, none⟩) (j + 1) cap3) ((hs.take (j + 1)).map Lk.lower)) := by rw [hW11]; exact own_al1 HH10.out (Nat.lt_of_lt_of_le HS5.out HS6.out)
              have HB11 : Hid (Below w.heap.size w W11) := by rw [hW11]; exact HBW.out.setCell (p := ⟨g1, 1, none⟩) (Nat.le_of_lt HG1.out) _
              have HZ11 : Hid (w6.heap.size ≤ W11.heap.size) := by rw [hW11]; show _ ≤ _; rw [World.size_setCell]; exact HZ10.out
              have HF11 : Hid (W11.cell? ⟨g2, j, none⟩ = some (.string x)) := by
                rw [hW11]
                exact (World.cell?_setCell_other w10 ⟨g1, 1, none⟩ ⟨g2, j, none⟩ _ (by intro e; cases e; have := HS5.out; omega)).trans HF10.out
              obtain ⟨r0, r1, r2, rf⟩ := HA10.out
              dsimp only at r0 r1 r2
              have rlt := HA10.out.lt
              go_wp2_with fail
              refine MixPost.normal HF10.out ?_
              have hne2 : Nonempty (Held (fun X => X.cell? ⟨g2, j, none⟩ = some (.string x))) := ⟨⟨w10, HF10.out⟩⟩
              refine mix_seg [9] (by kernel_rfl) HF10.out ?_
              simp only [segOf, pickOps, pickOp]
              repeat (go_big_quiet_step (fail))
              refine wpQuiet_nil ?_
              refine mix_run 10 (by kernel_rfl) ?_
              simp only [segOf, pickOps, pickOp]
              go_wp2_with fail
              rw [← hW11]
              clear hW11 r0 r1 r2 rf rlt
              refine MixPost.normal HF11.out ?_
              refine mix_done (by kernel_rfl) ?_
              go_wp2
              go_roundw
              case rel => exact ⟨j + 1, some ⟨g3, 0, none⟩, cap3, by omega, by go_num, HC11.out, HA11.out, HH11.out, HO11.out, HM11.out, HB11.out, HZ11.out, HQ.out⟩
              case measure => simp [intOf]; omega
        · obtain rfl : j = n2 := by omega
          have K2 : Hid (tokAll hs = true) := by have h := HF7.out; rw [HN2.out, List.take_length] at h; exact h
          have HI : Hid (readI (xs.map hd) = 0) := readI_0 (by rw [← HMS.out]; exact K1.out) (by rw [← HHS.out]; exact K2.out)
          have HH8 : Hid (sown wr w6.heap.size (.slice Ah j ch) (hs.map Lk.lower)) := by
            have h := HH7.out
            rw [HN2.out, List.take_length, ← HN2.out] at h
            exact h
          clear hlt hj HF7 HH7 HO7
          go_wp2_with fail
          refine (refTrim_as tg u _ HTG3.out HUM.out).mono ?_
          rintro e w' ⟨rfl, rfl⟩
          go_wp2_with fail
          refine (refDigits_any u _ HUZ.out).mono ?_
          rintro e w' ⟨rfl, rfl⟩
          rw [HD.out]
          obtain ⟨ag, hag⟩ : ∃ ag, ag = ageH (xs.map hd) := ⟨_, rfl⟩
          have HAGE := Lib.hid hag
          have HV5 : Hid (db = false → (ag : Int) = 5) := by show _ → _; intro h; rw [hag, HAG.out, ageV, HDB.out, h]; rfl
          have HVM : Hid (db = true → min (dn : Int) 7200 = (ag : Int)) := by show _ → _; intro h; rw [hag, HAG.out]; exact HDV.out h
          clear hag
          go_upto_if 80 with fail
          go_cut [] from 80 to 84 (fun W' => AlAt W' g1 ⟨A1, k, c1, Ah, j, ch, (ag : Int)⟩ ∧ AlAt W' w.heap.size Av.zero ∧ sown W' B1 (.slice A1 k c1) ms ∧ sown W' w6.heap.size (.slice Ah j ch) (hs.map Lk.lower) ∧ Below w.heap.size w W')
          case first =>
            cases db
            · have HW5 := Lib.hid (HV5.out rfl)
              go_wp2_with fail
              go_meet
              case rel => exact ⟨by rw [HW5.out]; exact HA7.out, HC7.out, HM7.out, HH8.out, HB7.out⟩
            · have HMV := Lib.hid (HVM.out rfl)
              obtain ⟨mv, hmv⟩ : ∃ mv : Int, mv = min (dn : Int) 7200 := ⟨_, rfl⟩
              have HME : Hid (mv = (ag : Int)) := by show _ = _; rw [hmv]; exact HMV.out
              obtain ⟨p0, p1, p2, pf⟩ := HA7.out
              dsimp only at p0 p1 p2
              have plt := HA7.out.lt
              obtain ⟨W8, hW8⟩ : ∃ W8, W8 = wr.setCell ⟨g1, 2, none⟩ (.int .u64 (min (dn : Int) 7200)) := ⟨_, rfl⟩
              have HA8 : Hid (AlAt W8 g1 ⟨A1, k, c1, Ah, j, ch, (ag : Int)⟩) := by rw [hW8, ← hmv, HME.out]; exact HA7.out.set2 _
              have HC8 : Hid (AlAt W8 w.heap.size Av.zero) := by rw [hW8]; exact al_beside HC7.out (by have := HG1.out; omega)
              have HM8 : Hid (sown W8 B1 (.slice A1 k c1) ms) := by rw [hW8]; exact sown_keep HM7.out HL1.out ((Below.refl _ _).setCell (p := ⟨g1, 2, none⟩) (Nat.le_refl _) _)
              have HH9 : Hid (sown W8 w6.heap.size (.slice Ah j ch) (hs.map Lk.lower)) := by rw [hW8]; exact own_al1 HH8.out (Nat.lt_of_lt_of_le HS5.out HS6.out)
              have HB8 : Hid (Below w.heap.size w W8) := by rw [hW8]; exact HB7.out.setCell (p := ⟨g1, 2, none⟩) (Nat.le_of_lt HG1.out) _
              clear hmv
              go_wp2_with fail
              rw [← hW8]
              go_meet
              case rel => exact ⟨HA8.out, HC8.out, HM8.out, HH9.out, HB8.out⟩
          case rest =>
            obtain ⟨h1, h2, h3, h4, h5⟩ := hcut
            have HAE := Lib.hid h1
            have HCE := Lib.hid h2
            have HME := Lib.hid h3
            have HHE := Lib.hid h4
            have HBE := Lib.hid h5
            clear h1 h2 h3 h4 h5
            obtain ⟨p0, p1, p2, pf⟩ := HAE.out
            dsimp only at p0 p1 p2
            obtain ⟨q0, q1, q2, qf⟩ := HCE.out
            dsimp only [Av.zero] at q0 q1 q2
            go_wp2
            obtain ⟨z0, z1, z2, _⟩ := HCE.out.put_at ⟨A1, k, c1, Ah, j, ch, (ag : Int)⟩
            dsimp only [AlAt.put] at z0 z1 z2
            refine bodyPost_ret (v := .tuple #[.agg #[.slice A1 k c1, .slice Ah j ch, .int .u64 (ag : Int)], .int .i64 0]) (by simp [results, Tryz.results44, go_sem, z0, z1, z2]) rfl ?_
            refine ⟨⟨A1, k, c1, Ah, j, ch, (ag : Int)⟩, by rw [HI.out]; rfl, ?_, AlAt.put_below HBE.out (Nat.le_refl _) ⟨A1, k, c1, Ah, j, ch, (ag : Int)⟩⟩
            rw [readA_0 HI.out, ← HMS.out, ← HHS.out, ← HAGE.out]
            refine avis_of (b := B1) (b2 := w6.heap.size) ?_ ?_
            · exact own_al HME.out HG0.out ⟨A1, k, c1, Ah, j, ch, (ag : Int)⟩
            · exact own_al HHE.out (by have := HS5.out; have := HS6.out; have := HG1.out; omega) ⟨A1, k, c1, Ah, j, ch, (ag : Int)⟩
end Go.Proofs.YtlkneapidmdpbaaGreatDoor
