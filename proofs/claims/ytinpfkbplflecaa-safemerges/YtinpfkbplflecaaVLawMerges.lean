/-
  The walk of the law SafeMerges: whatever the input, it returns true, and nothing that was there has turned. Conditions: the arguments are such as any that come in.
-/
import Derived.Test.YtinpfkbplflecaaVAwake
namespace Go.Proofs.Ytinpfkbplflecaa
open Go.RowKit

theorem bd_both {l m : List Hd} {n k a b : Nat} (h : Bd l n a b) (h' : Bd m k a b) : Bd (l ++ m) (n + k) a b :=
  ⟨by have := h.1; have := h'.1; simp; omega, fun g hg => by rcases List.mem_append.1 hg with hg | hg; exact h.2 g hg; exact h'.2 g hg⟩
def namedL (ns : List Tx) : List Hd := ns.map (fun n => (n, []))
theorem named_snoc (ns : List Tx) (k : Nat) (h : k < ns.length) : namedL (ns.take (k + 1)) = namedL (ns.take k) ++ [(ns[k], [])] := by
  unfold namedL; rw [List.take_succ_eq_append_getElem h, List.map_append]; rfl
theorem name_short {l : List Hd} {n a b : Nat} (h : Bd l n a b) : ∀ x ∈ safeNames l, x.length ≤ a := by
  intro x hx
  obtain ⟨g, hg, e⟩ := (names_mem l x).1 (safeNames_lows hx)
  rw [← e, Lk.lower_len]
  exact (h.2 g hg).1
theorem named_sm {ns : List Tx} (h1 : ns.length ≤ 1000) (h2 : ∀ x ∈ ns, x.length ≤ 100000) : Sm (namedL ns) := by
  refine ⟨by simpa [namedL] using h1, fun h hh => ?_⟩
  obtain ⟨x, hx, rfl⟩ := List.mem_map.1 hh
  exact ⟨h2 x hx, by simp⟩
theorem svs_one (l : List (List UInt8)) : ∀ u ∈ l.map sv, u.oneCell' = true := by
  intro u hu
  obtain ⟨x, _, rfl⟩ := List.mem_map.1 hu
  rfl

set_option maxRecDepth 100000 in
set_option maxHeartbeats 8000000 in
theorem walk_SafeMerges (a0 : Option Addr) (c0 : Nat) (xs : List (ByteArray × ByteArray)) (a1 : Option Addr) (c1 : Nat) (ys : List (ByteArray × ByteArray)) (w : World) (h0 : HArg w a0 c0 xs) (h1 : HArg w a1 c1 ys) :
    Calls Try.prog 9 #[.slice a0 xs.length c0, .slice a1 ys.length c1] w fun e w' => e = .returned (.bool true) ∧ Below w.heap.size w w' := by
  have HL0 : Hid (xs.length ≤ maxLen) := Nat.le_trans h0.2.2.1 h0.2.2.2.1
  have HN0 := Lib.hid h0.2.2.2.2
  have HX0 := Lib.hid h0.1
  have HS0 := Lib.hid h0.2.1
  clear h0
  have HL1 : Hid (ys.length ≤ maxLen) := Nat.le_trans h1.2.2.1 h1.2.2.2.1
  have HN1 := Lib.hid h1.2.2.2.2
  have HX1 := Lib.hid h1.1
  have HS1 := Lib.hid h1.2.1
  clear h1
  cases hg : greatB xs
  case true =>
    have HG := Lib.hid hg
    clear hg
    go_enter Try.func9, Try.ntmps9
    go_wp2_with fail
    refine (Great_any a0 _ c0 w.heap.size xs _ rfl HX0.out HL0.out HS0.out).mono ?_
    rintro e w' ⟨rfl, rfl⟩
    rw [show (decide (40 < xs.length) || greatGo 0 xs) = true from HG.out]
    go_wp2_with fail
    refine (awake7_any _).mono ?_
    rintro e w1 ⟨rfl, hb⟩
    go_wp2
    go_ret
    exact ⟨rfl, hb⟩
  have HG := Lib.hid hg
  have HD0 := Lib.hid (great_bd hg)
  clear hg
  cases hg : greatB ys
  case true =>
    have HGY := Lib.hid hg
    clear hg
    go_enter Try.func9, Try.ntmps9
    go_wp2_with fail
    refine (Great_any a0 _ c0 w.heap.size xs _ rfl HX0.out HL0.out HS0.out).mono ?_
    rintro e w' ⟨rfl, rfl⟩
    rw [show (decide (40 < xs.length) || greatGo 0 xs) = false from HG.out]
    go_wp2_with fail
    refine (Great_any a1 _ c1 w.heap.size ys _ rfl HX1.out HL1.out HS1.out).mono ?_
    rintro e w' ⟨rfl, rfl⟩
    rw [show (decide (40 < ys.length) || greatGo 0 ys) = true from HGY.out]
    go_wp2_with fail
    refine (awake7_any _).mono ?_
    rintro e w1 ⟨rfl, hb⟩
    go_wp2
    go_ret
    exact ⟨rfl, hb⟩
  have HGY := Lib.hid hg
  have HD1 := Lib.hid (great_bd hg)
  clear hg
  have HM : Hid (Sm (xs.map hd)) := HD0.out.sm (by omega) (by omega) (by omega)
  have HM1 : Hid (Sm (ys.map hd)) := HD1.out.sm (by omega) (by omega) (by omega)
  have HMB : Hid (Sm (xs.map hd ++ ys.map hd)) := (bd_both HD0.out HD1.out).sm (by omega) (by omega) (by omega)
  have hl0 : xs.length ≤ 40 := by have := HD0.out.1; simpa using this
  have hl1 : ys.length ≤ 40 := by have := HD1.out.1; simpa using this
  obtain ⟨i0, hi, hz0, hz1, hz2⟩ := info_parts infoS
  obtain ⟨j0, hj, hy0, hy1, hy2⟩ := info_parts infoH
  go_enter Try.func9, Try.ntmps9
  go_wp2_with fail
  refine (Great_any a0 _ c0 w.heap.size xs _ rfl HX0.out HL0.out HS0.out).mono ?_
  rintro e w' ⟨rfl, rfl⟩
  rw [show (decide (40 < xs.length) || greatGo 0 xs) = false from HG.out]
  go_wp2_with fail
  refine (Great_any a1 _ c1 w.heap.size ys _ rfl HX1.out HL1.out HS1.out).mono ?_
  rintro e w' ⟨rfl, rfl⟩
  rw [show (decide (40 < ys.length) || greatGo 0 ys) = false from HGY.out]
  go_wp2_with (at_builtin; refine wpList_append_heads rfl (.const (.slice none 0 0)) (.tmp 18) rfl w.heap.size _ [] rfl (HdRow.nil _ _) a0 c0 w.heap.size xs rfl HX0.out HN0.out ?k1 (Nat.le_refl _) ?_)
  case k1 => first | omega | (simp; omega)
  intro v u1 hr hg
  have hb0 : Below w.heap.size w u1 := (Below.refl _ _).grown hg (Nat.le_refl _) (by intro k hk; cases hk)
  have HR : Hid (HdRow u1 w.heap.size v (xs.map hd)) := by show HdRow _ _ _ _; simpa using hr
  have HU := Lib.hid hb0
  clear hr hg hb0
  go_wp2_with (at_builtin; refine wpList_append_heads rfl (.tmp 19) (.tmp 20) rfl w.heap.size _ _ rfl HR.out a1 c1 w.heap.size ys rfl (HX1.out.below HU.out) HN1.out ?k2 HU.out.size ?_)
  case k2 => simp; omega
  intro v2 w3 hr hg
  have hb3 : Below w.heap.size w w3 := HU.out.grown hg HU.out.size (fun b hb => (World.ownsRow.lt HR.out b hb).1)
  have HB3 := Lib.hid hb3
  clear hg hb3
  obtain ⟨A, nA, cA, yA, rfl, hnA, hyA, _, hpA⟩ := hr.row
  have hAz : yA.length ≤ 80 := by have h := congrArg List.length hyA; simp at h; omega
  have HNA := Lib.hid hnA
  have HYA : Hid (yA.map hd = xs.map hd ++ ys.map hd) := hyA
  have HPA := Lib.hid hpA
  have HSA : Hid (∀ x ∈ yA, x.1.size ≤ 100000 ∧ x.2.size ≤ 100000) := by
    have h : Sm (yA.map hd) := by rw [hyA]; exact HMB.out
    exact h.sizes.2
  have hnn := hnA
  subst hnn
  clear hr hnA hyA hpA
  go_wp2_with fail
  go_loopw [6, 7] (fun s r wr => ∃ (k : Nat) (dl : List Hd), k ≤ yA.length ∧ r = .int .i64 k ∧ s = .int .i64 (safeSum dl : Int) ∧ dl = (yA.take k).map hd ∧ Below w3.heap.size w3 wr) (fun _ r _ => yA.length - (intOf r).toNat)
  case atStart => exact ⟨0, [], Nat.zero_le _, rfl, rfl, rfl, Below.refl _ _⟩
  case round =>
    obtain ⟨k, dl, hk, rfl, rfl, hdl, hb⟩ := hrel
    have hsk : safeSum dl ≤ 128 * 80 := by
      have h1 := sum_bd dl
      have h2 : dl.length ≤ 80 := by rw [hdl]; simp; omega
      omega
    have HDL := Lib.hid hdl
    have HBB := Lib.hid hb
    clear hdl hb
    by_cases hlt : k < yA.length
    · obtain ⟨ad, hA, _, hc1, hc2⟩ := (HPA.out.below HBB.out) k yA[k] (List.getElem?_eq_getElem hlt)
      have hz := HSA.out yA[k] (List.getElem_mem hlt)
      have HD := Lib.hid (take_hd (List.take_succ_eq_append_getElem hlt))
      have HXC : Hid (∀ W, Below wr.heap.size wr W → W.cell? ⟨(ad.add (k * 2)).block, (ad.add (k * 2)).off + 1, none⟩ = some (.string yA[k].2)) := fun W hW => (hW.cell (p := ⟨(ad.add (k * 2)).block, (ad.add (k * 2)).off + 1, none⟩) (block_of_cell hc2)).trans hc2
      generalize yA[k] = x at *
      obtain ⟨x1, x2⟩ := x
      subst hA
      obtain ⟨t, ht⟩ : ∃ t : ByteArray, t = ⟨(Lk.trimL x2.data.toList).toArray⟩ := ⟨_, rfl⟩
      have HTA := Lib.hid ht
      have HTZ : Hid (t.size = (Lk.trimL (hd (x1, x2)).2).length) := by show _ = _; rw [ht]; show (Lk.trimL x2.data.toList).toArray.size = _; simp [hd]
      have htz : t.size ≤ 100000 := by
        have h1 := HTZ.out
        have h2 := Lk.trim_len x2.data.toList
        have h3 := hz.2
        simp [hd] at h1 h2 h3; omega
      clear ht
      go_wp2_with fail
      refine (Header_any x1 x2 _ (by unfold maxLen; omega) (by unfold maxLen; omega)).mono ?_
      rintro e w5 ⟨rfl, hb5⟩
      have HB5 : Hid (Below w3.heap.size w3 w5) := HBB.out.trans (hb5.mono HBB.out.size)
      have hc5 := HXC.out w5 hb5
      clear hb5 hc1 hc2
      cases hsf : safeH (hd (x1, x2))
      · have HS6 : Hid (safeSum (dl ++ [hd (x1, x2)]) = safeSum dl) := by show _ = _; rw [sum_append, sum_no hsf, Nat.add_zero]
        clear hsf
        go_wp2
        go_roundw
        case rel => exact ⟨k + 1, dl ++ [hd (x1, x2)], by omega, by go_num, by rw [HS6.out], by rw [HD.out, HDL.out], HB5.out⟩
        case measure => simp [intOf]; omega
      · have HS6 : Hid (safeSum (dl ++ [hd (x1, x2)]) = safeSum dl + t.size) := by show _ = _; rw [sum_append, sum_yes hsf, HTZ.out]
        clear hsf
        go_wp2_with fail
        refine (Trim_any x2 _ (by unfold maxLen; omega)).mono ?_
        rintro e w' ⟨rfl, rfl⟩
        rw [← HTA.out]
        go_wp2
        go_roundw
        case rel => exact ⟨k + 1, dl ++ [hd (x1, x2)], by omega, by go_num, by rw [HS6.out]; go_num, by rw [HD.out, HDL.out], HB5.out⟩
        case measure => simp [intOf]; omega
    · obtain rfl : k = yA.length := by omega
      have HE : Hid (dl = xs.map hd ++ ys.map hd) := by show _ = _; rw [HDL.out, List.take_length, HYA.out]
      obtain ⟨sm, hsm⟩ : ∃ sm, sm = safeSum dl := ⟨_, rfl⟩
      rw [← hsm] at hsk ⊢
      have HSM : Hid (sm = safeSum (xs.map hd ++ ys.map hd)) := by rw [← HE.out]; exact hsm
      clear hsm
      obtain ⟨W5, hW5⟩ : ∃ W5, W5 = wr := ⟨_, rfl⟩
      have HB5 : Hid (Below w.heap.size w W5) := by rw [hW5]; exact HB3.out.trans (HBB.out.mono HB3.out.size)
      have HC5 : Hid (Below w3.heap.size w3 W5) := by rw [hW5]; exact HBB.out
      rw [← hW5]
      clear hW5 HBB
      by_cases hsum : 1024 < sm
      · have hsum2 : (1024 : Int) < (sm : Int) := by omega
        have HSE : Hid (safeNames (yA.map hd) = namesH (yA.map hd)) := by show _ = _; rw [HYA.out]; exact safe_many (by rw [← HSM.out]; exact hsum)
        go_wp2_with fail
        refine (Names7_any A _ cA w3.heap.size yA _ rfl HC5.out.size (HPA.out.below HC5.out) (by rw [HYA.out]; exact HMB.out)).mono ?_
        rintro e w6 ⟨v, rfl, hr, hb⟩
        rw [HSE.out] at hr
        obtain ⟨N, nN, cN, rfl, hnN, hpN⟩ := trow_row hr
        have HNN := Lib.hid hnN
        have HPN := Lib.hid hpN
        have HB6 : Hid (Below w.heap.size w w6) := HB5.out.trans (hb.mono HB5.out.size)
        have HC6 : Hid (Below w3.heap.size w3 w6) := HC5.out.trans (hb.mono HC5.out.size)
        clear hr hb hnN hpN
        go_wp2_with fail
        refine (Names_any A _ cA w3.heap.size yA _ rfl HC6.out.size (HPA.out.below HC6.out) (by rw [HYA.out]; exact HMB.out)).mono ?_
        rintro e w7 ⟨v, rfl, hr, hb⟩
        obtain ⟨M, nM, cM, rfl, hnM, hpM⟩ := trow_row hr
        have HNM := Lib.hid hnM
        have HPM := Lib.hid hpM
        have HB7 : Hid (Below w.heap.size w w7) := HB6.out.trans (hb.mono HB6.out.size)
        have HPN7 : Hid (SRow w7 w6.heap.size N ((namesH (yA.map hd)).map mk)) := HPN.out.below hb
        clear hr hb hnM hpM
        go_wp2_with fail
        refine (Texts_same N M _ _ cN cM w6.heap.size w7.heap.size _ _ HNN.out HNM.out (by have h1 := names_len (yA.map hd); simp at h1 ⊢; unfold maxLen; omega) HPN7.out HPM.out).mono ?_
        rintro e w8 ⟨rfl, n8, hw8⟩
        have HB8 : Hid (Below w.heap.size w w8) := by rw [hw8]; exact below_drewN HB7.out _
        clear hw8
        go_wp2_with fail
        refine (awake7_any _).mono ?_
        rintro e w9 ⟨rfl, hb⟩
        go_wp2
        go_ret
        exact ⟨rfl, HB8.out.trans (hb.mono HB8.out.size)⟩
      · have hsum2 : ¬ (1024 : Int) < (sm : Int) := by omega
        obtain ⟨nx, hnx⟩ : ∃ nx, nx = safeNames (xs.map hd) := ⟨_, rfl⟩
        obtain ⟨ny, hny⟩ : ∃ ny, ny = safeNames (ys.map hd) := ⟨_, rfl⟩
        have hxz : nx.length ≤ 40 := by rw [hnx]; have := safeNames_len (xs.map hd); simp at this; omega
        have hyz : ny.length ≤ 40 := by rw [hny]; have := safeNames_len (ys.map hd); simp at this; omega
        have HSE : Hid (safeNames (yA.map hd) = namesH (namedL (nx ++ ny))) := by
          show _ = _
          rw [HYA.out, hnx, hny]
          exact safe_merge (by rw [← HSM.out]; exact hsum)
        have HSH : Hid (∀ x ∈ nx ++ ny, x.length ≤ 100) := by
          intro x hx
          rcases List.mem_append.1 hx with hx | hx
          · exact name_short HD0.out x (by rw [← hnx]; exact hx)
          · exact name_short HD1.out x (by rw [← hny]; exact hx)
        have HNX := Lib.hid hnx
        have HNY := Lib.hid hny
        clear hnx hny
        go_wp2_with fail
        refine (Names7_any a0 _ c0 w.heap.size xs _ rfl HB5.out.size (HX0.out.below HB5.out) HM.out).mono ?_
        rintro e w6 ⟨v6, rfl, hr, hb⟩
        rw [← HNX.out] at hr
        have HR6 := Lib.hid hr
        have HB6 : Hid (Below W5.heap.size W5 w6) := hb
        clear hr hb
        go_wp2_with (at_builtin; refine wpList_append_own_own rfl (.const (.slice none 0 0)) (.tmp 53) 36 rfl W5.heap.size 9 i0 (.string ⟨#[]⟩) 1 16 Try.underlying36 hi hz0 hz1 hz2 rfl (by decide) _ 0 [] rfl (World.ownsRow_nil _ _ _ _) v6 W5.heap.size nx.length (nx.map sv) rfl HR6.out (svs_one _) ?m1 ?m2 HB6.out.size ?_)
        case m1 => unfold maxLen; omega
        case m2 => omega
        intro v7 w7 hr hg
        have hb7 : Below W5.heap.size W5 w7 := HB6.out.grown hg HB6.out.size (by intro k hk; cases hk)
        have HB7 := Lib.hid hb7
        have HR7 : Hid (sown w7 W5.heap.size v7 nx) := by show sown _ _ _ _; unfold sown; simpa using hr
        clear hr hg hb7
        go_wp2_with fail
        refine (Names7_any a1 _ c1 w.heap.size ys _ rfl (Nat.le_trans HB5.out.size HB7.out.size) (HX1.out.below (HB5.out.trans (HB7.out.mono HB5.out.size))) HM1.out).mono ?_
        rintro e w8 ⟨v8, rfl, hr, hb⟩
        rw [← HNY.out] at hr
        have HR8 := Lib.hid hr
        have HR78 : Hid (sown w8 W5.heap.size v7 nx) := ownsRow_below HR7.out hb
        have HB8 : Hid (Below W5.heap.size W5 w8) := HB7.out.trans (hb.mono HB7.out.size)
        clear hr hb
        go_wp2_with (at_builtin; refine wpList_append_own_own rfl (.tmp 54) (.tmp 56) 36 rfl W5.heap.size 9 i0 (.string ⟨#[]⟩) 1 16 Try.underlying36 hi hz0 hz1 hz2 rfl (by decide) v7 nx.length (nx.map sv) rfl HR78.out v8 w7.heap.size ny.length (ny.map sv) rfl HR8.out (svs_one _) ?m3 ?m4 HB8.out.size ?_)
        case m3 => unfold maxLen; omega
        case m4 => omega
        intro v9 w9 hr hg
        have hb9 : Below W5.heap.size W5 w9 := HB8.out.grown hg HB8.out.size (fun b hb => (World.ownsRow.lt HR78.out b hb).1)
        have HB9 := Lib.hid hb9
        have hr9 : sown w9 W5.heap.size v9 (nx ++ ny) := by unfold sown; rw [List.length_append, List.map_append]; exact hr
        clear hr hg hb9
        obtain ⟨nl, hnl⟩ : ∃ nl, nl = nx ++ ny := ⟨_, rfl⟩
        rw [← hnl] at hr9 HSE HSH
        have hnz : nl.length ≤ 80 := by rw [hnl]; simp; omega
        clear hnl
        obtain ⟨R, cR, hv, _, hpR⟩ := trow_of hr9
        subst hv
        have HPR := Lib.hid hpR
        have HBW9 : Hid (Below w.heap.size w w9) := HB5.out.trans (HB9.out.mono HB5.out.size)
        have HC9 : Hid (Below w3.heap.size w3 w9) := HC5.out.trans (HB9.out.mono HC5.out.size)
        clear hr9 hpR
        go_wp2_with fail
        go_loopw [8, 10] (fun v r wr2 => ∃ (k : Nat) (dl : List Hd), k ≤ nl.length ∧ r = .int .i64 k ∧ dl = namedL (nl.take k) ∧ HdRow wr2 w9.heap.size v dl ∧ Below w9.heap.size w9 wr2) (fun _ r _ => nl.length - (intOf r).toNat)
        case atStart => exact ⟨0, [], Nat.zero_le _, rfl, rfl, HdRow.nil _ _, Below.refl _ _⟩
        case round =>
          obtain ⟨k, dl, hk, rfl, hdl, hr, hb⟩ := hrel
          have hdk : dl.length ≤ 80 := by rw [hdl]; simp [namedL]; omega
          have HDL := Lib.hid hdl
          have HRR := Lib.hid hr
          have HBB := Lib.hid hb
          clear hdl hr hb
          by_cases hlt : k < nl.length
          · obtain ⟨ad, hA, _, hc⟩ := (HPR.out.below HBB.out) k (mk nl[k]) (by simp [hlt])
            have HNS := Lib.hid (named_snoc nl k hlt)
            have HMK : Hid ((mk nl[k]).data.toList = nl[k]) := mk_data _
            generalize mk nl[k] = x at *
            generalize nl[k] = nk at *
            subst hA
            have HR3 : Hid (wr.ownsRow w9.heap.size 41 2 u8 dl.length (hcs dl)) := HRR.out
            go_wp2_with (at_builtin; refine wpList_append_own _ rfl (.tmp 64) (.tmp 70) 22 rfl w9.heap.size 41 j0 (.agg #[.string ⟨#[]⟩, .string ⟨#[]⟩]) 2 32 Try.underlying22 hj hy0 hy1 hy2 rfl (by decide) _ _ _ rfl (World.ownsRow.alloc (w := wr) HR3.out _) ⟨wr.heap.size, 0, none⟩ 1 1 [.string x, .string ⟨#[]⟩] rfl rfl ?d1 ?d2 ?d3 ?d4 ?d5 ?_)
            case d1 => exact cells_two_new _ _ _ _
            case d2 => intro u hu; simp at hu; rcases hu with rfl | rfl <;> rfl
            case d3 => unfold maxLen; omega
            case d4 => omega
            case d5 => have := HBB.out.size; simp; omega
            intro v' w4 hown' hgrow _
            have HR4 : Hid (HdRow w4 w9.heap.size v' (dl ++ [(nk, [])])) := by
              have h := HdRow.more (a := x) (b := ⟨#[]⟩) (l := dl) hown'
              rw [HMK.out] at h
              exact h
            have HB4 : Hid (Below w9.heap.size w9 w4) := (HBB.out.alloc HBB.out.size _).grown hgrow (by have := HBB.out.size; simp; omega) (fun b hb => (HR3.out.lt b hb).1)
            clear hown' hgrow hc
            go_wp2
            go_roundw
            case rel => exact ⟨k + 1, dl ++ [(nk, [])], by omega, by go_num, by rw [HNS.out, HDL.out], HR4.out, HB4.out⟩
            case measure => simp [intOf]; omega
          · have HDE : Hid (dl = namedL nl) := by show _ = _; rw [HDL.out, List.take_of_length_le (by omega)]
            obtain ⟨P, nP, cP, yP, hv, hnP, hyP, _, hpP⟩ := HRR.out.row
            subst hv
            have HNP := Lib.hid hnP
            have HYP : Hid (yP.map hd = namedL nl) := by rw [← HDE.out]; exact hyP
            have HPP := Lib.hid hpP
            clear hnP hyP hpP
            have HBW : Hid (Below w.heap.size w wr) := HBW9.out.trans (HBB.out.mono HBW9.out.size)
            have HCW : Hid (Below w3.heap.size w3 wr) := HC9.out.trans (HBB.out.mono HC9.out.size)
            go_wp2_with fail
            refine (Names7_any A _ cA w3.heap.size yA _ rfl HCW.out.size (HPA.out.below HCW.out) (by rw [HYA.out]; exact HMB.out)).mono ?_
            rintro e w10 ⟨v, rfl, hr, hb⟩
            rw [HSE.out] at hr
            obtain ⟨N, nN, cN, rfl, hnN, hpN⟩ := trow_row hr
            have HNN := Lib.hid hnN
            have HPN := Lib.hid hpN
            have HB10 : Hid (Below w.heap.size w w10) := HBW.out.trans (hb.mono HBW.out.size)
            have HD10 : Hid (Below wr.heap.size wr w10) := hb
            clear hr hb hnN hpN
            go_wp2_with fail
            refine (Names_any P _ cP wr.heap.size yP _ HNP.out HD10.out.size (HPP.out.below HD10.out) (by rw [HYP.out]; exact named_sm (by omega) (fun x hx => by have := HSH.out x hx; omega))).mono ?_
            rintro e w11 ⟨v, rfl, hr, hb⟩
            rw [HYP.out] at hr
            obtain ⟨M, nM, cM, rfl, hnM, hpM⟩ := trow_row hr
            have HNM := Lib.hid hnM
            have HPM := Lib.hid hpM
            have HB11 : Hid (Below w.heap.size w w11) := HB10.out.trans (hb.mono HB10.out.size)
            have HPN11 : Hid (SRow w11 w10.heap.size N ((namesH (namedL nl)).map mk)) := HPN.out.below hb
            clear hr hb hnM hpM
            go_wp2_with fail
            refine (Texts_same N M _ _ cN cM w10.heap.size w11.heap.size _ _ HNN.out HNM.out (by have h1 := names_len (namedL nl); simp [namedL] at h1 ⊢; unfold maxLen; omega) HPN11.out HPM.out).mono ?_
            rintro e w12 ⟨rfl, n12, hw12⟩
            have HB12 : Hid (Below w.heap.size w w12) := by rw [hw12]; exact below_drewN HB11.out _
            clear hw12
            go_wp2_with fail
            refine (awake7_any _).mono ?_
            rintro e w13 ⟨rfl, hb⟩
            go_wp2
            go_ret
            exact ⟨rfl, HB12.out.trans (hb.mono HB12.out.size)⟩
end Go.Proofs.Ytinpfkbplflecaa
