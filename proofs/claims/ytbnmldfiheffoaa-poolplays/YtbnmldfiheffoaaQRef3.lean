/-
  The contracts of the document's own Expire and close of connections over this seat's program. Conditions: the pool lies there, not more than a hundred are idle.
-/
import Derived.Test.YtbnmldfiheffoaaQRef2
namespace Go.Proofs.Ytbnmldfiheffoaa
open Go.RowKit

theorem part_at {p : Cn → Bool} {l : List Cn} {k : Nat} (hk : k < l.length) (h : p (nthC l k) = true) : (l.take (k + 1)).filter p = (l.take k).filter p ++ [nthC l k] := by
  rw [List.take_succ_eq_append_getElem hk, List.filter_append, ← nthC_eq hk, List.filter_cons, if_pos h, List.filter_nil]
theorem part_off {p : Cn → Bool} {l : List Cn} {k : Nat} (hk : k < l.length) (h : p (nthC l k) = false) : (l.take (k + 1)).filter p = (l.take k).filter p := by
  rw [List.take_succ_eq_append_getElem hk, List.filter_append, ← nthC_eq hk, List.filter_cons, if_neg (by rw [h]; exact Bool.false_ne_true), List.filter_nil, List.append_nil]
theorem part_len (p : Cn → Bool) (l : List Cn) (k : Nat) (h : l.length ≤ 100) : ((l.take k).filter p).length ≤ 100 := by
  refine Nat.le_trans (List.length_filter_le _ _) ?_
  rw [List.length_take]; omega
theorem conns_snoc (l : List Cn) (c : Cn) : connsL (l ++ [c]) = connsL l ++ [(c.n : Int)] := by simp [connsL]
theorem conns_len (l : List Cn) : (connsL l).length = l.length := by simp [connsL]

set_option maxRecDepth 8000 in
set_option maxHeartbeats 3200000 in
theorem rExpire_any (g gt : Nat) (vt vb vi : Value) (s : Pv) (now : Nat) (w : World) (h : RpAt w g gt vt vb vi s) (hl : s.i.length ≤ 100) :
    Calls Try.prog 21 #[.pointer (some ⟨g, 0, none⟩), .int .u64 (now : Int)] w fun e w' => ∃ r vi', e = .returned r ∧ IRow w' r (shutG (dueB now) s) ∧ NewL w.heap.size r ∧
      RpAt w' g gt vt vb vi' (shutP (dueB now) s) ∧ Only (g :: ownL vi) w w' ∧ Grow w.heap.size vi vi' := by
  obtain ⟨A, cap, hvi, hlc, hcm⟩ := h.ri.slice
  unfold maxLen at hcm
  have HP := Lib.hid h
  have HL := Lib.hid hl
  clear h
  obtain ⟨nd, hnd⟩ : ∃ nd : Cn → Bool, nd = fun c => !dueB now c := ⟨_, rfl⟩
  have HND : Hid (∀ c, nd c = !dueB now c) := by show ∀ c, _; rw [hnd]; intro c; rfl
  have HSH : Hid (shutP (dueB now) s = { s with i := s.i.filter nd }) := by show _ = _; rw [hnd]; rfl
  clear hnd
  subst hvi
  go_enter Try.func21, Try.ntmps21
  go_wp2_with fail
  go_loopw [5, 6, 7] (fun c d i wr => ∃ (k : Nat) (vl vg : Value), vl = c ∧ vg = d ∧ k ≤ s.i.length ∧ i = .int .i64 k ∧ CRow 80 wr vl ((s.i.take k).filter nd) ∧ IRow wr vg (connsL ((s.i.take k).filter (dueB now))) ∧ NewL w.heap.size vl ∧ NewL w.heap.size vg ∧ (∀ x ∈ ownL vl, x ∉ ownL vg) ∧ Only [] w wr) (fun _ _ i _ => s.i.length - (intOf i).toNat)
  case atStart => exact ⟨0, _, _, rfl, rfl, Nat.zero_le _, rfl, CRow.nil, IRow.nil, (by intro x hx; simp [ownL, Value.ownBlock] at hx), (by intro x hx; simp [ownL, Value.ownBlock] at hx), (by intro x hx; simp [ownL, Value.ownBlock] at hx), Only.refl _ _⟩
  case round =>
    obtain ⟨k, vl, vg, hvl, hvg, hk, rfl, hs, hg, hv, hu, hd, ho⟩ := hrel
    subst hvl
    subst hvg
    have HS := Lib.hid hs
    have HG := Lib.hid hg
    have HV := Lib.hid hv
    have HU := Lib.hid hu
    have HD := Lib.hid hd
    have HO := Lib.hid ho
    clear hs hg hv hu hd ho
    have HPR := Lib.hid (HP.out.old HO.out)
    have hc4 := HPR.out.hd.c4
    have hgr := HPR.out.hd.lt
    by_cases hlt : k < s.i.length
    · obtain ⟨gb, cap2, e2, _, _, _⟩ := HPR.out.ri.some_ (by omega)
      obtain ⟨rfl, rfl⟩ : A = some ⟨gb, 0, none⟩ ∧ cap = cap2 := by
        injection e2 with e1 e2 e3
        exact ⟨e1, e3⟩
      obtain ⟨f1, f2, f3⟩ := HPR.out.ri.el rfl hlt
      have HT1 := Lib.hid (part_at (p := nd) hlt)
      have HT2 := Lib.hid (part_off (p := nd) hlt)
      have HT3 := Lib.hid (part_at (p := dueB now) hlt)
      have HT4 := Lib.hid (part_off (p := dueB now) hlt)
      obtain ⟨x, hx⟩ : ∃ x, x = nthC s.i k := ⟨_, rfl⟩
      rw [← hx] at f1 f2 f3 HT1 HT2 HT3 HT4
      clear hx e2
      have HNX := Lib.hid (HND.out x)
      obtain ⟨x1, x2, x3⟩ := x
      simp only at f1 f2 f3
      by_cases hle : x3 ≤ now
      · have HDX : Hid (dueB now ⟨x1, x2, x3⟩ = true) := decide_eq_true hle
        have HE1 := Lib.hid (HT2.out (by rw [HNX.out, HDX.out]; rfl))
        have HE2 := Lib.hid (HT3.out HDX.out)
        clear HT1 HT2 HT3 HT4
        obtain ⟨G, hG⟩ : ∃ G, G = connsL ((s.i.take k).filter (dueB now)) := ⟨_, rfl⟩
        have HGL : Hid (G.length ≤ 100) := by show _ ≤ _; rw [hG, conns_len]; exact part_len _ _ _ HL.out
        have HGE : Hid (connsL ((s.i.take (k + 1)).filter (dueB now)) = G ++ [(x1 : Int)]) := by show _ = _; rw [HE2.out, conns_snoc, hG]
        rw [← hG] at HG
        clear hG
        obtain ⟨Ac, capc, hce, _⟩ := HG.out.slice
        subst hce
        obtain ⟨W3, hW3⟩ : ∃ W3, W3 = wr.alloc (.cells #[.int .i64 (x1 : Int)] 3) := ⟨_, rfl⟩
        have HN3 : Hid (W3.cell? ⟨wr.heap.size, 0, none⟩ = some (.int .i64 (x1 : Int))) := by show _ = _; rw [hW3]; simp
        have HO3 : Hid (Only [] wr W3) := by show Only _ _ _; rw [hW3]; exact (Only.refl _ _).alloc _
        have HZ3 : Hid (W3.heap.size = wr.heap.size + 1) := by show _ = _; rw [hW3]; simp
        have HG3 := Lib.hid (HG.out.old HO3.out)
        clear f2
        go_wp2_with (at_builtin; rw [← hW3]; refine wpList_append_int rfl (.tmp 27) (.tmp 36) rfl _ G rfl HG3.out wr.heap.size x1 rfl HN3.out (by have := HGL.out; omega) ?_)
        intro g2 cap2 w4 hr4 ho4 hg4
        rw [← hW3] at ho4
        clear hW3
        have HO4 : Hid (Only [] w w4) := (HO.out.trans HO3.out).next ho4.out (fun y hy => .inr (HU.out y hy))
        have HS4 : Hid (CRow 80 w4 vl ((s.i.take k).filter nd)) := (HS.out.old HO3.out).only ho4.out (HD.out)
        have HV4 : Hid (w.heap.size ≤ g2 ∧ ∀ x ∈ ownL vl, x ≠ g2) := by
          show _ ∧ _
          rcases hg4.out with h1 | h1
          · exact ⟨HU.out g2 h1, fun x hx e => HD.out x hx (e ▸ h1)⟩
          · have h2 := HO.out.size; have h3 := HZ3.out
            exact ⟨by omega, fun x hx e => by have := HS.out.own hx; omega⟩
        clear ho4 hg4
        go_wp2_with fail
        go_roundw
        case rel => exact ⟨k + 1, _, _, rfl, rfl, by omega, by go_num, by rw [HE1.out]; exact HS4.out, by rw [HGE.out]; exact hr4.out, HV.out, (by intro x hx; simp [ownL, Value.ownBlock] at hx; subst hx; exact HV4.out.1), (by intro x hx hy; simp [ownL, Value.ownBlock] at hy; exact HV4.out.2 x hx hy), HO4.out⟩
        case measure => simp [intOf]; omega
      · have HDX : Hid (dueB now ⟨x1, x2, x3⟩ = false) := decide_eq_false hle
        have HE1 := Lib.hid (HT1.out (by rw [HNX.out, HDX.out]; rfl))
        have HE2 := Lib.hid (HT4.out HDX.out)
        clear HT1 HT2 HT3 HT4
        obtain ⟨G, hG⟩ : ∃ G, G = (s.i.take k).filter nd := ⟨_, rfl⟩
        have HGL : Hid (G.length ≤ 100) := by show _ ≤ _; rw [hG]; exact part_len _ _ _ HL.out
        rw [← hG] at HS HE1
        clear hG
        obtain ⟨Ac, capc, hce, _⟩ := HS.out.slice
        subst hce
        obtain ⟨W3, hW3⟩ : ∃ W3, W3 = wr.alloc (.cells #[.int .i64 (x1 : Int), .string x2, .int .u64 (x3 : Int)] 80) := ⟨_, rfl⟩
        have HN3 : Hid (W3.cell? ⟨wr.heap.size, 0, none⟩ = some (.int .i64 (x1 : Int)) ∧ W3.cell? ⟨wr.heap.size, 1, none⟩ = some (.string x2) ∧ W3.cell? ⟨wr.heap.size, 2, none⟩ = some (.int .u64 (x3 : Int))) := by
          show _ ∧ _ ∧ _; rw [hW3]; simp
        have HO3 : Hid (Only [] wr W3) := by show Only _ _ _; rw [hW3]; exact (Only.refl _ _).alloc _
        have HZ3 : Hid (W3.heap.size = wr.heap.size + 1) := by show _ = _; rw [hW3]; simp
        have HS3 := Lib.hid (HS.out.old HO3.out)
        go_wp2_with (at_builtin; rw [← hW3]; refine wpList_append_conn rfl (.tmp 38) (.tmp 46) 44 80 rfl Try.underlying44 infoCR _ G rfl HS3.out wr.heap.size ⟨x1, x2, x3⟩ rfl HN3.out.1 HN3.out.2.1 HN3.out.2.2 (by have := HGL.out; omega) ?_)
        intro g2 cap2 w4 hr4 ho4 hg4
        rw [← hW3] at ho4
        clear hW3
        have HO4 : Hid (Only [] w w4) := (HO.out.trans HO3.out).next ho4.out (fun y hy => .inr (HV.out y hy))
        have HG4 : Hid (IRow w4 vg (connsL ((s.i.take k).filter (dueB now)))) := (HG.out.old HO3.out).only ho4.out (fun x hx hy => HD.out x hy hx)
        have HV4 : Hid (w.heap.size ≤ g2 ∧ ∀ x ∈ ownL vg, x ≠ g2) := by
          show _ ∧ _
          rcases hg4.out with h1 | h1
          · exact ⟨HV.out g2 h1, fun x hx e => HD.out g2 h1 (e ▸ hx)⟩
          · have h2 := HO.out.size; have h3 := HZ3.out
            exact ⟨by omega, fun x hx e => by have := HG.out.own hx; omega⟩
        clear ho4 hg4
        go_wp2_with fail
        go_roundw
        case rel => exact ⟨k + 1, _, _, rfl, rfl, by omega, by go_num, by rw [HE1.out]; exact hr4.out, by rw [HE2.out]; exact HG4.out, (by intro x hx; simp [ownL, Value.ownBlock] at hx; subst hx; exact HV4.out.1), HU.out, (by intro x hx hy; simp [ownL, Value.ownBlock] at hx; subst hx; exact HV4.out.2 _ hy rfl), HO4.out⟩
        case measure => simp [intOf]; omega
    · obtain rfl : k = s.i.length := by omega
      rw [List.take_length] at HS HG
      obtain ⟨Ac, capc, hce, _⟩ := HS.out.slice
      obtain ⟨nl, hnl⟩ : ∃ nl, nl = (s.i.filter nd).length := ⟨_, rfl⟩
      rw [← hnl] at hce
      clear hnl
      subst hce
      obtain ⟨W3, hW3⟩ : ∃ W3, W3 = wr.setCell ⟨g, 4, none⟩ (.slice Ac nl capc) := ⟨_, rfl⟩
      have HO3 : Hid (Only [g] wr W3) := by show Only _ _ _; rw [hW3]; exact (Only.refl _ _).setCell (p := ⟨g, 4, none⟩) (by simp) _
      have HGV : Hid (Grow w.heap.size (.slice A s.i.length cap) (.slice Ac nl capc)) := fun x hx => .inr (HV.out x hx)
      have hcz := HPR.out.hd.z4
      have HNG : Hid (∀ x, w.heap.size ≤ x → x ∉ [g]) := by
        show ∀ x, _
        intro x hx hm
        simp at hm
        have := HP.out.hd.lt
        omega
      have HG3 : Hid (IRow W3 vg (connsL (s.i.filter (dueB now)))) := HG.out.only HO3.out (fun x hx => HNG.out x (HU.out x hx))
      have HS3 : Hid (CRow 80 W3 (.slice Ac nl capc) (s.i.filter nd)) := HS.out.only HO3.out (fun x hx => HNG.out x (HV.out x hx))
      have HH3 : Hid (RpHead W3 g s.t s.keep s.last gt vb (.slice Ac nl capc)) := by show RpHead _ _ _ _ _ _ _ _; rw [hW3]; exact HPR.out.hd.setI _
      have HOW : Hid (Only (g :: ownL (.slice A s.i.length cap)) w W3) := (HO.out.mono (by simp)).trans (HO3.out.mono (by intro z hz; simp at hz; subst hz; simp))
      have HP3 : Hid (RpAt W3 g gt vt vb (.slice Ac nl capc) (shutP (dueB now) s)) := by
        show RpAt _ _ _ _ _ _ _
        rw [HSH.out]
        exact HP.out.turnI HOW.out HH3.out HS3.out HGV.out
      go_wp2_with fail
      rw [← hW3]
      clear hW3 hc4 hcz
      refine (Sorted_any _ (connsL (s.i.filter (dueB now))) W3 HG3.out (by rw [conns_len]; have := HL.out; exact Nat.le_trans (List.length_filter_le _ _) (by omega))).mono ?_
      rintro e w' ⟨r, rfl, hs', hn', ho'⟩
      have HS' := Lib.hid hs'
      have HN' := Lib.hid hn'
      have HO' := Lib.hid ho'
      have HP' := Lib.hid (HP3.out.old ho')
      have HSZ := Lib.hid HOW.out.size
      clear hs' hn' ho'
      go_wp2
      go_ret
      exact ⟨r, _, rfl, HS'.out, (fun x hx => Nat.le_trans HSZ.out (HN'.out x hx)), HP'.out, HOW.out.trans (HO'.out.mono (by simp)), HGV.out⟩

set_option maxRecDepth 8000 in
set_option maxHeartbeats 3200000 in
theorem rclose_any (g gt : Nat) (vt vb vi : Value) (s : Pv) (key : ByteArray) (w : World) (h : RpAt w g gt vt vb vi s) (hl : s.i.length ≤ 100) :
    Calls Try.prog 37 #[.pointer (some ⟨g, 0, none⟩), .string key] w fun e w' => ∃ vi', e = .returned (.tuple #[]) ∧
      RpAt w' g gt vt vb vi' (shutP (ckeyB key) s) ∧ Only (g :: ownL vi) w w' ∧ Grow w.heap.size vi vi' := by
  obtain ⟨A, cap, hvi, hlc, hcm⟩ := h.ri.slice
  unfold maxLen at hcm
  have HP := Lib.hid h
  have HL := Lib.hid hl
  clear h
  obtain ⟨nd, hnd⟩ : ∃ nd : Cn → Bool, nd = fun c => !ckeyB key c := ⟨_, rfl⟩
  have HND : Hid (∀ c, nd c = !ckeyB key c) := by show ∀ c, _; rw [hnd]; intro c; rfl
  have HSH : Hid (shutP (ckeyB key) s = { s with i := s.i.filter nd }) := by show _ = _; rw [hnd]; rfl
  clear hnd
  subst hvi
  go_enter Try.func37, Try.ntmps37
  go_wp2_with fail
  go_loopw [4, 5] (fun c i wr => ∃ (k : Nat) (vl : Value), vl = c ∧ k ≤ s.i.length ∧ i = .int .i64 k ∧ CRow 80 wr vl ((s.i.take k).filter nd) ∧ NewL w.heap.size vl ∧ Only [] w wr) (fun _ i _ => s.i.length - (intOf i).toNat)
  case atStart => exact ⟨0, _, rfl, Nat.zero_le _, rfl, CRow.nil, (by intro x hx; simp [ownL, Value.ownBlock] at hx), Only.refl _ _⟩
  case round =>
    obtain ⟨k, vl, hvl, hk, rfl, hs, hv, ho⟩ := hrel
    subst hvl
    have HS := Lib.hid hs
    have HV := Lib.hid hv
    have HO := Lib.hid ho
    clear hs hv ho
    have HPR := Lib.hid (HP.out.old HO.out)
    have hc4 := HPR.out.hd.c4
    have hgr := HPR.out.hd.lt
    by_cases hlt : k < s.i.length
    · obtain ⟨gb, cap2, e2, _, _, _⟩ := HPR.out.ri.some_ (by omega)
      obtain ⟨rfl, rfl⟩ : A = some ⟨gb, 0, none⟩ ∧ cap = cap2 := by
        injection e2 with e1 e2 e3
        exact ⟨e1, e3⟩
      obtain ⟨f1, f2, f3⟩ := HPR.out.ri.el rfl hlt
      have HT1 := Lib.hid (part_at (p := nd) hlt)
      have HT2 := Lib.hid (part_off (p := nd) hlt)
      obtain ⟨x, hx⟩ : ∃ x, x = nthC s.i k := ⟨_, rfl⟩
      rw [← hx] at f1 f2 f3 HT1 HT2
      clear hx e2
      have HNX := Lib.hid (HND.out x)
      obtain ⟨x1, x2, x3⟩ := x
      simp only at f1 f2 f3
      by_cases he : x2 = key
      · have hb : (x2.toList == key.toList) = true := by rw [he]; exact beq_self_eq_true _
        have HE1 := Lib.hid (HT2.out (by rw [HNX.out, ckeyB_iff.2 he]; rfl))
        clear HT1 HT2 he f1 f3
        go_wp2
        go_roundw
        case rel => exact ⟨k + 1, _, rfl, by omega, by go_num, by rw [HE1.out]; exact HS.out, HV.out, HO.out⟩
        case measure => simp [intOf]; omega
      · have hb : (x2.toList == key.toList) = false := by
          rw [← Bool.not_eq_true, beq_iff_eq]
          intro h
          exact he (WideShapes.bytes_inj (by rw [ByteArray.toList_eq, ByteArray.toList_eq] at h; exact h))
        have HE1 := Lib.hid (HT1.out (by rw [HNX.out, ckeyB_no.2 he]; rfl))
        clear HT1 HT2 he
        obtain ⟨G, hG⟩ : ∃ G, G = (s.i.take k).filter nd := ⟨_, rfl⟩
        have HGL : Hid (G.length ≤ 100) := by show _ ≤ _; rw [hG]; exact part_len _ _ _ HL.out
        rw [← hG] at HS HE1
        clear hG
        obtain ⟨Ac, capc, hce, _⟩ := HS.out.slice
        subst hce
        obtain ⟨W3, hW3⟩ : ∃ W3, W3 = wr.alloc (.cells #[.int .i64 (x1 : Int), .string x2, .int .u64 (x3 : Int)] 80) := ⟨_, rfl⟩
        have HN3 : Hid (W3.cell? ⟨wr.heap.size, 0, none⟩ = some (.int .i64 (x1 : Int)) ∧ W3.cell? ⟨wr.heap.size, 1, none⟩ = some (.string x2) ∧ W3.cell? ⟨wr.heap.size, 2, none⟩ = some (.int .u64 (x3 : Int))) := by
          show _ ∧ _ ∧ _; rw [hW3]; simp
        have HO3 : Hid (Only [] wr W3) := by show Only _ _ _; rw [hW3]; exact (Only.refl _ _).alloc _
        have HZ3 : Hid (W3.heap.size = wr.heap.size + 1) := by show _ = _; rw [hW3]; simp
        have HS3 := Lib.hid (HS.out.old HO3.out)
        go_wp2_with (at_builtin; rw [← hW3]; refine wpList_append_conn rfl (.tmp 25) (.tmp 33) 44 80 rfl Try.underlying44 infoCR _ G rfl HS3.out wr.heap.size ⟨x1, x2, x3⟩ rfl HN3.out.1 HN3.out.2.1 HN3.out.2.2 (by have := HGL.out; omega) ?_)
        intro g2 cap2 w4 hr4 ho4 hg4
        rw [← hW3] at ho4
        clear hW3
        have HO4 : Hid (Only [] w w4) := (HO.out.trans HO3.out).next ho4.out (fun y hy => .inr (HV.out y hy))
        have HV4 : Hid (w.heap.size ≤ g2) := by
          show _ ≤ _
          rcases hg4.out with h1 | h1
          · exact HV.out g2 h1
          · have h2 := HO.out.size; have h3 := HZ3.out; omega
        clear ho4 hg4
        go_wp2_with fail
        go_roundw
        case rel => exact ⟨k + 1, _, rfl, by omega, by go_num, by rw [HE1.out]; exact hr4.out, (by intro x hx; simp [ownL, Value.ownBlock] at hx; subst hx; exact HV4.out), HO4.out⟩
        case measure => simp [intOf]; omega
    · obtain rfl : k = s.i.length := by omega
      rw [List.take_length] at HS
      obtain ⟨Ac, capc, hce, _⟩ := HS.out.slice
      obtain ⟨nl, hnl⟩ : ∃ nl, nl = (s.i.filter nd).length := ⟨_, rfl⟩
      rw [← hnl] at hce
      clear hnl
      subst hce
      obtain ⟨W3, hW3⟩ : ∃ W3, W3 = wr.setCell ⟨g, 4, none⟩ (.slice Ac nl capc) := ⟨_, rfl⟩
      have HO3 : Hid (Only [g] wr W3) := by show Only _ _ _; rw [hW3]; exact (Only.refl _ _).setCell (p := ⟨g, 4, none⟩) (by simp) _
      have HGV : Hid (Grow w.heap.size (.slice A s.i.length cap) (.slice Ac nl capc)) := fun x hx => .inr (HV.out x hx)
      have hcz := HPR.out.hd.z4
      have HS3 : Hid (CRow 80 W3 (.slice Ac nl capc) (s.i.filter nd)) := HS.out.only HO3.out (fun x hx hm => by have h1 := HV.out x hx; have h2 := HP.out.hd.lt; simp at hm; omega)
      have HH3 : Hid (RpHead W3 g s.t s.keep s.last gt vb (.slice Ac nl capc)) := by show RpHead _ _ _ _ _ _ _ _; rw [hW3]; exact HPR.out.hd.setI _
      have HOW : Hid (Only (g :: ownL (.slice A s.i.length cap)) w W3) := (HO.out.mono (by simp)).trans (HO3.out.mono (by intro z hz; simp at hz; subst hz; simp))
      have HP3 : Hid (RpAt W3 g gt vt vb (.slice Ac nl capc) (shutP (ckeyB key) s)) := by
        show RpAt _ _ _ _ _ _ _
        rw [HSH.out]
        exact HP.out.turnI HOW.out HH3.out HS3.out HGV.out
      go_wp2_with fail
      rw [← hW3]
      clear hW3 hc4 hcz
      go_wp2
      go_end0
      exact ⟨_, rfl, HP3.out, HOW.out, HGV.out⟩
end Go.Proofs.Ytbnmldfiheffoaa
