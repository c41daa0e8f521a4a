/-
  The contracts of cors over this seat's program: each returns what the plain mathematics says, and nothing that was there has turned. Conditions: at most a thousand headers, each text of at most 100,000 bytes.
-/
import Derived.Test.YtpfbkcibpmndoaaCSet
import Derived.Deep.CutRange
namespace Go.Proofs.Ytpfbkcibpmndoaa
open Go.RowKit Go.Maps Go.WideMaps

theorem beq_flip (a b : List UInt8) : (a == b) = (b == a) := by
  cases h : b == a
  · rw [beq_eq_false_iff_ne] at *; exact fun e => h e.symm
  · rw [beq_iff_eq] at *; exact h.symm
theorem CLower_as (s t : ByteArray) (w : World) (hs : s.size ≤ maxLen) (ht : t.data.toList = Lk.lower s.data.toList) :
    Calls Try.prog 37 #[.string s] w fun e w' => e = .returned (.string t) ∧ Below w.heap.size w w' := by
  obtain rfl : t = mk (Lk.lower s.data.toList) := by rw [← ht]; exact (mk_eq t).symm
  exact Lower_any s w hs
theorem lower_ba (s : ByteArray) : ∃ t : ByteArray, t.data.toList = Lk.lower s.data.toList := ⟨mk (Lk.lower s.data.toList), mk_data _⟩
theorem sown_apart {w : World} {b base : Nat} {v : Value} {l : List (List UInt8)} (h : sown w base v l) (hb : b < base) : v.ownBlock = none ∨ v.ownBlock ≠ some b := by
  refine .inr fun e => ?_
  have := (World.ownsRow.lt h b e).1
  omega
theorem val_size {xs : List (ByteArray × ByteArray)} (h : Sm (xs.map hd)) {n : List UInt8} {t : ByteArray} (ht : t.data.toList = getH (xs.map hd) n) : t.size ≤ 200000000 := by
  have h1 := congrArg List.length ht
  have h2 := get_len h n
  simp at h1; omega
theorem split_small : ∀ (l : List UInt8), ∀ x ∈ Lk.splitL l, x.length ≤ l.length := by
  have hc : ∀ (l : List UInt8), ∀ x ∈ Lk.cuts l, x.length ≤ l.length := by
    intro l
    induction l with
    | nil => intro x h; simp [Lk.cuts] at h; subst h; simp
    | cons c r ih =>
      intro x h
      rw [Lk.cuts_cons] at h
      split at h
      · rcases List.mem_cons.1 h with rfl | h
        · simp
        · have := ih x h; simp; omega
      · cases hc : Lk.cuts r with
        | nil => rw [hc] at h; simp [Lk.glue] at h; subst h; simp
        | cons p ps =>
          rw [hc] at h ih
          rcases List.mem_cons.1 h with rfl | h
          · have := ih p (List.mem_cons_self ..); simp; omega
          · have := ih x (List.mem_cons_of_mem _ h); simp; omega
  intro l x hx
  unfold Lk.splitL Lk.keep at hx
  obtain ⟨h1, _⟩ := List.mem_filter.1 hx
  obtain ⟨y, hy, rfl⟩ := List.mem_map.1 h1
  exact Nat.le_trans (Lk.trim_len y) (hc l y hy)

theorem hidden_any (n : ByteArray) (w : World) : Calls Try.prog 24 #[.string n] w fun e w' => e = .returned (.bool (hidS n.data.toList)) ∧ w = w' := by
  have h1 := beq_l (t := n) rfl cookL
  have h2 := beq_l (t := n) rfl cook2L
  unfold hidS
  rw [← h1, ← h2]
  clear h1 h2
  unfold cookL cook2L
  generalize hL1 : (n.toList == [115, 101, 116, 45, 99, 111, 111, 107, 105, 101]) = b1
  generalize hL2 : (n.toList == [115, 101, 116, 45, 99, 111, 111, 107, 105, 101, 50]) = b2
  cases b1 <;> cases b2 <;>
  · go_enter Try.func24, Try.ntmps24
    go_wp2
    go_ret
    exact ⟨rfl, rfl⟩

theorem plain_eq (L : List UInt8) : memS plainL L = (L == [99, 97, 99, 104, 101, 45, 99, 111, 110, 116, 114, 111, 108] || (L == [99, 111, 110, 116, 101, 110, 116, 45, 108, 97, 110, 103, 117, 97, 103, 101] || (L == [99, 111, 110, 116, 101, 110, 116, 45, 108, 101, 110, 103, 116, 104] || (L == [99, 111, 110, 116, 101, 110, 116, 45, 116, 121, 112, 101] || (L == [101, 120, 112, 105, 114, 101, 115] || (L == [108, 97, 115, 116, 45, 109, 111, 100, 105, 102, 105, 101, 100] || (L == [112, 114, 97, 103, 109, 97]))))))) := by
  unfold memS plainL
  simp only [List.any_cons, List.any_nil, Bool.or_false, beq_flip _ L]
theorem plain_any (n : ByteArray) (w : World) : Calls Try.prog 25 #[.string n] w fun e w' => e = .returned (.bool (memS plainL n.data.toList)) ∧ w = w' := by
  rw [plain_eq, ← beq_l (t := n) rfl [99, 97, 99, 104, 101, 45, 99, 111, 110, 116, 114, 111, 108], ← beq_l (t := n) rfl [99, 111, 110, 116, 101, 110, 116, 45, 108, 97, 110, 103, 117, 97, 103, 101], ← beq_l (t := n) rfl [99, 111, 110, 116, 101, 110, 116, 45, 108, 101, 110, 103, 116, 104], ← beq_l (t := n) rfl [99, 111, 110, 116, 101, 110, 116, 45, 116, 121, 112, 101], ← beq_l (t := n) rfl [101, 120, 112, 105, 114, 101, 115], ← beq_l (t := n) rfl [108, 97, 115, 116, 45, 109, 111, 100, 105, 102, 105, 101, 100], ← beq_l (t := n) rfl [112, 114, 97, 103, 109, 97]]
  cases h0 : n.toList == [99, 97, 99, 104, 101, 45, 99, 111, 110, 116, 114, 111, 108]
  · cases h1 : n.toList == [99, 111, 110, 116, 101, 110, 116, 45, 108, 97, 110, 103, 117, 97, 103, 101]
    · cases h2 : n.toList == [99, 111, 110, 116, 101, 110, 116, 45, 108, 101, 110, 103, 116, 104]
      · cases h3 : n.toList == [99, 111, 110, 116, 101, 110, 116, 45, 116, 121, 112, 101]
        · cases h4 : n.toList == [101, 120, 112, 105, 114, 101, 115]
          · cases h5 : n.toList == [108, 97, 115, 116, 45, 109, 111, 100, 105, 102, 105, 101, 100]
            · cases h6 : n.toList == [112, 114, 97, 103, 109, 97]
              · go_enter Try.func25, Try.ntmps25
                go_wp2
                go_ret
                exact ⟨rfl, rfl⟩
              · go_enter Try.func25, Try.ntmps25
                go_wp2
                go_ret
                exact ⟨rfl, rfl⟩
            · go_enter Try.func25, Try.ntmps25
              go_wp2
              go_ret
              exact ⟨rfl, rfl⟩
          · go_enter Try.func25, Try.ntmps25
            go_wp2
            go_ret
            exact ⟨rfl, rfl⟩
        · go_enter Try.func25, Try.ntmps25
          go_wp2
          go_ret
          exact ⟨rfl, rfl⟩
      · go_enter Try.func25, Try.ntmps25
        go_wp2
        go_ret
        exact ⟨rfl, rfl⟩
    · go_enter Try.func25, Try.ntmps25
      go_wp2
      go_ret
      exact ⟨rfl, rfl⟩
  · go_enter Try.func25, Try.ntmps25
    go_wp2
    go_ret
    exact ⟨rfl, rfl⟩

set_option maxHeartbeats 1000000 in
theorem trusts_any (A : Option Addr) (len c B : Nat) (xs : List (ByteArray × ByteArray)) (w : World) (hlen : len = xs.length) (hB : B ≤ w.heap.size) (hx : PRow w B A xs) (hsm : Sm (xs.map hd)) :
    Calls Try.prog 21 #[.slice A len c] w fun e w' => e = .returned (.bool (truH (xs.map hd))) ∧ Below w.heap.size w w' := by
  have HX := Lib.hid hx
  have HS := Lib.hid hsm
  have HLen := Lib.hid hlen
  have HBB := Lib.hid hB
  obtain ⟨t, ht⟩ : ∃ t, t = mk (getH (xs.map hd) crdN) := ⟨_, rfl⟩
  have HT : Hid ((t.toList == [116, 114, 117, 101]) = truH (xs.map hd)) := by show _ = _; rw [beq_l (by rw [ht, mk_data])]; rfl
  have HTM := Lib.hid ht
  clear hx hsm hlen hB ht
  go_enter Try.func21, Try.ntmps21
  go_wp2_with fail
  refine (Get_any A len c B xs _ _ HLen.out HBB.out HX.out HS.out (by unfold maxLen; decide)).mono ?_
  rintro e w1 ⟨rfl, hb1⟩
  rw [show (ByteArray.mk #[97, 99, 99, 101, 115, 115, 45, 99, 111, 110, 116, 114, 111, 108, 45, 97, 108, 108, 111, 119, 45, 99, 114, 101, 100, 101, 110, 116, 105, 97, 108, 115]).data.toList = crdN from rfl, ← HTM.out]
  have HB1 := Lib.hid hb1
  clear hb1
  go_wp2
  go_ret
  exact ⟨ret_bool HT.out, HB1.out⟩

set_option maxHeartbeats 2000000 in
theorem CCheck_any (o : ByteArray) (cr : Bool) (A : Option Addr) (len c B : Nat) (xs : List (ByteArray × ByteArray)) (w : World) (hlen : len = xs.length) (hB : B ≤ w.heap.size) (hx : PRow w B A xs) (hsm : Sm (xs.map hd)) :
    Calls Try.prog 10 #[.string o, .bool cr, .slice A len c] w fun e w' => e = .returned (.int .i64 (chkH o.data.toList cr (xs.map hd))) ∧ Below w.heap.size w w' := by
  have HX := Lib.hid hx
  have HS := Lib.hid hsm
  have HLen := Lib.hid hlen
  have HBB := Lib.hid hB
  obtain ⟨v, hv⟩ : ∃ v, v = mk (getH (xs.map hd) orgN) := ⟨_, rfl⟩
  have HV := Lib.hid hv
  obtain ⟨g, hg⟩ : ∃ g, g = gotH (xs.map hd) orgN := ⟨_, rfl⟩
  have HG := Lib.hid hg
  obtain ⟨b3, h3⟩ : ∃ b3, b3 = truH (xs.map hd) := ⟨_, rfl⟩
  have H3 := Lib.hid h3
  have hvl : v.data.toList = getH (xs.map hd) orgN := by rw [hv, mk_data]
  have hres : chkH o.data.toList cr (xs.map hd) = chk g (v.toList == [42]) cr (v.toList == o.toList) b3 := by
    rw [beq_l hvl, ByteArray.toList_eq, hvl, ByteArray.toList_eq, hg, h3]; rfl
  rw [hres]
  generalize hb1 : (v.toList == [42]) = b1
  generalize hb2 : (v.toList == o.toList) = b2
  clear hx hsm hlen hB hv hg h3 hvl hres
  go_enter Try.func10, Try.ntmps10
  go_wp2_with fail
  refine (Get_any A len c B xs _ _ HLen.out HBB.out HX.out HS.out (by unfold maxLen; decide)).mono ?_
  rintro e w1 ⟨rfl, hq1⟩
  rw [show (ByteArray.mk #[97, 99, 99, 101, 115, 115, 45, 99, 111, 110, 116, 114, 111, 108, 45, 97, 108, 108, 111, 119, 45, 111, 114, 105, 103, 105, 110]).data.toList = orgN from rfl, ← HV.out, ← HG.out]
  have HB1 := Lib.hid hq1
  have HX1 : Hid (PRow w1 B A xs) := HX.out.below (hq1.mono HBB.out)
  have HBB1 : Hid (B ≤ w1.heap.size) := Nat.le_trans HBB.out hq1.size
  clear hq1
  cases g
  · go_wp2
    go_ret
    exact ⟨rfl, HB1.out⟩
  cases b1 <;> cases cr
  case true.false => 
    go_wp2
    go_ret
    exact ⟨rfl, HB1.out⟩
  case false.false =>
    cases b2
    · go_wp2
      go_ret
      exact ⟨rfl, HB1.out⟩
    · go_wp2
      go_ret
      exact ⟨rfl, HB1.out⟩
  case false.true =>
    cases b2
    · go_wp2
      go_ret
      exact ⟨rfl, HB1.out⟩
    · go_wp2_with fail
      refine (trusts_any A len c B xs _ HLen.out HBB1.out HX1.out HS.out).mono ?_
      rintro e w2 ⟨rfl, hq2⟩
      rw [← H3.out]
      have HB2 : Hid (Below w.heap.size w w2) := HB1.out.trans (hq2.mono HB1.out.size)
      clear hq2
      cases b3 <;>
      · go_wp2
        go_ret
        exact ⟨rfl, HB2.out⟩
  case true.true =>
    cases b2
    · go_wp2
      go_ret
      exact ⟨rfl, HB1.out⟩
    · go_wp2_with fail
      refine (trusts_any A len c B xs _ HLen.out HBB1.out HX1.out HS.out).mono ?_
      rintro e w2 ⟨rfl, hq2⟩
      rw [← H3.out]
      have HB2 : Hid (Below w.heap.size w w2) := HB1.out.trans (hq2.mono HB1.out.size)
      clear hq2
      cases b3 <;>
      · go_wp2
        go_ret
        exact ⟨rfl, HB2.out⟩

set_option maxHeartbeats 2000000 in
theorem exposed_any (A : Option Addr) (len c B : Nat) (xs : List (ByteArray × ByteArray)) (w : World) (hlen : len = xs.length) (hB : B ≤ w.heap.size) (hx : PRow w B A xs) (hsm : Sm (xs.map hd)) :
    Calls Try.prog 23 #[.slice A len c] w fun e w' => ∃ b n, e = .returned (.map (some b)) ∧ w.heap.size ≤ b ∧ SetAt w' b n (shownH (xs.map hd)) ∧ Below w.heap.size w w' := by
  have HX := Lib.hid hx
  have HS := Lib.hid hsm
  have HLen := Lib.hid hlen
  have HBB := Lib.hid hB
  obtain ⟨t, ht⟩ : ∃ t, t = mk (getH (xs.map hd) expN) := ⟨_, rfl⟩
  have htl : t.data.toList = getH (xs.map hd) expN := by rw [ht, mk_data]
  have HTM := Lib.hid ht
  obtain ⟨L, hL⟩ : ∃ L, L = Lk.splitL t.data.toList := ⟨_, rfl⟩
  have HL := Lib.hid hL
  have hz := val_size hsm htl
  have HZ : Hid (t.size ≤ 1099511627776) := by show _ ≤ _; omega
  have HLZ : Hid (L.length ≤ 200000001) := by
    show _ ≤ _
    have h := Lk.split_len t.data.toList
    rw [hL]
    simp at h; omega
  have HLS : Hid (∀ x ∈ L, x.length ≤ 200000000) := by
    show ∀ _, _
    intro x hx
    rw [hL] at hx
    have h := split_small _ x hx
    simp at h; omega
  have HR : Hid (shownH (xs.map hd) = L.map Lk.lower) := by show _ = _; unfold shownH; rw [hL, htl]
  clear hx hsm hlen hB ht htl hL hz
  have hmm := @run_makeMap Try.prog
  go_enter Try.func23, Try.ntmps23
  go_wp2_with fail
  refine (Get_any A len c B xs _ _ HLen.out HBB.out HX.out HS.out (by unfold maxLen; decide)).mono ?_
  rintro e w1 ⟨rfl, hb1⟩
  rw [show (ByteArray.mk #[97, 99, 99, 101, 115, 115, 45, 99, 111, 110, 116, 114, 111, 108, 45, 101, 120, 112, 111, 115, 101, 45, 104, 101, 97, 100, 101, 114, 115]).data.toList = expN from rfl, ← HTM.out]
  have HB1 := Lib.hid hb1
  clear hb1
  obtain ⟨W, hW⟩ : ∃ W, W = w1.alloc (.map #[] 0) := ⟨_, rfl⟩
  have HSA : Hid (SetAt W w1.heap.size 0 []) := by show SetAt _ _ _ _; rw [hW]; exact SetAt.new w1
  have HBW : Hid (Below w.heap.size w W) := by show Below _ _ _; rw [hW]; exact HB1.out.alloc HB1.out.size _
  have HWZ : Hid (w1.heap.size < W.heap.size) := by show _ < _; rw [hW]; simp
  go_wp2_with fail
  rw [← hW]
  obtain ⟨b, hb⟩ : ∃ b, b = w1.heap.size := ⟨_, rfl⟩
  rw [← hb] at HSA HWZ ⊢
  have HBL : Hid (w.heap.size ≤ b) := by show _ ≤ _; rw [hb]; exact HB1.out.size
  clear hb hW
  refine (Split_any t _ HZ.out).mono ?_
  rintro e w2 ⟨v, rfl, ho, hb2⟩
  rw [← HL.out] at ho
  have HSA2 := Lib.hid (HSA.out.below hb2 HWZ.out)
  have HB2 : Hid (Below w.heap.size w w2) := HBW.out.trans (hb2.mono HBW.out.size)
  have HO2 : Hid (sown w2 (b + 1) v L) := ownsRow_base ho HWZ.out
  have HR2 : Hid (∀ wr, sown wr (b + 1) v L → ∃ A2 c2, v = .slice A2 L.length c2 ∧ SRow wr wr.heap.size A2 (L.map mk)) := by
    show ∀ _, _
    intro wr h
    obtain ⟨A2, c2, e, _, hs⟩ := trow_of h
    exact ⟨A2, c2, e, hs⟩
  clear ho hb2 HBW HSA hmm
  obtain ⟨A2, c2, hv, _⟩ := HR2.out w2 HO2.out
  have HV := Lib.hid hv
  rw [hv]
  clear hv
  go_wp2_with fail
  go_loopw [17] (fun i wr => ∃ (k m : Nat) (M : List (List UInt8)), k ≤ L.length ∧ i = .int .i64 k ∧ m ≤ k ∧ M = (L.take k).map Lk.lower ∧ SetAt wr b m M ∧ sown wr (b + 1) v L ∧ Below w.heap.size w wr) (fun i _ => L.length - (intOf i).toNat)
  case atStart => exact ⟨0, 0, [], Nat.zero_le _, rfl, Nat.le_refl _, rfl, HSA2.out, HO2.out, HB2.out⟩
  case round =>
    obtain ⟨k, m, M, hk, rfl, hm, hmm, hs, ho, hb⟩ := hrel
    have HMM := Lib.hid hmm
    have HK := Lib.hid hs
    have HO := Lib.hid ho
    have HBR := Lib.hid hb
    have HM := Lib.hid hm
    clear hs ho hb hmm
    have hlb := HLZ.out
    by_cases hlt : k < L.length
    · obtain ⟨A3, c3, hv3, hsr⟩ := HR2.out wr HO.out
      rw [HV.out] at hv3
      injection hv3 with e1 _ e3
      subst e1
      subst e3
      obtain ⟨a1, e1, _, hc1⟩ := hsr k (mk L[k]) (by rw [List.getElem?_map, List.getElem?_eq_getElem hlt]; rfl)
      have HXS : Hid ((mk L[k]).size ≤ maxLen) := by
        show _ ≤ _
        have := HLS.out _ (List.getElem_mem hlt)
        have h2 : (mk L[k]).data.toList.length = L[k].length := by rw [mk_data]
        unfold maxLen
        simp at h2; omega
      have HT : Hid ((L.take (k + 1)).map Lk.lower = M ++ [Lk.lower (mk L[k]).data.toList]) := by show _ = _; rw [HMM.out, List.take_succ_eq_append_getElem hlt, mk_data, List.map_append]; rfl
      generalize mk L[k] = x at *
      obtain ⟨y, hy⟩ := lower_ba x
      have HY := Lib.hid hy
      have HYS : Hid (y.size ≤ maxLen) := by
        show _ ≤ _
        have h1 := congrArg List.length hy
        rw [Lk.lower_len] at h1
        have h2 := HXS.out
        simp at h1; omega
      clear hy hsr
      subst e1
      go_wp2_with fail
      refine (CLower_as x y _ HXS.out HY.out).mono ?_
      rintro e w3 ⟨rfl, hb3⟩
      have HK3 := Lib.hid (HK.out.below hb3 HK.out.lt)
      have HO3 : Hid (sown w3 (b + 1) v L) := ownsRow_below HO.out hb3
      have HB3 : Hid (Below w.heap.size w w3) := HBR.out.trans (hb3.mono HBR.out.size)
      have hkey : keyOf Try.prog 9 (.string y) = some (.string y.data.toList) := keyOf_string_mk Try.underlying9 HYS.out
      have HKY := Lib.hid hkey
      have hml : m < maxLen := by have h1 := HLZ.out; have h2 := HM.out; unfold maxLen; omega
      have HML := Lib.hid hml
      clear hb3 hc1 hkey hml
      go_wp2_with (at_mapUpdate; refine wpList_mapUpdate_own _ rfl _ _ _ 46 rfl 9 4 keyS Try.underlying46 _ b m _ rfl HK3.out HML.out _ _ _ rfl rfl HKY.out tru [] (plainElem_bool Try.underlying4 true) ?_)
      intro w4 hown hg
      have HK4 : Hid (SetAt w4 b (m + 1) (M ++ [Lk.lower x.data.toList])) := by
        show SetAt _ _ _ _
        rw [← HY.out]
        unfold SetAt
        rw [setD_snoc]
        exact hown
      have HO4 : Hid (sown w4 (b + 1) v L) := World.ownsRow.kept HO3.out hg (sown_apart HO3.out (Nat.lt_succ_self b))
      have HB4 : Hid (Below w.heap.size w w4) := HB3.out.grown hg HB3.out.size (fun j hj => by cases hj; exact HBL.out)
      clear hown hg
      go_wp2
      go_roundw
      case rel => exact ⟨k + 1, m + 1, _, by omega, by go_num, by omega, HT.out.symm, HK4.out, HO4.out, HB4.out⟩
      case measure => simp [intOf]; omega
    · obtain rfl : k = L.length := by omega
      go_wp2
      go_ret
      refine ⟨b, m, rfl, HBL.out, ?_, HBR.out⟩
      rw [HR.out]
      have h := HK.out
      rwa [HMM.out, List.take_length] at h

set_option maxHeartbeats 4000000 in
theorem Seen_any (cr : Bool) (A : Option Addr) (len c B : Nat) (xs : List (ByteArray × ByteArray)) (w : World) (hlen : len = xs.length) (hB : B ≤ w.heap.size) (hx : PRow w B A xs) (hsm : Sm (xs.map hd)) :
    Calls Try.prog 13 #[.bool cr, .slice A len c] w fun e w' => ∃ v, e = .returned v ∧ HdRow w' w.heap.size v (seenH cr (xs.map hd)) ∧ Below w.heap.size w w' := by
  have HX := Lib.hid hx
  have HS := Lib.hid hsm
  have HLen := Lib.hid hlen
  have HBB := Lib.hid hB
  obtain ⟨S, hS⟩ : ∃ S, S = shownH (xs.map hd) := ⟨_, rfl⟩
  have HSS := Lib.hid hS
  obtain ⟨N, hN⟩ : ∃ N, N = normL (xs.map hd) := ⟨_, rfl⟩
  have HN := Lib.hid hN
  have HNL : Hid (N.length = xs.length) := by show _ = _; rw [hN]; simp [normL]
  have HNS : Hid (∀ h ∈ N, h.1.length ≤ 100000) := by
    show ∀ _, _
    intro h hh
    rw [hN] at hh
    obtain ⟨x, hx, rfl⟩ := List.mem_map.1 hh
    have := (hsm.2 x hx).1
    simpa [normH, Lk.lower_len] using this
  have HXL : Hid (xs.length ≤ 1000) := hsm.sizes.1
  have HXZ : Hid (∀ x ∈ xs, x.1.size ≤ maxLen ∧ x.2.size ≤ maxLen) := fun x hx => by have := hsm.sizes.2 x hx; unfold maxLen; omega
  have HRES : Hid (seenH cr (xs.map hd) = N.filter (fun h => seesH cr S h.1)) := by show _ = _; rw [hN, hS]; rfl
  obtain ⟨all, hall⟩ : ∃ all, all = (memS S [42] && !cr) := ⟨_, rfl⟩
  have HALL := Lib.hid hall
  have HSEE : Hid (∀ n, seesH cr S n = (!hidS n && (all || (memS plainL n || memS S n)))) := fun n => by rw [hall]; rfl
  clear hx hsm hlen hB hS hN hall
  obtain ⟨i0, hi, hz0, hz1, hz2⟩ := info_parts infoH
  go_enter Try.func13, Try.ntmps13
  go_wp2_with fail
  refine (exposed_any A len c B xs _ HLen.out HBB.out HX.out HS.out).mono ?_
  rintro e w1 ⟨b, m, rfl, _, hs1, hb1⟩
  rw [← HSS.out] at hs1
  have HS1 := Lib.hid hs1
  have HB1 := Lib.hid hb1
  have HX1 : Hid (PRow w1 B A xs) := HX.out.below (hb1.mono HBB.out)
  have HBB1 : Hid (B ≤ w1.heap.size) := Nat.le_trans HBB.out hb1.size
  clear hs1 hb1
  go_upto_region 2 with fail
  go_cut [6] from 10 (fun s6 W => s6 = .bool all ∧ W = w1)
  case first =>
    have hlk := HS1.out.look ⟨#[42]⟩ (by unfold maxLen; decide)
    have hal := HALL.out
    rw [show (ByteArray.mk #[42]).data.toList = [42] from rfl] at hlk
    generalize memS S [42] = st at *
    cases st
    · obtain rfl : all = false := by rw [hal]; rfl
      clear hal
      go_wp2_with fail
      go_meet
      case rel => exact ⟨rfl, rfl⟩
    · cases cr
      · obtain rfl : all = true := by rw [hal]; rfl
        clear hal
        go_wp2_with fail
        go_meet
        case rel => exact ⟨rfl, rfl⟩
      · obtain rfl : all = false := by rw [hal]; rfl
        clear hal
        go_wp2_with fail
        go_meet
        case rel => exact ⟨rfl, rfl⟩
  case rest =>
  obtain ⟨rfl, hwc⟩ := hcut
  rw [hwc]
  clear hwc
  go_wp2_with fail
  refine (HNorm_any A len c B xs _ HLen.out HBB1.out HX1.out (by have := HXL.out; omega) HXZ.out).mono ?_
  rintro e w2 ⟨nv, rfl, hn2, hb2⟩
  rw [← HN.out] at hn2
  have HS2 := Lib.hid (HS1.out.below hb2 HS1.out.lt)
  have HB2 : Hid (Below w.heap.size w w2) := HB1.out.trans (hb2.mono HB1.out.size)
  obtain ⟨A2, n2, c2, ys, rfl, hnl, hys, _, hp⟩ := hn2.row
  subst hnl
  have HYS := Lib.hid hys
  have HP := Lib.hid hp
  have HYN : Hid (ys.length = N.length) := by show _ = _; rw [← hys]; simp
  have HBB2 : Hid (b < w2.heap.size) := HS2.out.lt
  clear hn2 hb2 hys hp HX1 HBB1 HS1
  go_wp2_with fail
  go_loopw [7, 21] (fun v i wr => ∃ (k : Nat) (dl : List Hd), k ≤ ys.length ∧ i = .int .i64 k ∧ dl = (N.take k).filter (fun h => seesH cr S h.1) ∧ dl.length ≤ k ∧ HdRow wr w2.heap.size v dl ∧ Below w2.heap.size w2 wr) (fun _ i _ => ys.length - (intOf i).toNat)
  case atStart => exact ⟨0, [], Nat.zero_le _, rfl, rfl, Nat.le_refl _, HdRow.nil _ _, Below.refl _ _⟩
  case round =>
    obtain ⟨k, dl, hk, rfl, hdl, hdk, hr, hb⟩ := hrel
    have HDL := Lib.hid hdl
    have HRR := Lib.hid hr
    have HBR := Lib.hid hb
    have HDK := Lib.hid hdk
    clear hr hb hdl hdk
    have hyb : ys.length ≤ 1000 := by have h1 := HYN.out; have h2 := HNL.out; have h3 := HXL.out; omega
    by_cases hlt2 : k < ys.length
    · have hlt : k < N.length := by have := HYN.out; omega
      obtain ⟨ad, hA, _, hc1, hc2⟩ := (HP.out.below HBR.out) k ys[k] (List.getElem?_eq_getElem hlt2)
      have HXE : Hid (hd ys[k] = N[k]) := by
        show _ = _
        have h := HYS.out
        subst h
        simp
      have HFT : Hid ((N.take (k + 1)).filter (fun h => seesH cr S h.1) = (N.take k).filter (fun h => seesH cr S h.1) ++ (if seesH cr S N[k].1 then [N[k]] else [])) := filter_take hlt
      have hz := HNS.out _ (List.getElem_mem hlt)
      rw [← HXE.out] at HFT hz
      clear HXE hlt
      generalize ys[k] = x at *
      obtain ⟨x1, x2⟩ := x
      subst hA
      have HZ1 : Hid (x1.size ≤ maxLen) := by show _ ≤ _; unfold maxLen; simp [hd] at hz; omega
      have HSE := Lib.hid (HSEE.out x1.data.toList)
      obtain ⟨W, hW⟩ : ∃ W, W = wr.alloc (.cells #[.string x1, .string x2] 35) := ⟨_, rfl⟩
      have HBW : Hid (Below w2.heap.size w2 W) := by show Below _ _ _; rw [hW]; exact HBR.out.alloc HBR.out.size _
      have HRW : Hid (HdRow W w2.heap.size u7 dl) := by show World.ownsRow _ _ _ _ _ _ _; rw [hW]; exact World.ownsRow.alloc HRR.out _
      have HBC : Hid (HdAt W wr.heap.size x1 x2) := by show HdAt _ _ _ _; rw [hW]; exact HdAt.new _ _ _ _
      have HSW := Lib.hid (HS2.out.below HBW.out HBB2.out)
      obtain ⟨hh, hhh⟩ : ∃ hh, hh = hidS x1.data.toList := ⟨_, rfl⟩
      obtain ⟨pp, hpp⟩ : ∃ pp, pp = memS plainL x1.data.toList := ⟨_, rfl⟩
      obtain ⟨mm, hmm⟩ : ∃ mm, mm = memS S x1.data.toList := ⟨_, rfl⟩
      have HHH := Lib.hid hhh
      have HPP := Lib.hid hpp
      have HMM := Lib.hid hmm
      have HSE2 : Hid (seesH cr S x1.data.toList = (!hh && (all || (pp || mm)))) := by show _ = _; rw [HSE.out, ← hhh, ← hpp, ← hmm]
      clear hhh hpp hmm hz HSE
      go_wp2_with fail
      rw [← hW]
      refine (hidden_any x1 _).mono ?_
      rintro e w' ⟨rfl, rfl⟩
      rw [← HHH.out]
      clear hc1 hc2
      obtain ⟨b0, b1⟩ : HdAt W wr.heap.size x1 x2 := HBC.out
      have hlk := HSW.out.look x1 HZ1.out
      rw [← HMM.out] at hlk
      clear hW
      cases hh
      case true =>
        go_wp2
        go_roundw
        case rel =>
          refine ⟨k + 1, dl, by omega, by go_num, ?_, by have := HDK.out; omega, HRW.out, HBW.out⟩
          have h := HFT.out
          rw [show (hd (x1, x2)).1 = x1.data.toList from rfl, HSE2.out] at h
          rw [HDL.out, h]
          simp
        case measure => simp [intOf]; omega
      case false =>
        cases all
        case true =>
          go_wp2_with (at_builtin; refine wpList_append_own _ rfl (.tmp 43) (.tmp 45) 22 rfl w2.heap.size 35 i0 (.agg #[.string ⟨#[]⟩, .string ⟨#[]⟩]) 2 32 Try.underlying22 hi hz0 hz1 hz2 rfl (by decide) _ _ _ rfl (World.ownsRow.alloc (w := W) HRW.out _) ⟨W.heap.size, 0, none⟩ 1 1 [.string x1, .string x2] rfl rfl ?c11 ?c12 ?c13 ?c14 ?c15 ?_)
          case c11 => exact cells_two_new _ _ _ _
          case c12 => intro u hu; simp at hu; rcases hu with rfl | rfl <;> rfl
          case c13 => have h1 := HDK.out; have h2 := HXL.out; have h3 := HNL.out; have h4 := HYN.out; unfold maxLen; omega
          case c14 => have h1 := HDK.out; have h2 := HXL.out; have h3 := HNL.out; have h4 := HYN.out; omega
          case c15 => have := HBW.out.size; simp; omega
          intro v' w3 hown' hgrow _
          have HR3 := Lib.hid hown'
          have HB3 : Hid (Below w2.heap.size w2 w3) := (HBW.out.alloc HBW.out.size _).grown hgrow (by have := HBW.out.size; simp; omega) (fun b hb => (World.ownsRow.lt HRW.out b hb).1)
          clear hown' hgrow
          go_wp2
          go_roundw
          case rel =>
            refine ⟨k + 1, dl ++ [hd (x1, x2)], by omega, by go_num, ?_, by have := HDK.out; simp; omega, HdRow.more HR3.out, HB3.out⟩
            have h := HFT.out
            rw [show (hd (x1, x2)).1 = x1.data.toList from rfl, HSE2.out] at h
            rw [HDL.out, h]
            simp
          case measure => simp [intOf]; omega
        case false =>
          go_wp2_with fail
          refine (plain_any x1 _).mono ?_
          rintro e w' ⟨rfl, rfl⟩
          rw [← HPP.out]
          cases pp
          case true =>
            go_wp2_with (at_builtin; refine wpList_append_own _ rfl (.tmp 43) (.tmp 45) 22 rfl w2.heap.size 35 i0 (.agg #[.string ⟨#[]⟩, .string ⟨#[]⟩]) 2 32 Try.underlying22 hi hz0 hz1 hz2 rfl (by decide) _ _ _ rfl (World.ownsRow.alloc (w := W) HRW.out _) ⟨W.heap.size, 0, none⟩ 1 1 [.string x1, .string x2] rfl rfl ?c21 ?c22 ?c23 ?c24 ?c25 ?_)
            case c21 => exact cells_two_new _ _ _ _
            case c22 => intro u hu; simp at hu; rcases hu with rfl | rfl <;> rfl
            case c23 => have h1 := HDK.out; have h2 := HXL.out; have h3 := HNL.out; have h4 := HYN.out; unfold maxLen; omega
            case c24 => have h1 := HDK.out; have h2 := HXL.out; have h3 := HNL.out; have h4 := HYN.out; omega
            case c25 => have := HBW.out.size; simp; omega
            intro v' w3 hown' hgrow _
            have HR3 := Lib.hid hown'
            have HB3 : Hid (Below w2.heap.size w2 w3) := (HBW.out.alloc HBW.out.size _).grown hgrow (by have := HBW.out.size; simp; omega) (fun b hb => (World.ownsRow.lt HRW.out b hb).1)
            clear hown' hgrow
            go_wp2
            go_roundw
            case rel =>
              refine ⟨k + 1, dl ++ [hd (x1, x2)], by omega, by go_num, ?_, by have := HDK.out; simp; omega, HdRow.more HR3.out, HB3.out⟩
              have h := HFT.out
              rw [show (hd (x1, x2)).1 = x1.data.toList from rfl, HSE2.out] at h
              rw [HDL.out, h]
              simp
            case measure => simp [intOf]; omega
          case false =>
            cases mm
            case true =>
              go_wp2_with (at_builtin; refine wpList_append_own _ rfl (.tmp 43) (.tmp 45) 22 rfl w2.heap.size 35 i0 (.agg #[.string ⟨#[]⟩, .string ⟨#[]⟩]) 2 32 Try.underlying22 hi hz0 hz1 hz2 rfl (by decide) _ _ _ rfl (World.ownsRow.alloc (w := W) HRW.out _) ⟨W.heap.size, 0, none⟩ 1 1 [.string x1, .string x2] rfl rfl ?c31 ?c32 ?c33 ?c34 ?c35 ?_)
              case c31 => exact cells_two_new _ _ _ _
              case c32 => intro u hu; simp at hu; rcases hu with rfl | rfl <;> rfl
              case c33 => have h1 := HDK.out; have h2 := HXL.out; have h3 := HNL.out; have h4 := HYN.out; unfold maxLen; omega
              case c34 => have h1 := HDK.out; have h2 := HXL.out; have h3 := HNL.out; have h4 := HYN.out; omega
              case c35 => have := HBW.out.size; simp; omega
              intro v' w3 hown' hgrow _
              have HR3 := Lib.hid hown'
              have HB3 : Hid (Below w2.heap.size w2 w3) := (HBW.out.alloc HBW.out.size _).grown hgrow (by have := HBW.out.size; simp; omega) (fun b hb => (World.ownsRow.lt HRW.out b hb).1)
              clear hown' hgrow
              go_wp2
              go_roundw
              case rel =>
                refine ⟨k + 1, dl ++ [hd (x1, x2)], by omega, by go_num, ?_, by have := HDK.out; simp; omega, HdRow.more HR3.out, HB3.out⟩
                have h := HFT.out
                rw [show (hd (x1, x2)).1 = x1.data.toList from rfl, HSE2.out] at h
                rw [HDL.out, h]
                simp
              case measure => simp [intOf]; omega
            case false =>
              go_wp2
              go_roundw
              case rel =>
                refine ⟨k + 1, dl, by omega, by go_num, ?_, by have := HDK.out; omega, HRW.out, HBW.out⟩
                have h := HFT.out
                rw [show (hd (x1, x2)).1 = x1.data.toList from rfl, HSE2.out] at h
                rw [HDL.out, h]
                simp
              case measure => simp [intOf]; omega
    · obtain rfl : k = ys.length := by omega
      go_wp2
      go_ret
      refine ⟨_, rfl, ?_, HB2.out.trans (HBR.out.mono HB2.out.size)⟩
      rw [HRES.out]
      have h := HDL.out
      rw [HYN.out, List.take_length] at h
      rw [← h]
      exact HRR.out.base HB2.out.size
end Go.Proofs.Ytpfbkcibpmndoaa
