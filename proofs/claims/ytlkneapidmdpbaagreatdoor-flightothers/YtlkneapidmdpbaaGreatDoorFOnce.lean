/-
  The contracts of flight's once and coversAll, and of the document's own once, over this seat's program. Conditions: the rows of texts lie where they say and are not too many.
-/
import Derived.Test.YtlkneapidmdpbaaGreatDoorFMath
namespace Go.Proofs.YtlkneapidmdpbaaGreatDoor
open Go.RowKit Go.Maps Go.WideMaps

set_option maxHeartbeats 4000000 in
theorem fonce_any (A : Option Addr) (n c B : Nat) (l : List (List UInt8)) (w : World) (hn : n = l.length) (hB : B ≤ w.heap.size) (hx : SRow w B A (l.map mk)) (hl : l.length ≤ 100000) (hs : ∀ x ∈ l, x.length ≤ maxLen) :
    Calls Tryz.prog 52 #[.slice A n c] w fun e w' => ∃ v, e = .returned v ∧ sown w' w.heap.size v (onceL l) ∧ Below w.heap.size w w' := by
  obtain ⟨i0, hi, hz0, hz1, hz2⟩ := info_parts infoS
  have HX := Lib.hid hx
  have HS := Lib.hid hs
  have HN := Lib.hid hn
  have HL : Hid (n ≤ 100000) := by show _ ≤ _; omega
  obtain ⟨W, hW⟩ : ∃ W, W = w.alloc (.map #[] 0) := ⟨_, rfl⟩
  obtain ⟨b, hb⟩ : ∃ b, b = w.heap.size := ⟨_, rfl⟩
  have HSA : Hid (SetAt W b 0 []) := by show SetAt _ _ _ _; rw [hW, hb]; exact SetAt.new w
  have HB0 : Hid (Below b w W) := by show Below _ _ _; rw [hW, hb]; exact (Below.refl _ _).alloc (Nat.le_refl _) _
  have HWZ : Hid (b + 1 ≤ W.heap.size) := by show _ ≤ _; rw [hW, hb]; simp
  have HBB : Hid (B ≤ b) := by rw [hb]; exact hB
  have HBW := Lib.hid hb
  have HOB : Hid (sown W (b + 1) (.slice none 0 0) []) := World.ownsRow_nil _ _ _ _
  clear hx hs hn hl hB
  have hmm := @run_makeMap Tryz.prog
  go_enter Tryz.func52, Tryz.ntmps52
  go_upto_region 2 with fail
  rw [← hW, ← hb]
  clear hW hb hmm
  go_wp2_with fail
  have hln := HL.out
  go_loopw [4, 10] (fun v i wr => ∃ (k m : Nat) (M : List (List UInt8)) (v6 : Value), v6 = v ∧ k ≤ n ∧ i = .int .i64 k ∧ m ≤ k ∧ M.length ≤ k ∧ M = onceL (l.take k) ∧ SetAt wr b m M ∧ sown wr (b + 1) v6 M ∧ Below b w wr) (fun _ i _ => n - (intOf i).toNat)
  case atStart => exact ⟨0, 0, [], _, rfl, Nat.zero_le _, rfl, Nat.le_refl _, Nat.le_refl _, rfl, HSA.out, HOB.out, HB0.out⟩
  case round =>
    obtain ⟨k, m, M, v6, hv6, hk, rfl, hm, hml, hmm, hsa, ho, hb⟩ := hrel
    subst hv6
    have HMM := Lib.hid hmm
    have HK := Lib.hid hsa
    have HO := Lib.hid ho
    have HBR := Lib.hid hb
    have HM := Lib.hid hm
    have HML := Lib.hid hml
    clear hsa ho hb hmm hml hm
    by_cases hlt : k < n
    · have hkl : k < l.length := by rw [← HN.out]; exact hlt
      obtain ⟨a1, e1, _, hc1⟩ := (HX.out.below (HBR.out.mono HBB.out)) k (mk l[k]) (by rw [List.getElem?_map, List.getElem?_eq_getElem hkl]; rfl)
      have HXS : Hid ((mk l[k]).size ≤ maxLen) := by show _ ≤ _; rw [mk_size]; exact HS.out _ (List.getElem_mem hkl)
      have HT : Hid (onceL (l.take (k + 1)) = addO M (mk l[k]).data.toList) := by show _ = _; rw [onceL_take hkl, HMM.out, mk_data]
      generalize mk l[k] = x at *
      have hlk := HK.out.look x HXS.out
      obtain ⟨st, hst⟩ : ∃ st, st = memS M x.data.toList := ⟨_, rfl⟩
      rw [← hst] at hlk
      have HST := Lib.hid hst
      clear hst
      subst e1
      cases st
      case true =>
        have HT2 : Hid (onceL (l.take (k + 1)) = M) := by show _ = _; rw [HT.out, addO, ← HST.out]; rfl
        go_wp2
        go_roundw
        case rel => exact ⟨k + 1, m, M, v6, rfl, by omega, by go_num, by have := HM.out; omega, by have := HML.out; omega, HT2.out.symm, HK.out, HO.out, HBR.out⟩
        case measure => simp [intOf]; omega
      case false =>
      have HT2 : Hid (onceL (l.take (k + 1)) = M ++ [x.data.toList]) := by show _ = _; rw [HT.out, addO, ← HST.out]; rfl
      have HKY : Hid (keyOf Tryz.prog 9 (.string x) = some (.string x.data.toList)) := keyOf_string_mk Tryz.underlying9 HXS.out
      have HMX : Hid (m < maxLen) := by show _ < _; have := HM.out; have := HL.out; unfold maxLen; omega
      go_wp2_with (at_mapUpdate; refine wpList_mapUpdate_own _ rfl _ _ _ 119 rfl 9 4 keyS Tryz.underlying119 _ b m _ rfl HK.out HMX.out _ _ _ rfl rfl HKY.out tru [] (plainElem_bool Tryz.underlying4 true) ?_)
      intro w4 hown hg
      have HK4 : Hid (SetAt w4 b (m + 1) (M ++ [x.data.toList])) := by
        show SetAt _ _ _ _
        unfold SetAt
        rw [setD_snoc]
        exact hown
      have HO4 : Hid (sown w4 (b + 1) v6 M) := World.ownsRow.kept HO.out hg (sown_apart HO.out (Nat.lt_succ_self b))
      have HB4 : Hid (Below b w w4) := HBR.out.grown hg (Nat.le_of_lt HK.out.lt) (fun j hj => by cases hj; exact Nat.le_refl _)
      have HZ4 : Hid (b + 1 ≤ w4.heap.size) := HK4.out.lt
      clear hown hg hlk hc1
      go_wp2_with (at_builtin; refine wpList_append_own _ rfl (.tmp 20) (.tmp 22) 26 rfl (b + 1) 9 i0 (.string ⟨#[]⟩) 1 16 Tryz.underlying26 hi hz0 hz1 hz2 rfl (by decide) _ _ _ rfl (World.ownsRow.alloc (w := w4) HO4.out _) ⟨w4.heap.size, 0, none⟩ 1 1 [.string x] rfl rfl ?c1 ?c2 ?c3 ?c4 ?c5 ?_)
      case c1 => exact cell_one_new _ _ _
      case c2 => intro u hu; simp at hu; subst hu; rfl
      case c3 => have := HML.out; have := HL.out; unfold maxLen; omega
      case c4 => have := HML.out; have := HL.out; omega
      case c5 => have := HZ4.out; simp; omega
      intro v' w5 hown' hgrow _
      have hbn : Below (b + 1) w4 w5 := ((Below.refl _ _).alloc HZ4.out _).grown hgrow (by have := HZ4.out; simp; omega) (fun g hg => (HO4.out.lt g hg).1)
      have HK5 := Lib.hid (HK4.out.below hbn (Nat.lt_succ_self b))
      have HB5 : Hid (Below b w w5) := HB4.out.trans (hbn.mono (Nat.le_succ b))
      have HR5 : Hid (sown w5 (b + 1) v' (M ++ [x.data.toList])) := by
        show sown _ _ _ _
        unfold sown
        rw [List.length_append, List.map_append, List.map_cons, List.map_nil, sv_mk, mk_eq]
        exact hown'
      clear hown' hgrow hbn
      go_wp2
      go_roundw
      case rel => exact ⟨k + 1, m + 1, _, v', rfl, by omega, by go_num, by have := HM.out; omega, by rw [List.length_append]; have := HML.out; simp; omega, HT2.out.symm, HK5.out, HR5.out, HB5.out⟩
      case measure => simp [intOf]; omega
    · have HT : Hid (M = onceL l) := by show _ = _; rw [HMM.out, List.take_of_length_le (by have := HN.out; omega)]
      go_wp2
      go_ret
      exact ⟨v6, rfl, by rw [← HT.out, ← HBW.out]; exact ownsRow_base HO.out (Nat.le_succ b), by rw [← HBW.out]; exact HBR.out⟩

set_option maxHeartbeats 4000000 in
theorem coversAll_any (a : Av) (z : Al) (A : Option Addr) (n c B : Nat) (l : List (List UInt8)) (cr : Bool) (w : World) (ha : AvIs w a z) (hn : n = l.length) (hB : B ≤ w.heap.size) (hx : SRow w B A (l.map mk)) (hl : l.length ≤ maxLen) (hs : ∀ x ∈ l, x.length ≤ maxLen) :
    Calls Tryz.prog 40 #[a.v, .slice A n c, .bool cr] w fun e w' => e = .returned (.bool (l.all (fun s => covA z.hs s cr))) ∧ Below w.heap.size w w' := by
  obtain ⟨A1, n1, c1, A2, n2, c2, g⟩ := a
  obtain ⟨W, hW⟩ : ∃ W, W = w.alloc (.cells #[.slice A1 n1 c1, .slice A2 n2 c2, .int .u64 g] 28) := ⟨_, rfl⟩
  have HB0 : Hid (Below w.heap.size w W) := by show Below _ _ _; rw [hW]; exact (Below.refl _ _).alloc (Nat.le_refl _) _
  have HC0 : Hid (AlAt W w.heap.size ⟨A1, n1, c1, A2, n2, c2, g⟩) := by show AlAt _ _ _; rw [hW]; exact AlAt.new w ⟨A1, n1, c1, A2, n2, c2, g⟩ _
  have HA := Lib.hid ha
  have HX := Lib.hid hx
  have HS := Lib.hid hs
  have HN := Lib.hid hn
  have HL : Hid (n ≤ maxLen) := by show _ ≤ _; omega
  have HBB := Lib.hid hB
  clear ha hx hs hn hl hB
  unfold maxLen at HL
  unfold Av.v
  dsimp only
  go_enter Tryz.func40, Tryz.ntmps40
  go_upto_region 1 with fail
  rw [← hW]
  clear hW
  have hln := HL.out
  go_wp2_with fail
  go_loopw [11] (fun i wr => ∃ k : Nat, k ≤ n ∧ i = .int .i64 k ∧ (l.take k).all (fun s => covA z.hs s cr) = true ∧ AlAt wr w.heap.size ⟨A1, n1, c1, A2, n2, c2, g⟩ ∧ Below w.heap.size w wr) (fun i _ => n - (intOf i).toNat)
  case atStart => exact ⟨0, Nat.zero_le _, rfl, rfl, HC0.out, HB0.out⟩
  case round =>
    obtain ⟨k, hk, rfl, hall, hat, hb⟩ := hrel
    have HALL := Lib.hid hall
    have HAT := Lib.hid hat
    have HBR := Lib.hid hb
    clear hall hat hb
    by_cases hlt : k < n
    · have hkl : k < l.length := by rw [← HN.out]; exact hlt
      obtain ⟨a1, e1, _, hc1⟩ := (HX.out.below (HBR.out.mono HBB.out)) k (mk l[k]) (by rw [List.getElem?_map, List.getElem?_eq_getElem hkl]; rfl)
      have HXS : Hid ((mk l[k]).size ≤ maxLen) := by show _ ≤ _; rw [mk_size]; exact HS.out _ (List.getElem_mem hkl)
      obtain ⟨cv, hcv⟩ : ∃ cv, cv = covA z.hs (mk l[k]).data.toList cr := ⟨_, rfl⟩
      have HCV := Lib.hid hcv
      have HCL : Hid (covA z.hs l[k] cr = cv) := by show _ = _; rw [hcv, mk_data]
      clear hcv
      generalize mk l[k] = x at *
      subst e1
      obtain ⟨p0, p1, p2, _⟩ := HAT.out
      dsimp only at p0 p1 p2
      go_wp2_with fail
      refine (Covers_any ⟨A1, n1, c1, A2, n2, c2, g⟩ z x cr _ (HA.out.below HBR.out) HXS.out).mono ?_
      rintro e w2 ⟨rfl, hb2⟩
      rw [← HCV.out]
      have HB2 : Hid (Below w.heap.size w w2) := HBR.out.trans (hb2.mono HBR.out.size)
      have HAT2 := Lib.hid (HAT.out.up hb2)
      clear hb2 p0 p1 p2 hc1
      cases cv
      case false =>
        have HV : Hid (l.all (fun s => covA z.hs s cr) = false) := by
          show _ = _
          rw [List.all_eq_false]
          exact ⟨_, List.getElem_mem hkl, by rw [HCL.out]; simp⟩
        go_wp2
        go_ret
        exact ⟨ret_bool HV.out.symm, HB2.out⟩
      case true =>
        have HV : Hid ((l.take (k + 1)).all (fun s => covA z.hs s cr) = true) := by
          show _ = _
          rw [List.take_succ_eq_append_getElem hkl, List.all_append, HALL.out]
          simp [HCL.out]
        go_wp2
        go_roundw
        case rel => exact ⟨k + 1, by omega, by go_num, HV.out, HAT2.out, HB2.out⟩
        case measure => simp [intOf]; omega
    · have HV : Hid (l.all (fun s => covA z.hs s cr) = true) := by
        have h := HALL.out
        rwa [List.take_of_length_le (by have := HN.out; omega)] at h
      go_wp2
      go_ret
      exact ⟨ret_bool HV.out.symm, HBR.out⟩
end Go.Proofs.YtlkneapidmdpbaaGreatDoor
