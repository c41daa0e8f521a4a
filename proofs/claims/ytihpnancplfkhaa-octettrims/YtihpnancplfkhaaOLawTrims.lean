/-
  The walk of the law OctetTrims: whatever the text and the two lists of blanks, it returns true, and nothing that was there has turned. Conditions: the arguments are such as any that come in.
-/
import Derived.Test.YtihpnancplfkhaaOLow
namespace Go.Proofs.Ytihpnancplfkhaa
open Go.RowKit

/-- the blanks that these numbers pick -/
def blanks (l : List Int) : List UInt8 := (l.map blankV).flatten
theorem blanks_sp (l : List Int) : (blanks l).all Lk.sp = true := by
  induction l with
  | nil => rfl
  | cons x r ih =>
    have e : blanks (x :: r) = blankV x ++ blanks r := rfl
    rw [e, List.all_append, ih, blankV_sp]; rfl
theorem blanks_len (l : List Int) : (blanks l).length = l.length := by
  induction l with
  | nil => rfl
  | cons x r ih =>
    have e : blanks (x :: r) = blankV x ++ blanks r := rfl
    rw [e, List.length_append, ih, blankV_len, List.length_cons]; omega
theorem blanks_snoc (l : List Int) (k : Nat) (h : k < l.length) : blanks (l.take (k + 1)) = blanks (l.take k) ++ blankV l[k] := by
  rw [List.take_succ_eq_append_getElem h]; unfold blanks; rw [List.map_append, List.flatten_append]; simp only [List.map_cons, List.map_nil, List.flatten_cons, List.flatten_nil, List.append_nil]

set_option maxHeartbeats 2000000 in
theorem walk_OctetTrims (a0 : ByteArray) (a1 : Option Addr) (c1 : Nat) (x1 : List Int) (a2 : Option Addr) (c2 : Nat) (x2 : List Int) (w : World) (h0 : a0.size ≤ maxLen) (h1 : IArg .i64 w a1 c1 x1) (h2 : IArg .i64 w a2 c2 x2) :
    Calls Try.prog 5 #[.string a0, .slice a1 x1.length c1, .slice a2 x2.length c2] w fun e w' => e = .returned (.bool true) ∧ Below w.heap.size w w' := by
  obtain ⟨hr1, _, hl1, hm1⟩ := h1
  obtain ⟨hr2, _, hl2, hm2⟩ := h2
  unfold maxLen at hm1 hm2
  have R1 := Lib.hid hr1
  have R2 := Lib.hid hr2
  clear hr1 hr2
  by_cases hgo : Lk.longL 2000 [a0.size] = false ∧ x1.length ≤ 20 ∧ x2.length ≤ 20
  · obtain ⟨hl, hx1, hx2⟩ := hgo
    have hsz : a0.size ≤ 2000 := by have := Lk.long_no _ _ hl; simp at this; omega
    have HL : Hid (Lk.longL (2000 : Int).toNat ([a0].map ByteArray.size) = false) := hl
    clear hl
    go_enter Try.func5, Try.ntmps5
    go_wp2_with fail
    refine (Long_any _ _ _ _ [a0] _ _ (by decide) (by decide) rfl (SRow.one _ _ _) (by simp [maxLen]) (by simpa using h0)).mono ?_
    rintro e w' ⟨rfl, rfl⟩
    rw [HL.out]
    go_wp2_with fail
    go_loop [8, 10] (fun x i => ∃ k : Nat, k ≤ x1.length ∧ i = .int .i64 k ∧ x = .string (mk (blanks (x1.take k)))) (fun _ i => x1.length - (intOf i).toNat)
    case atStart => exact ⟨0, Nat.zero_le _, rfl, rfl⟩
    case round =>
      obtain ⟨k, hk, rfl, rfl⟩ := hrel
      have hs1 : (mk (blanks (x1.take k))).size ≤ 20 := by rw [mk_size, blanks_len]; simp; omega
      by_cases hlt : k < x1.length
      · obtain ⟨ad, hA, hB, hc⟩ := R1.out k x1[k] (List.getElem?_eq_getElem hlt)
        have hc' : ∀ o, (w.alloc o).cell? (ad.add k) = some (.int .i64 x1[k]) := fun o => by
          rw [World.cell?_alloc_lt w o _ (by rw [block_add]; exact hB)]; exact hc
        have HS := Lib.hid (blanks_snoc x1 k hlt)
        generalize x1[k] = x at *
        subst hA
        have hs2 : (mk (blankV x)).size = 1 := by rw [mk_size, blankV_len]
        have HM : Hid (mk (blanks (x1.take k)) ++ mk (blankV x) = mk (blanks (x1.take (k + 1)))) := by show _ = _; rw [mk_append, HS.out]
        clear hc
        go_wp2_with fail
        refine (blank_any _ _).mono ?_
        rintro e w' ⟨rfl, rfl⟩
        go_wp2_with fail
        go_round
        case rel => exact ⟨k + 1, by omega, by go_num, by rw [HM.out]⟩
        case measure => simp [intOf]; omega
      · have HK : Hid (x1.take k = x1) := List.take_of_length_le (by omega)
        rw [HK.out] at hs1 ⊢
        go_wp2_with fail
        go_loop [9, 11] (fun y i => ∃ q : Nat, q ≤ x2.length ∧ i = .int .i64 q ∧ y = .string (mk (blanks (x2.take q)))) (fun _ i => x2.length - (intOf i).toNat)
        case atStart => exact ⟨0, Nat.zero_le _, rfl, rfl⟩
        case round =>
          obtain ⟨q, hq, rfl, rfl⟩ := hrel
          have ht1 : (mk (blanks (x2.take q))).size ≤ 20 := by rw [mk_size, blanks_len]; simp; omega
          by_cases hlt2 : q < x2.length
          · obtain ⟨ad, hA, hB, hc⟩ := R2.out q x2[q] (List.getElem?_eq_getElem hlt2)
            have hc' : ∀ o, (w.alloc o).cell? (ad.add q) = some (.int .i64 x2[q]) := fun o => by
              rw [World.cell?_alloc_lt w o _ (by rw [block_add]; exact hB)]; exact hc
            have HS := Lib.hid (blanks_snoc x2 q hlt2)
            generalize x2[q] = x at *
            subst hA
            have hs2 : (mk (blankV x)).size = 1 := by rw [mk_size, blankV_len]
            have HM : Hid (mk (blanks (x2.take q)) ++ mk (blankV x) = mk (blanks (x2.take (q + 1)))) := by show _ = _; rw [mk_append, HS.out]
            clear hc
            go_wp2_with fail
            refine (blank_any _ _).mono ?_
            rintro e w' ⟨rfl, rfl⟩
            go_wp2_with fail
            go_round
            case rel => exact ⟨q + 1, by omega, by go_num, by rw [HM.out]⟩
            case measure => simp [intOf]; omega
          · have HQ : Hid (x2.take q = x2) := List.take_of_length_le (by omega)
            rw [HQ.out] at ht1 ⊢
            obtain ⟨t, ht⟩ : ∃ t : ByteArray, t = ⟨(Lk.trimL a0.data.toList).toArray⟩ := ⟨_, rfl⟩
            have hts : t.size ≤ maxLen := by
              have h3 := Lk.trim_len a0.data.toList
              have h4 : t.size = (Lk.trimL a0.data.toList).length := by rw [ht]; exact mk_size _
              have h5 : a0.data.toList.length = a0.size := by simp
              rw [h4]; unfold maxLen; omega
            have T1 : Hid (t = ⟨(Lk.trimL (mk (blanks x1) ++ a0 ++ mk (blanks x2)).data.toList).toArray⟩) := by
              show _ = _
              have e : (mk (blanks x1) ++ a0 ++ mk (blanks x2)).data.toList = blanks x1 ++ a0.data.toList ++ blanks x2 := by simp [mk]
              rw [e, Lk.trim_pad _ (blanks_sp x1) (blanks_sp x2)]; exact ht
            have T2 : Hid (t = ⟨(Lk.trimL t.data.toList).toArray⟩) := by
              show _ = _
              rw [ba_eq ht, Lk.trim_trim]; exact ht
            have T3 : Hid ((⟨#[]⟩ : ByteArray) = ⟨(Lk.trimL (mk (blanks x1) ++ mk (blanks x2)).data.toList).toArray⟩) := by
              show _ = _
              have e : (mk (blanks x1) ++ mk (blanks x2)).data.toList = blanks x1 ++ blanks x2 := by simp [mk]
              rw [e, Lk.trim_blank (by rw [List.all_append, blanks_sp, blanks_sp]; rfl)]
            have HT := Lib.hid ht
            clear ht
            go_wp2_with fail
            refine (Trim_as a0 t _ h0 HT.out).mono ?_
            rintro e w' ⟨rfl, rfl⟩
            go_wp2_with fail
            refine (Trim_as _ t _ (by simp [maxLen]; omega) T1.out).mono ?_
            rintro e w' ⟨rfl, rfl⟩
            go_wp2_with fail
            refine (Trim_as t t _ hts T2.out).mono ?_
            rintro e w' ⟨rfl, rfl⟩
            go_wp2_with fail
            refine (Trim_as _ ⟨#[]⟩ _ (by simp [maxLen]; omega) T3.out).mono ?_
            rintro e w' ⟨rfl, rfl⟩
            go_wp2_with fail
            refine (awake_any _).mono ?_
            rintro e w' ⟨rfl, hb⟩
            go_wp2
            go_ret
            exact ⟨rfl, ((Below.refl _ _).alloc (Nat.le_refl _) _).trans (hb.mono (by simp))⟩
  · obtain ⟨lo, hlo⟩ : ∃ lo, Lk.longL 2000 [a0.size] = lo := ⟨_, rfl⟩
    rw [hlo] at hgo
    have HL : Hid (Lk.longL (2000 : Int).toNat ([a0].map ByteArray.size) = lo) := hlo
    clear hlo
    cases lo
    · by_cases hx1 : x1.length ≤ 20
      · have hx2 : ¬ x2.length ≤ 20 := fun h => hgo ⟨rfl, hx1, h⟩
        clear hgo
        go_enter Try.func5, Try.ntmps5
        go_wp2_with fail
        refine (Long_any _ _ _ _ [a0] _ _ (by decide) (by decide) rfl (SRow.one _ _ _) (by simp [maxLen]) (by simpa using h0)).mono ?_
        rintro e w' ⟨rfl, rfl⟩
        rw [HL.out]
        go_wp2_with fail
        refine (awake_any _).mono ?_
        rintro e w' ⟨rfl, hb⟩
        go_wp2
        go_ret
        exact ⟨rfl, ((Below.refl _ _).alloc (Nat.le_refl _) _).trans (hb.mono (by simp))⟩
      · clear hgo
        go_enter Try.func5, Try.ntmps5
        go_wp2_with fail
        refine (Long_any _ _ _ _ [a0] _ _ (by decide) (by decide) rfl (SRow.one _ _ _) (by simp [maxLen]) (by simpa using h0)).mono ?_
        rintro e w' ⟨rfl, rfl⟩
        rw [HL.out]
        go_wp2_with fail
        refine (awake_any _).mono ?_
        rintro e w' ⟨rfl, hb⟩
        go_wp2
        go_ret
        exact ⟨rfl, ((Below.refl _ _).alloc (Nat.le_refl _) _).trans (hb.mono (by simp))⟩
    · clear hgo
      go_enter Try.func5, Try.ntmps5
      go_wp2_with fail
      refine (Long_any _ _ _ _ [a0] _ _ (by decide) (by decide) rfl (SRow.one _ _ _) (by simp [maxLen]) (by simpa using h0)).mono ?_
      rintro e w' ⟨rfl, rfl⟩
      rw [HL.out]
      go_wp2_with fail
      refine (awake_any _).mono ?_
      rintro e w' ⟨rfl, hb⟩
      go_wp2
      go_ret
      exact ⟨rfl, ((Below.refl _ _).alloc (Nat.le_refl _) _).trans (hb.mono (by simp))⟩
end Go.Proofs.Ytihpnancplfkhaa
