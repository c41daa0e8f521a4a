/-
  The walk of the law SafeSizes: whatever the numbers, it returns true, and nothing that was there has turned. Conditions: none beyond the arguments' own.
-/
import Derived.Test.YtinpfkbplflecaaVAwake
namespace Go.Proofs.Ytinpfkbplflecaa
open Go.RowKit

def capT : List UInt8 := [65, 99, 99, 101, 112, 116, 45, 76, 97, 110, 103, 117, 97, 103, 101]
def oneA : Hd := (acceptT, List.replicate 128 97)
theorem safe_a (k : Nat) : safeH (acceptT, List.replicate k 97) = decide (k ≤ 128) := by
  unfold safeH
  show (decide ((Lk.trimL (List.replicate k 97)).length ≤ 128) && kindOk (Lk.lower acceptT) (Lk.trimL (List.replicate k 97))) = _
  rw [rep_trim k 97 (by decide), List.length_replicate, show Lk.lower acceptT = acceptT by decide]
  unfold kindOk bytesOk
  rw [if_pos rfl, rep_ok k 97 byteOk (by decide), Bool.and_true]
theorem safe_b (z : Nat) (h : z ≤ 128) : safeH (capT, List.replicate z 98) = true := by
  unfold safeH
  show (decide ((Lk.trimL (List.replicate z 98)).length ≤ 128) && kindOk (Lk.lower capT) (Lk.trimL (List.replicate z 98))) = _
  rw [rep_trim z 98 (by decide), List.length_replicate, show Lk.lower capT = alangT by decide, decide_eq_true h, Bool.true_and]
  unfold kindOk langsOk
  rw [if_neg (by decide), if_pos rfl, rep_ok z 98 langOk (by decide)]
theorem safe_oneA : safeH oneA = true := by
  have := safe_a 128
  exact this.trans (by decide)
theorem trim_oneA : (Lk.trimL oneA.2).length = 128 := by
  show (Lk.trimL (List.replicate 128 97)).length = _
  rw [rep_trim 128 97 (by decide), List.length_replicate]
theorem sum_rep : ∀ m : Nat, safeSum (List.replicate m oneA) = 128 * m
  | 0 => rfl
  | m + 1 => by rw [List.replicate_succ', sum_append, sum_rep m, sum_yes safe_oneA, trim_oneA]; omega
theorem asked_rep : ∀ m : Nat, askedL (List.replicate m oneA) = []
  | 0 => rfl
  | m + 1 => by rw [List.replicate_succ', asked_append, asked_rep m, asked_yes safe_oneA]; rfl
theorem sizes_sum (m z : Nat) (h : z ≤ 128) : safeSum (List.replicate m oneA ++ [(capT, List.replicate z 98)]) = 128 * m + z := by
  rw [sum_append, sum_rep, sum_yes (safe_b z h)]
  show 128 * m + (Lk.trimL (List.replicate z 98)).length = _
  rw [rep_trim z 98 (by decide), List.length_replicate]
theorem sizes_few {m z : Nat} (h : z ≤ 128) (h2 : 128 * m + z ≤ 1024) : safeNames (List.replicate m oneA ++ [(capT, List.replicate z 98)]) = [] := by
  rw [safe_few (by rw [sizes_sum m z h]; omega), asked_append, asked_rep, asked_yes (safe_b z h)]
  rfl
theorem sizes_many {m z : Nat} (h : z ≤ 128) (h2 : ¬ 128 * m + z ≤ 1024) : safeNames (List.replicate m oneA ++ [(capT, List.replicate z 98)]) = [acceptT, alangT] := by
  rw [safe_many (by rw [sizes_sum m z h]; omega)]
  refine up_unique (ris_up _) (by unfold Up; decide) fun x => ?_
  show x ∈ namesH _ ↔ _
  rw [names_mem]
  constructor
  · rintro ⟨g, hg, e⟩
    rcases List.mem_append.1 hg with hg | hg
    · obtain rfl := (List.mem_replicate.1 hg).2
      rw [← e]; decide
    · obtain rfl : g = (capT, List.replicate z 98) := by simpa using hg
      rw [← e]
      show Lk.lower capT ∈ _
      decide
  · intro hx
    rcases (by simpa using hx : x = acceptT ∨ x = alangT) with rfl | rfl
    · exact ⟨oneA, List.mem_append_left _ (List.mem_replicate.2 ⟨by omega, rfl⟩), by decide⟩
    · exact ⟨(capT, List.replicate z 98), by simp, (show Lk.lower capT = alangT by decide)⟩
theorem sizes_sm {m z : Nat} (hm : m ≤ 12) (hz : z ≤ 128) : Sm (List.replicate m oneA ++ [(capT, List.replicate z 98)]) := by
  refine ⟨by simp; omega, fun h hh => ?_⟩
  rcases List.mem_append.1 hh with hh | hh
  · obtain rfl := (List.mem_replicate.1 hh).2
    exact ⟨by decide, by simp [oneA]⟩
  · obtain rfl : h = (capT, List.replicate z 98) := by simpa using hh
    exact ⟨(by decide : capT.length ≤ 100000), by simp; omega⟩

set_option maxRecDepth 100000 in
set_option maxHeartbeats 4000000 in
theorem walk_SafeSizes (a0 a1 a2 : Int) (w : World) (_h0 : (Lit.int .i64 a0).wf = true) (_h1 : (Lit.int .i64 a1).wf = true) (_h2 : (Lit.int .i64 a2).wf = true) :
    Calls Try.prog 7 #[.int .i64 a0, .int .i64 a1, .int .i64 a2] w fun e w' => e = .returned (.bool true) ∧ Below w.heap.size w w' := by
  obtain ⟨i0, hi, hz0, hz1, hz2⟩ := info_parts infoH
  obtain ⟨k, hk, hk2⟩ := low_nat a0 200 (by decide)
  obtain ⟨m, hm, hm2⟩ := low_nat a1 12 (by decide)
  obtain ⟨z, hz, hzb⟩ := low_nat a2 129 (by decide)
  have HK : Hid (lowV a0 200 = (k : Int)) := hk
  have HM : Hid (lowV a1 12 = (m : Int)) := hm
  have HZ : Hid (lowV a2 129 = (z : Int)) := hz
  clear hk hm hz
  obtain ⟨ta, hta⟩ : ∃ t : ByteArray, t = mk (List.replicate k 97) := ⟨_, rfl⟩
  obtain ⟨tb, htb⟩ : ∃ t : ByteArray, t = mk (List.replicate z 98) := ⟨_, rfl⟩
  obtain ⟨tc, htc⟩ : ∃ t : ByteArray, t = mk (List.replicate 128 97) := ⟨_, rfl⟩
  have hza : ta.size ≤ 1000 := by rw [hta, mk_size]; simp; omega
  have hzc : tc.size ≤ 1000 := by rw [htc, mk_size]; simp
  have hzt : tb.size ≤ 1000 := by rw [htb, mk_size]; simp; omega
  have HSA : Hid (safeH (hd (⟨#[97, 99, 99, 101, 112, 116]⟩, ta)) = decide (k ≤ 128)) := by
    show _ = _
    rw [← safe_a k, hta]
    show safeH (acceptT, (mk (List.replicate k 97)).data.toList) = _
    rw [mk_data]
  have HTA : Hid (mk (List.replicate k 97) = ta) := hta.symm
  have HTB : Hid (mk (List.replicate z 98) = tb) := htb.symm
  have HTC : Hid (mk (List.replicate 128 97) = tc) := htc.symm
  have HOA : Hid ((((⟨#[97, 99, 99, 101, 112, 116]⟩ : ByteArray).data.toList, tc.data.toList) : Hd) = oneA) := by show _ = _; rw [htc, mk_data]; rfl
  have HOB : Hid ((((⟨#[65, 99, 99, 101, 112, 116, 45, 76, 97, 110, 103, 117, 97, 103, 101]⟩ : ByteArray).data.toList, tb.data.toList) : Hd) = (capT, List.replicate z 98)) := by show _ = _; rw [htb, mk_data]; rfl
  clear hta htb htc
  go_enter Try.func7, Try.ntmps7
  go_wp2_with fail
  refine (Low_any _ _ _ (by decide) (by decide)).mono ?_
  rintro e w' ⟨rfl, rfl⟩
  rw [HK.out]
  go_wp2_with fail
  refine (Text_any k 97 _ (by omega)).mono ?_
  rintro e w1 ⟨rfl, hb1⟩
  rw [HTA.out]
  have HB1 : Hid (Below w.heap.size w w1) := hb1
  clear hb1
  go_wp2_with fail
  refine (Header_any ⟨#[97, 99, 99, 101, 112, 116]⟩ ta _ (by unfold maxLen; decide) (by unfold maxLen; omega)).mono ?_
  rintro e w2 ⟨rfl, hb2⟩
  rw [HSA.out]
  have HB2 : Hid (Below w.heap.size w w2) := HB1.out.trans (hb2.mono HB1.out.size)
  clear hb2
  by_cases hk128 : k ≤ 128
  · have hk129 : (k : Int) ≤ 128 := by omega
    rw [decide_eq_true hk128]
    go_wp2_with fail
    refine (Low_any _ _ _ (by decide) (by decide)).mono ?_
    rintro e w' ⟨rfl, rfl⟩
    rw [HM.out]
    go_wp2_with fail
    refine (Low_any _ _ _ (by decide) (by decide)).mono ?_
    rintro e w' ⟨rfl, rfl⟩
    rw [HZ.out]
    go_wp2_with fail
    go_loopw [10, 11] (fun v i wr => ∃ j : Nat, j ≤ m ∧ i = .int .i64 j ∧ HdRow wr w.heap.size v (List.replicate j oneA) ∧ Below w.heap.size w wr) (fun _ i _ => m - (intOf i).toNat)
    case atStart => exact ⟨0, Nat.zero_le _, rfl, HdRow.nil _ _, HB2.out⟩
    case round =>
      obtain ⟨j, hj, rfl, hr, hb⟩ := hrel
      have HRR := Lib.hid hr
      have HBB := Lib.hid hb
      clear hr hb
      by_cases hlt : j < m
      · go_wp2_with fail
        refine (Text_any 128 97 _ (by omega)).mono ?_
        rintro e w3 ⟨rfl, hb3⟩
        rw [HTC.out]
        have HR3 : Hid (w3.ownsRow w.heap.size 41 2 u10 (List.replicate j oneA).length (hcs (List.replicate j oneA))) := HRR.out.below hb3
        have HB3 : Hid (Below w.heap.size w w3) := HBB.out.trans (hb3.mono HBB.out.size)
        clear hb3
        go_wp2_with (at_builtin; refine wpList_append_own _ rfl (.tmp 31) (.tmp 34) 22 rfl w.heap.size 41 i0 (.agg #[.string ⟨#[]⟩, .string ⟨#[]⟩]) 2 32 Try.underlying22 hi hz0 hz1 hz2 rfl (by decide) _ _ _ rfl (World.ownsRow.alloc (w := w3) HR3.out _) ⟨w3.heap.size, 0, none⟩ 1 1 [.string ⟨#[97, 99, 99, 101, 112, 116]⟩, .string tc] rfl rfl ?cx1 ?cx2 ?cx3 ?cx4 ?cx5 ?_)
        case cx1 => exact cells_two_new _ _ _ _
        case cx2 => intro u hu; simp at hu; rcases hu with rfl | rfl <;> rfl
        case cx3 => simp; unfold maxLen; omega
        case cx4 => simp; omega
        case cx5 => have := HB3.out.size; simp; omega
        intro v' w4 hown' hgrow _
        have HR4 : Hid (HdRow w4 w.heap.size v' (List.replicate j oneA ++ [oneA])) := by
          have h := HdRow.more (a := ⟨#[97, 99, 99, 101, 112, 116]⟩) (b := tc) (l := List.replicate j oneA) (by rw [List.length_replicate]; exact hown')
          rw [HOA.out] at h
          exact h
        have HB4 : Hid (Below w.heap.size w w4) := (HB3.out.alloc HB3.out.size _).grown hgrow (by have := HB3.out.size; simp; omega) (fun b hb => (HR3.out.lt b hb).1)
        clear hown' hgrow
        go_wp2
        go_roundw
        case rel => exact ⟨j + 1, by omega, by go_num, by rw [List.replicate_succ']; exact HR4.out, HB4.out⟩
        case measure => simp [intOf]; omega
      · obtain rfl : j = m := by omega
        go_wp2_with fail
        refine (Text_any z 98 _ (by omega)).mono ?_
        rintro e w3 ⟨rfl, hb3⟩
        rw [HTB.out]
        have HR3 : Hid (w3.ownsRow w.heap.size 41 2 u10 (List.replicate j oneA).length (hcs (List.replicate j oneA))) := HRR.out.below hb3
        have HB3 : Hid (Below w.heap.size w w3) := HBB.out.trans (hb3.mono HBB.out.size)
        clear hb3
        go_wp2_with (at_builtin; refine wpList_append_own _ rfl (.tmp 36) (.tmp 40) 22 rfl w.heap.size 41 i0 (.agg #[.string ⟨#[]⟩, .string ⟨#[]⟩]) 2 32 Try.underlying22 hi hz0 hz1 hz2 rfl (by decide) _ _ _ rfl (World.ownsRow.alloc (w := w3) HR3.out _) ⟨w3.heap.size, 0, none⟩ 1 1 [.string ⟨#[65, 99, 99, 101, 112, 116, 45, 76, 97, 110, 103, 117, 97, 103, 101]⟩, .string tb] rfl rfl ?dx1 ?dx2 ?dx3 ?dx4 ?dx5 ?_)
        case dx1 => exact cells_two_new _ _ _ _
        case dx2 => intro u hu; simp at hu; rcases hu with rfl | rfl <;> rfl
        case dx3 => simp; unfold maxLen; omega
        case dx4 => simp; omega
        case dx5 => have := HB3.out.size; simp; omega
        intro v' w4 hown' hgrow _
        have hr4 : HdRow w4 w.heap.size v' (List.replicate j oneA ++ [(capT, List.replicate z 98)]) := by
          have h := HdRow.more (a := ⟨#[65, 99, 99, 101, 112, 116, 45, 76, 97, 110, 103, 117, 97, 103, 101]⟩) (b := tb) (l := List.replicate j oneA) (by rw [List.length_replicate]; exact hown')
          rw [HOB.out] at h
          exact h
        have HB4 : Hid (Below w.heap.size w w4) := (HB3.out.alloc HB3.out.size _).grown hgrow (by have := HB3.out.size; simp; omega) (fun b hb => (HR3.out.lt b hb).1)
        clear hown' hgrow
        obtain ⟨A, nA, cA, yA, rfl, hnA, hyA, _, hpA⟩ := hr4.row
        have HNA := Lib.hid hnA
        have HYA : Hid (yA.map hd = List.replicate j oneA ++ [(capT, List.replicate z 98)]) := hyA
        have HPA := Lib.hid hpA
        clear hr4 hnA hyA hpA
        go_wp2_with fail
        refine (Names7_any A _ cA w4.heap.size yA _ HNA.out (Nat.le_refl _) HPA.out (by rw [HYA.out]; exact sizes_sm (by omega) (by omega))).mono ?_
        rintro e w5 ⟨v, rfl, hr5, hb5⟩
        have HB5 : Hid (Below w.heap.size w w5) := HB4.out.trans (hb5.mono HB4.out.size)
        clear hb5
        rw [HYA.out] at hr5
        by_cases hs : 128 * j + z ≤ 1024
        · have hs2 : 128 * (j : Int) + (z : Int) ≤ 1024 := by omega
          rw [sizes_few (by omega) hs] at hr5
          obtain ⟨A5, c5, e5, _, _⟩ := trow_of hr5
          subst e5
          clear hr5
          go_wp2_with fail
          refine (awake7_any _).mono ?_
          rintro e w6 ⟨rfl, hb⟩
          go_wp2
          go_ret
          exact ⟨rfl, HB5.out.trans (hb.mono HB5.out.size)⟩
        · have hs2 : ¬ 128 * (j : Int) + (z : Int) ≤ 1024 := by omega
          rw [sizes_many (by omega) hs] at hr5
          rcases sown_form hr5 with ⟨_, hn⟩ | ⟨g, cap, hv, _, _, _⟩
          · simp at hn
          subst hv
          obtain ⟨c0, _⟩ := sown_slot hr5 rfl 0 (by simp)
          obtain ⟨c1, _⟩ := sown_slot hr5 rfl 1 (by simp)
          clear hr5
          have c0' : w5.cell? ⟨g, 0, none⟩ = some (.string ⟨#[97, 99, 99, 101, 112, 116]⟩) := c0
          have c1' : w5.cell? ⟨g, 1, none⟩ = some (.string ⟨#[97, 99, 99, 101, 112, 116, 45, 108, 97, 110, 103, 117, 97, 103, 101]⟩) := c1
          clear c0 c1
          go_wp2_with fail
          refine (awake7_any _).mono ?_
          rintro e w6 ⟨rfl, hb⟩
          go_wp2
          go_ret
          exact ⟨rfl, HB5.out.trans (hb.mono HB5.out.size)⟩
  · have hk129 : ¬ (k : Int) ≤ 128 := by omega
    rw [decide_eq_false hk128]
    go_wp2_with fail
    refine (Low_any _ _ _ (by decide) (by decide)).mono ?_
    rintro e w' ⟨rfl, rfl⟩
    rw [HM.out]
    go_wp2_with fail
    refine (Low_any _ _ _ (by decide) (by decide)).mono ?_
    rintro e w' ⟨rfl, rfl⟩
    rw [HZ.out]
    go_wp2_with fail
    go_loopw [10, 11] (fun v i wr => ∃ j : Nat, j ≤ m ∧ i = .int .i64 j ∧ HdRow wr w.heap.size v (List.replicate j oneA) ∧ Below w.heap.size w wr) (fun _ i _ => m - (intOf i).toNat)
    case atStart => exact ⟨0, Nat.zero_le _, rfl, HdRow.nil _ _, HB2.out⟩
    case round =>
      obtain ⟨j, hj, rfl, hr, hb⟩ := hrel
      have HRR := Lib.hid hr
      have HBB := Lib.hid hb
      clear hr hb
      by_cases hlt : j < m
      · go_wp2_with fail
        refine (Text_any 128 97 _ (by omega)).mono ?_
        rintro e w3 ⟨rfl, hb3⟩
        rw [HTC.out]
        have HR3 : Hid (w3.ownsRow w.heap.size 41 2 u10 (List.replicate j oneA).length (hcs (List.replicate j oneA))) := HRR.out.below hb3
        have HB3 : Hid (Below w.heap.size w w3) := HBB.out.trans (hb3.mono HBB.out.size)
        clear hb3
        go_wp2_with (at_builtin; refine wpList_append_own _ rfl (.tmp 31) (.tmp 34) 22 rfl w.heap.size 41 i0 (.agg #[.string ⟨#[]⟩, .string ⟨#[]⟩]) 2 32 Try.underlying22 hi hz0 hz1 hz2 rfl (by decide) _ _ _ rfl (World.ownsRow.alloc (w := w3) HR3.out _) ⟨w3.heap.size, 0, none⟩ 1 1 [.string ⟨#[97, 99, 99, 101, 112, 116]⟩, .string tc] rfl rfl ?cy1 ?cy2 ?cy3 ?cy4 ?cy5 ?_)
        case cy1 => exact cells_two_new _ _ _ _
        case cy2 => intro u hu; simp at hu; rcases hu with rfl | rfl <;> rfl
        case cy3 => simp; unfold maxLen; omega
        case cy4 => simp; omega
        case cy5 => have := HB3.out.size; simp; omega
        intro v' w4 hown' hgrow _
        have HR4 : Hid (HdRow w4 w.heap.size v' (List.replicate j oneA ++ [oneA])) := by
          have h := HdRow.more (a := ⟨#[97, 99, 99, 101, 112, 116]⟩) (b := tc) (l := List.replicate j oneA) (by rw [List.length_replicate]; exact hown')
          rw [HOA.out] at h
          exact h
        have HB4 : Hid (Below w.heap.size w w4) := (HB3.out.alloc HB3.out.size _).grown hgrow (by have := HB3.out.size; simp; omega) (fun b hb => (HR3.out.lt b hb).1)
        clear hown' hgrow
        go_wp2
        go_roundw
        case rel => exact ⟨j + 1, by omega, by go_num, by rw [List.replicate_succ']; exact HR4.out, HB4.out⟩
        case measure => simp [intOf]; omega
      · obtain rfl : j = m := by omega
        go_wp2_with fail
        refine (Text_any z 98 _ (by omega)).mono ?_
        rintro e w3 ⟨rfl, hb3⟩
        rw [HTB.out]
        have HR3 : Hid (w3.ownsRow w.heap.size 41 2 u10 (List.replicate j oneA).length (hcs (List.replicate j oneA))) := HRR.out.below hb3
        have HB3 : Hid (Below w.heap.size w w3) := HBB.out.trans (hb3.mono HBB.out.size)
        clear hb3
        go_wp2_with (at_builtin; refine wpList_append_own _ rfl (.tmp 36) (.tmp 40) 22 rfl w.heap.size 41 i0 (.agg #[.string ⟨#[]⟩, .string ⟨#[]⟩]) 2 32 Try.underlying22 hi hz0 hz1 hz2 rfl (by decide) _ _ _ rfl (World.ownsRow.alloc (w := w3) HR3.out _) ⟨w3.heap.size, 0, none⟩ 1 1 [.string ⟨#[65, 99, 99, 101, 112, 116, 45, 76, 97, 110, 103, 117, 97, 103, 101]⟩, .string tb] rfl rfl ?dy1 ?dy2 ?dy3 ?dy4 ?dy5 ?_)
        case dy1 => exact cells_two_new _ _ _ _
        case dy2 => intro u hu; simp at hu; rcases hu with rfl | rfl <;> rfl
        case dy3 => simp; unfold maxLen; omega
        case dy4 => simp; omega
        case dy5 => have := HB3.out.size; simp; omega
        intro v' w4 hown' hgrow _
        have hr4 : HdRow w4 w.heap.size v' (List.replicate j oneA ++ [(capT, List.replicate z 98)]) := by
          have h := HdRow.more (a := ⟨#[65, 99, 99, 101, 112, 116, 45, 76, 97, 110, 103, 117, 97, 103, 101]⟩) (b := tb) (l := List.replicate j oneA) (by rw [List.length_replicate]; exact hown')
          rw [HOB.out] at h
          exact h
        have HB4 : Hid (Below w.heap.size w w4) := (HB3.out.alloc HB3.out.size _).grown hgrow (by have := HB3.out.size; simp; omega) (fun b hb => (HR3.out.lt b hb).1)
        clear hown' hgrow
        obtain ⟨A, nA, cA, yA, rfl, hnA, hyA, _, hpA⟩ := hr4.row
        have HNA := Lib.hid hnA
        have HYA : Hid (yA.map hd = List.replicate j oneA ++ [(capT, List.replicate z 98)]) := hyA
        have HPA := Lib.hid hpA
        clear hr4 hnA hyA hpA
        go_wp2_with fail
        refine (Names7_any A _ cA w4.heap.size yA _ HNA.out (Nat.le_refl _) HPA.out (by rw [HYA.out]; exact sizes_sm (by omega) (by omega))).mono ?_
        rintro e w5 ⟨v, rfl, hr5, hb5⟩
        have HB5 : Hid (Below w.heap.size w w5) := HB4.out.trans (hb5.mono HB4.out.size)
        clear hb5
        rw [HYA.out] at hr5
        by_cases hs : 128 * j + z ≤ 1024
        · have hs2 : 128 * (j : Int) + (z : Int) ≤ 1024 := by omega
          rw [sizes_few (by omega) hs] at hr5
          obtain ⟨A5, c5, e5, _, _⟩ := trow_of hr5
          subst e5
          clear hr5
          go_wp2_with fail
          refine (awake7_any _).mono ?_
          rintro e w6 ⟨rfl, hb⟩
          go_wp2
          go_ret
          exact ⟨rfl, HB5.out.trans (hb.mono HB5.out.size)⟩
        · have hs2 : ¬ 128 * (j : Int) + (z : Int) ≤ 1024 := by omega
          rw [sizes_many (by omega) hs] at hr5
          rcases sown_form hr5 with ⟨_, hn⟩ | ⟨g, cap, hv, _, _, _⟩
          · simp at hn
          subst hv
          obtain ⟨c0, _⟩ := sown_slot hr5 rfl 0 (by simp)
          obtain ⟨c1, _⟩ := sown_slot hr5 rfl 1 (by simp)
          clear hr5
          have c0' : w5.cell? ⟨g, 0, none⟩ = some (.string ⟨#[97, 99, 99, 101, 112, 116]⟩) := c0
          have c1' : w5.cell? ⟨g, 1, none⟩ = some (.string ⟨#[97, 99, 99, 101, 112, 116, 45, 108, 97, 110, 103, 117, 97, 103, 101]⟩) := c1
          clear c0 c1
          go_wp2_with fail
          refine (awake7_any _).mono ?_
          rintro e w6 ⟨rfl, hb⟩
          go_wp2
          go_ret
          exact ⟨rfl, HB5.out.trans (hb.mono HB5.out.size)⟩
end Go.Proofs.Ytinpfkbplflecaa
