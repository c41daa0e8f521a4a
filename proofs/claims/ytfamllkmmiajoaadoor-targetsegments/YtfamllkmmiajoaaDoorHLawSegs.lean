/-
  The walk of the law TargetSegments: whatever the numbers, it returns true, and nothing that was there has turned. Conditions: the arguments are such as any that come in; the library's variables are as they are laid.
-/
import Derived.Test.YtfamllkmmiajoaaDoorHList
import Derived.Test.YtfamllkmmiajoaaDoorHFlip
import Derived.Test.YtfamllkmmiajoaaDoorOLow
namespace Go.Proofs.YtfamllkmmiajoaaDoor
open Go.RowKit

def arr8 : Value := .agg #[.string ⟨#[97]⟩, .string ⟨#[]⟩, .string ⟨#[98, 99]⟩, .string ⟨#[46, 46, 46]⟩, .string ⟨#[46]⟩, .string ⟨#[37, 50, 101]⟩, .string ⟨#[46, 46]⟩, .string ⟨#[37, 50, 101, 46]⟩]
def seg8 (m : Int) : ByteArray := if m = 0 then ⟨#[97]⟩ else if m = 1 then ⟨#[]⟩ else if m = 2 then ⟨#[98, 99]⟩ else if m = 3 then ⟨#[46, 46, 46]⟩ else if m = 4 then ⟨#[46]⟩ else if m = 5 then ⟨#[37, 50, 101]⟩ else if m = 6 then ⟨#[46, 46]⟩ else ⟨#[37, 50, 101, 46]⟩
theorem idx8_0 (w : World) : (Instr.index 39 arr8 (.int .i64 0)).run Tryd.prog w = .ok (.string ⟨#[97]⟩) w := by kernel_rfl
theorem idx8_1 (w : World) : (Instr.index 39 arr8 (.int .i64 1)).run Tryd.prog w = .ok (.string ⟨#[]⟩) w := by kernel_rfl
theorem idx8_2 (w : World) : (Instr.index 39 arr8 (.int .i64 2)).run Tryd.prog w = .ok (.string ⟨#[98, 99]⟩) w := by kernel_rfl
theorem idx8_3 (w : World) : (Instr.index 39 arr8 (.int .i64 3)).run Tryd.prog w = .ok (.string ⟨#[46, 46, 46]⟩) w := by kernel_rfl
theorem idx8_4 (w : World) : (Instr.index 39 arr8 (.int .i64 4)).run Tryd.prog w = .ok (.string ⟨#[46]⟩) w := by kernel_rfl
theorem idx8_5 (w : World) : (Instr.index 39 arr8 (.int .i64 5)).run Tryd.prog w = .ok (.string ⟨#[37, 50, 101]⟩) w := by kernel_rfl
theorem idx8_6 (w : World) : (Instr.index 39 arr8 (.int .i64 6)).run Tryd.prog w = .ok (.string ⟨#[46, 46]⟩) w := by kernel_rfl
theorem idx8_7 (w : World) : (Instr.index 39 arr8 (.int .i64 7)).run Tryd.prog w = .ok (.string ⟨#[37, 50, 101, 46]⟩) w := by kernel_rfl
theorem seg8_dots : dotsL (seg8 0).data.toList = 0 ∧ dotsL (seg8 1).data.toList = 0 ∧ dotsL (seg8 2).data.toList = 0 ∧ dotsL (seg8 3).data.toList = 0 ∧ dotsL (seg8 4).data.toList = 1 ∧ dotsL (seg8 5).data.toList = 1 ∧ dotsL (seg8 6).data.toList = 2 ∧ dotsL (seg8 7).data.toList = 2 := by decide
theorem seg8_view {m : Int} (h0 : 0 ≤ m) (h8 : m < 8) : (∀ w, (Instr.index 39 arr8 (.int .i64 m)).run Tryd.prog w = .ok (.string (seg8 m)) w) ∧ noSl (seg8 m).data.toList ∧ (seg8 m).size ≤ 4 ∧
    ((m < 4 ∧ dotsL (seg8 m).data.toList = 0) ∨ (4 ≤ m ∧ m ≤ 5 ∧ dotsL (seg8 m).data.toList = 1) ∨ (5 < m ∧ dotsL (seg8 m).data.toList = 2)) := by
  obtain ⟨d0, d1, d2, d3, d4, d5, d6, d7⟩ := seg8_dots
  rcases (by omega : m = 0 ∨ m = 1 ∨ m = 2 ∨ m = 3 ∨ m = 4 ∨ m = 5 ∨ m = 6 ∨ m = 7) with rfl | rfl | rfl | rfl | rfl | rfl | rfl | rfl
  · exact ⟨idx8_0, by unfold noSl; decide, by decide, .inl ⟨by decide, d0⟩⟩
  · exact ⟨idx8_1, by unfold noSl; decide, by decide, .inl ⟨by decide, d1⟩⟩
  · exact ⟨idx8_2, by unfold noSl; decide, by decide, .inl ⟨by decide, d2⟩⟩
  · exact ⟨idx8_3, by unfold noSl; decide, by decide, .inl ⟨by decide, d3⟩⟩
  · exact ⟨idx8_4, by unfold noSl; decide, by decide, .inr (.inl ⟨by decide, by decide, d4⟩)⟩
  · exact ⟨idx8_5, by unfold noSl; decide, by decide, .inr (.inl ⟨by decide, by decide, d5⟩)⟩
  · exact ⟨idx8_6, by unfold noSl; decide, by decide, .inr (.inr ⟨by decide, d6⟩)⟩
  · exact ⟨idx8_7, by unfold noSl; decide, by decide, .inr (.inr ⟨by decide, d7⟩)⟩

def segF (bits x : Int) : List UInt8 := flipL bits (seg8 (lowV x 8)).data.toList
theorem segF_ok (bits x : Int) : noSl (segF bits x) ∧ (segF bits x).length ≤ 4 := by
  have h := lowV_bd x (n := 8) (by decide)
  obtain ⟨_, h2, h3, _⟩ := seg8_view h.1 h.2
  exact ⟨flip_noSl bits h2, by unfold segF; rw [flip_len]; simpa using h3⟩
theorem segs_step (bits : Int) (xs : List Int) (j : Nat) (hj : j < xs.length) : (xs.take (j + 1)).map (segF bits) = (xs.take j).map (segF bits) ++ [segF bits xs[j]] := by
  rw [List.take_succ_eq_append_getElem hj, List.map_append]; rfl
/-- what is kept behind the first j segments; behind the last one what is kept of all -/
def keptS (bits : Int) (xs : List Int) (j : Nat) : List (List UInt8) := if j < xs.length then stepsL [] ((xs.take j).map (segF bits)) else keepL [] (xs.map (segF bits))
theorem kept_step (bits : Int) (xs : List Int) (j : Nat) (hj : j < xs.length) : keptS bits xs (j + 1) = stepL (keptS bits xs j) (segF bits xs[j]) (decide (j + 1 = xs.length)) := by
  unfold keptS
  rw [if_pos hj]
  by_cases h : j + 1 = xs.length
  · have e : xs.map (segF bits) = (xs.take j).map (segF bits) ++ [segF bits xs[j]] := by
      rw [← segs_step bits xs j hj, h, List.take_of_length_le (Nat.le_refl _)]
    rw [if_neg (by omega), e, keep_append _ _ _ (by simp)]
    simp [keepL, h]
  · rw [if_pos (by omega), segs_step bits xs j hj, steps_append]
    simp [stepsL, h]
theorem steps_len : ∀ (r acc : List (List UInt8)), (stepsL acc r).length ≤ acc.length + r.length
  | [], acc => by simp [stepsL]
  | s :: r, acc => by
    have h1 := steps_len r (stepL acc s false)
    have h2 : (stepL acc s false).length ≤ acc.length + 1 := by
      unfold stepL
      split
      · simp
      · split <;> simp <;> omega
    rw [stepsL]; simp; omega
theorem kept_len (bits : Int) (xs : List Int) (j : Nat) (hj : j < xs.length) : (keptS bits xs j).length ≤ j := by
  unfold keptS
  rw [if_pos hj]
  have := steps_len ((xs.take j).map (segF bits)) []
  rw [List.length_map, List.length_take, List.length_nil] at this
  omega
theorem kept_all (bits : Int) (xs : List Int) : keptS bits xs xs.length = keepL [] (xs.map (segF bits)) := by unfold keptS; rw [if_neg (by omega)]
theorem Flip_as (s t : ByteArray) (bits : Int) (w : World) (hs : s.size ≤ maxLen) (h0 : 0 ≤ bits) (h1 : bits ≤ 18446744073709551615) (ht : t = mk (flipL bits s.data.toList)) :
    Calls Tryd.prog 22 #[.string s, .int .u64 bits] w fun e w' => e = .returned (.string t) ∧ Below w.heap.size w w' := by rw [ht]; exact FlipF_any s bits w hs h0 h1
theorem keep_bound : ∀ (r acc : List (List UInt8)), (keepL acc r).length ≤ acc.length + r.length
  | [], acc => by simp [keepL]
  | s :: r, acc => by
    have h1 := keep_bound r (stepL acc s r.isEmpty)
    have h2 : (stepL acc s r.isEmpty).length ≤ acc.length + 1 := by
      unfold stepL
      split
      · simp
      · rw [List.length_append]
        have : (if r.isEmpty = true then [([] : List UInt8)] else []).length ≤ 1 := by split <;> simp
        have h3 : (if dotsL s = 2 then acc.dropLast else acc).length ≤ acc.length := by split <;> simp
        omega
    rw [keepL]; simp; omega

set_option maxRecDepth 100000 in
set_option maxHeartbeats 8000000 in
theorem walk_TargetSegments (A : Option Addr) (cap : Nat) (xs : List Int) (bits : Int) (w : World) (hA : IArg .i64 w A cap xs) (hu : (Lit.int .u64 bits).wf = true) (he : Env w) :
    Calls Tryd.prog 7 #[.slice A xs.length cap, .int .u64 bits] w fun e w' => e = .returned (.bool true) ∧ Below w.heap.size w w' := by
  have HE := Lib.hid he
  obtain ⟨hb0, hb1⟩ := wfU hu
  obtain ⟨hcell, _, hlc, hcm⟩ := hA
  unfold maxLen at hcm
  obtain ⟨i0, hi, hz0, hz1, hz2⟩ := info_parts infoS2
  have HC := Lib.hid hcell
  clear he hcell hu
  by_cases h0 : xs.length < 1
  · go_enter Tryd.func7, Tryd.ntmps7
    go_wp2_with fail
    refine (awake_from HE.out (Below.refl _ _)).mono ?_
    rintro e w1 ⟨rfl, hb⟩
    go_wp2
    go_ret
    exact ⟨rfl, hb⟩
  by_cases h30 : 30 < xs.length
  · go_enter Tryd.func7, Tryd.ntmps7
    go_wp2_with fail
    refine (awake_from HE.out (Below.refl _ _)).mono ?_
    rintro e w1 ⟨rfl, hb⟩
    go_wp2
    go_ret
    exact ⟨rfl, hb⟩
  have hw1 : IntKind.i64.wrap ((xs.length : Int) - 1) = (xs.length : Int) - 1 := IntWalk.i64_in _ (by omega)
  go_enter Tryd.func7, Tryd.ntmps7
  go_wp2
  go_loopw [5, 6, 7, 8, 9] (fun p v i _ _ wr => ∃ (P : ByteArray) (j : Nat), p = .string P ∧ i = .int .i64 j ∧ j ≤ xs.length ∧ JoinT P ((xs.take j).map (segF bits)) (5 * j) ∧ TRow wr w.heap.size v (keptS bits xs j) ∧ Below w.heap.size w wr) (fun _ _ i _ _ _ => xs.length - (intOf i).toNat)
  case atStart => exact ⟨⟨#[]⟩, 0, rfl, rfl, Nat.zero_le _, ⟨rfl, by decide⟩, by unfold keptS; rw [if_pos (by omega)]; exact TRow.nil _ _, Below.refl _ _⟩
  case round =>
    obtain ⟨P, j, rfl, rfl, hj, hP, hrow, hbel⟩ := hrel
    have hPz := hP.2
    have HP := Lib.hid hP
    have HR := Lib.hid hrow
    have HB := Lib.hid hbel
    clear hP hrow hbel
    by_cases hlt : j < xs.length
    · obtain ⟨ad, ea, hab, hc⟩ := HC.out j xs[j] (List.getElem?_eq_getElem hlt)
      have hcr : wr.cell? (ad.add j) = some (.int .i64 xs[j]) := (HB.out.cell (p := ad.add j) (by rw [block_add]; exact hab)).trans hc
      have HT := Lib.hid (segs_step bits xs j hlt)
      have HKS := Lib.hid (kept_step bits xs j hlt)
      have hkl := kept_len bits xs j hlt
      have ⟨hsn, hsl⟩ := segF_ok bits xs[j]
      have hlv := lowV_bd xs[j] (n := 8) (by decide)
      obtain ⟨hix, _, hSz, hcs⟩ := seg8_view hlv.1 hlv.2
      obtain ⟨t, ht⟩ : ∃ t, t = mk (flipL bits (seg8 (lowV xs[j] 8)).data.toList) := ⟨_, rfl⟩
      have htl : t.data.toList = segF bits xs[j] := by rw [ht, mk_data]; rfl
      have htz : t.size ≤ 4 := by have := congrArg List.length htl; simp at this; omega
      have HTT := Lib.hid ht
      have HTL := Lib.hid htl
      have hdt : dotsL (segF bits xs[j]) = dotsL (seg8 (lowV xs[j] 8)).data.toList := flip_dots _ _
      have HDT := Lib.hid hdt
      unfold arr8 at hix
      generalize keptS bits xs j = acc at *
      generalize hmm : lowV xs[j] 8 = m at *
      have HM := Lib.hid hmm
      generalize seg8 m = S at *
      generalize segF bits xs[j] = sg at *
      generalize xs[j] = x at *
      subst ea
      clear hc hmm ht htl hdt hsn
      have HPJ : Hid (JoinT (P ++ ByteArray.mk #[47] ++ t) ((xs.take (j + 1)).map (segF bits)) (5 * (j + 1))) := by
        show JoinT _ _ _
        rw [HT.out]; exact HP.out.more t sg HTL.out (by omega)
      rcases hcs with ⟨m1, md⟩ | ⟨m1, m2, md⟩ | ⟨m1, md⟩
      · have HKE : Hid (keptS bits xs (j + 1) = acc ++ [t.data.toList]) := by show _ = _; rw [HKS.out, step_zero (by rw [HDT.out]; exact md), HTL.out]
        go_wp2_with fail
        refine (Low_any x 8 _ (by decide) (by decide)).mono ?_
        rintro e w' ⟨rfl, rfl⟩
        rw [HM.out]
        go_wp2_with fail
        refine (Low_any x 8 _ (by decide) (by decide)).mono ?_
        rintro e w' ⟨rfl, rfl⟩
        rw [HM.out]
        go_wp2_with fail
        refine (Flip_as S t bits _ (by unfold maxLen; omega) hb0 hb1 HTT.out).mono ?_
        rintro e wa ⟨rfl, hba⟩
        have HRA : Hid (TRow wa w.heap.size u6 acc) := HR.out.below hba
        have HBA : Hid (Below w.heap.size w wa) := HB.out.trans (hba.mono HB.out.size)
        have hsa := HBA.out.size
        clear hba hcr
        go_wp2_with fail
        refine (Flip_as S t bits _ (by unfold maxLen; omega) hb0 hb1 HTT.out).mono ?_
        rintro e wb ⟨rfl, hbb⟩
        have HRB : Hid (TRow wb w.heap.size u6 acc) := HRA.out.below hbb
        have HBB : Hid (Below w.heap.size w wb) := HBA.out.trans (hbb.mono HBA.out.size)
        have hsb := HBB.out.size
        clear hbb
        go_wp2_with (at_builtin; refine wpList_append_own _ rfl (.tmp 48) (.tmp 52) 38 rfl w.heap.size 9 i0 (.string ⟨#[]⟩) 1 16 Tryd.underlying38 hi hz0 hz1 hz2 rfl (by decide) _ _ _ rfl (World.ownsRow.alloc (w := wb) HRB.out _) ⟨wb.heap.size, 0, none⟩ 1 1 [.string t] rfl rfl ?c1b ?c2b ?c3b ?c4b ?c5b ?_)
        try (case c1b => exact cell_one_new _ _ _)
        case c2b => first | (intro u hu; simp at hu; subst hu; rfl) | rfl
        case c3b => unfold maxLen; omega
        case c4b => omega
        case c5b => first | (simp; omega) | omega
        intro v1 w1 hown hgrow _
        have HR1 : Hid (TRow w1 w.heap.size v1 (acc ++ [t.data.toList])) := TRow.more hown
        have HB1 : Hid (Below w.heap.size w w1) := Below.grown (HBB.out.alloc HBB.out.size _) hgrow (by simp; omega) (fun k hk => (World.ownsRow.lt HRB.out k hk).1)
        clear hown hgrow
        go_wp2
        go_roundw
        case rel => exact ⟨_, j + 1, rfl, by go_num, by omega, HPJ.out, by rw [HKE.out]; exact HR1.out, HB1.out⟩
        case measure => simp [intOf]; omega
      · have HST : Hid (keptS bits xs (j + 1) = acc ++ (if decide (j + 1 = xs.length) then [[]] else [])) := by show _ = _; rw [HKS.out, step_one (by rw [HDT.out]; exact md)]
        go_wp2_with fail
        refine (Low_any x 8 _ (by decide) (by decide)).mono ?_
        rintro e w' ⟨rfl, rfl⟩
        rw [HM.out]
        go_wp2_with fail
        refine (Low_any x 8 _ (by decide) (by decide)).mono ?_
        rintro e w' ⟨rfl, rfl⟩
        rw [HM.out]
        go_wp2_with fail
        refine (Flip_as S t bits _ (by unfold maxLen; omega) hb0 hb1 HTT.out).mono ?_
        rintro e wa ⟨rfl, hba⟩
        have HRA : Hid (TRow wa w.heap.size u6 acc) := HR.out.below hba
        have HBA : Hid (Below w.heap.size w wa) := HB.out.trans (hba.mono HB.out.size)
        have hsa := HBA.out.size
        clear hba hcr
        by_cases hlast : j + 1 = xs.length
        · have hq : ((j : Int) == (xs.length : Int) - 1) = true := by rw [beq_iff_eq]; omega
          have HKE : Hid (keptS bits xs (j + 1) = acc ++ [(ByteArray.mk #[]).data.toList]) := by show _ = _; rw [HST.out, decide_eq_true hlast]; rfl
          go_wp2_with (at_builtin; refine wpList_append_own _ rfl (.tmp 72) (.tmp 73) 38 rfl w.heap.size 9 i0 (.string ⟨#[]⟩) 1 16 Tryd.underlying38 hi hz0 hz1 hz2 rfl (by decide) _ _ _ rfl (World.ownsRow.alloc (w := wa) HRA.out _) ⟨wa.heap.size, 0, none⟩ 1 1 [.string (ByteArray.mk #[])] rfl rfl ?c1c ?c2c ?c3c ?c4c ?c5c ?_)
          try (case c1c => exact cell_one_new _ _ _)
          case c2c => first | (intro u hu; simp at hu; subst hu; rfl) | rfl
          case c3c => unfold maxLen; omega
          case c4c => omega
          case c5c => first | (simp; omega) | omega
          intro v1 w1 hown hgrow _
          have HR1 : Hid (TRow w1 w.heap.size v1 (acc ++ [(ByteArray.mk #[]).data.toList])) := TRow.more hown
          have HB1 : Hid (Below w.heap.size w w1) := Below.grown (HBA.out.alloc HBA.out.size _) hgrow (by simp; omega) (fun k hk => (World.ownsRow.lt HRA.out k hk).1)
          clear hown hgrow
          go_wp2
          go_roundw
          case rel => exact ⟨_, j + 1, rfl, by go_num, by omega, HPJ.out, by rw [HKE.out]; exact HR1.out, HB1.out⟩
          case measure => simp [intOf]; omega
        · have hq : ((j : Int) == (xs.length : Int) - 1) = false := by rw [beq_eq_false_iff_ne]; omega
          have HKE : Hid (keptS bits xs (j + 1) = acc) := by show _ = _; rw [HST.out, decide_eq_false hlast]; simp
          go_wp2
          go_roundw
          case rel => exact ⟨_, j + 1, rfl, by go_num, by omega, HPJ.out, by rw [HKE.out]; exact HRA.out, HBA.out⟩
          case measure => simp [intOf]; omega
      · have HST : Hid (keptS bits xs (j + 1) = acc.dropLast ++ (if decide (j + 1 = xs.length) then [[]] else [])) := by show _ = _; rw [HKS.out, step_two (by rw [HDT.out]; exact md)]
        obtain ⟨B6, cap6, eu6, hlc6, hcm6, hcl6, htk6⟩ := HR.out.view
        have HCL6 := Lib.hid hcl6
        clear hcl6
        unfold maxLen at hcm6
        subst eu6
        have HTK := Lib.hid htk6
        clear htk6
        go_wp2_with fail
        refine (Low_any x 8 _ (by decide) (by decide)).mono ?_
        rintro e w' ⟨rfl, rfl⟩
        rw [HM.out]
        go_wp2_with fail
        refine (Low_any x 8 _ (by decide) (by decide)).mono ?_
        rintro e w' ⟨rfl, rfl⟩
        rw [HM.out]
        go_wp2_with fail
        refine (Flip_as S t bits _ (by unfold maxLen; omega) hb0 hb1 HTT.out).mono ?_
        rintro e wa ⟨rfl, hba⟩
        have HRA : Hid (TRow wa w.heap.size (.slice B6 acc.length cap6) acc) := HR.out.below hba
        have HBA : Hid (Below w.heap.size w wa) := HB.out.trans (hba.mono HB.out.size)
        have hsa := HBA.out.size
        clear hba hcr
        by_cases hne : 0 < acc.length
        · obtain ⟨ad6, e6, _⟩ := HCL6.out 0 hne
          subst e6
          have HD : Hid (TRow wa w.heap.size (.slice (some ad6) (acc.length - 1) cap6) acc.dropLast) := by
            obtain ⟨B7, cap7, e7, _, _, _, htk7⟩ := HRA.out.view
            injection e7 with e71 e72 e73
            subst e71 e73
            have := htk7 (acc.length - 1) (by omega)
            rw [← List.dropLast_eq_take] at this
            exact this
          obtain ⟨dl, hdl⟩ : ∃ dl, dl = acc.dropLast := ⟨_, rfl⟩
          have hdn : dl.length ≤ 30 := by rw [hdl]; simp; omega
          rw [← hdl] at HST HD
          clear hdl
          have hsub : IntKind.i64.wrap ((acc.length : Int) - 1) = ((acc.length - 1 : Nat) : Int) := by rw [IntWalk.i64_in _ (by omega)]; omega
          by_cases hlast : j + 1 = xs.length
          · have hq : ((j : Int) == (xs.length : Int) - 1) = true := by rw [beq_iff_eq]; omega
            have HKE : Hid (keptS bits xs (j + 1) = dl ++ [(ByteArray.mk #[]).data.toList]) := by show _ = _; rw [HST.out, decide_eq_true hlast]; rfl
            go_wp2_with (at_builtin; refine wpList_append_own _ rfl (.tmp 72) (.tmp 73) 38 rfl w.heap.size 9 i0 (.string ⟨#[]⟩) 1 16 Tryd.underlying38 hi hz0 hz1 hz2 rfl (by decide) _ _ _ rfl (World.ownsRow.alloc (w := wa) HD.out _) ⟨wa.heap.size, 0, none⟩ 1 1 [.string (ByteArray.mk #[])] rfl rfl ?c1d ?c2d ?c3d ?c4d ?c5d ?_)
            try (case c1d => exact cell_one_new _ _ _)
            case c2d => first | (intro u hu; simp at hu; subst hu; rfl) | rfl
            case c3d => unfold maxLen; omega
            case c4d => omega
            case c5d => first | (simp; omega) | omega
            intro v1 w1 hown hgrow _
            have HR1 : Hid (TRow w1 w.heap.size v1 (dl ++ [(ByteArray.mk #[]).data.toList])) := TRow.more hown
            have HB1 : Hid (Below w.heap.size w w1) := Below.grown (HBA.out.alloc HBA.out.size _) hgrow (by simp; omega) (fun k hk => (World.ownsRow.lt HD.out k hk).1)
            clear hown hgrow
            go_wp2
            go_roundw
            case rel => exact ⟨_, j + 1, rfl, by go_num, by omega, HPJ.out, by rw [HKE.out]; exact HR1.out, HB1.out⟩
            case measure => simp [intOf]; omega
          · have hq : ((j : Int) == (xs.length : Int) - 1) = false := by rw [beq_eq_false_iff_ne]; omega
            have HKE : Hid (keptS bits xs (j + 1) = dl) := by show _ = _; rw [HST.out, decide_eq_false hlast]; simp
            go_wp2
            go_roundw
            case rel => exact ⟨_, j + 1, rfl, by go_num, by omega, HPJ.out, by rw [HKE.out]; exact HD.out, HBA.out⟩
            case measure => simp [intOf]; omega
        · have hnil : acc = [] := List.length_eq_zero_iff.1 (by omega)
          subst hnil
          have HD : Hid (TRow wa w.heap.size (.slice B6 0 cap6) []) := HRA.out
          clear hne
          by_cases hlast : j + 1 = xs.length
          · have hq : ((j : Int) == (xs.length : Int) - 1) = true := by rw [beq_iff_eq]; omega
            have HKE : Hid (keptS bits xs (j + 1) = ([] : List (List UInt8)) ++ [(ByteArray.mk #[]).data.toList]) := by show _ = _; rw [HST.out, decide_eq_true hlast]; rfl
            go_wp2_with (at_builtin; refine wpList_append_own _ rfl (.tmp 72) (.tmp 73) 38 rfl w.heap.size 9 i0 (.string ⟨#[]⟩) 1 16 Tryd.underlying38 hi hz0 hz1 hz2 rfl (by decide) _ _ _ rfl (World.ownsRow.alloc (w := wa) HD.out _) ⟨wa.heap.size, 0, none⟩ 1 1 [.string (ByteArray.mk #[])] rfl rfl ?c1e ?c2e ?c3e ?c4e ?c5e ?_)
            try (case c1e => exact cell_one_new _ _ _)
            case c2e => first | (intro u hu; simp at hu; subst hu; rfl) | rfl
            case c3e => unfold maxLen; omega
            case c4e => omega
            case c5e => first | (simp; omega) | omega
            intro v1 w1 hown hgrow _
            have HR1 : Hid (TRow w1 w.heap.size v1 (([] : List (List UInt8)) ++ [(ByteArray.mk #[]).data.toList])) := TRow.more hown
            have HB1 : Hid (Below w.heap.size w w1) := Below.grown (HBA.out.alloc HBA.out.size _) hgrow (by simp; omega) (fun k hk => (World.ownsRow.lt HD.out k hk).1)
            clear hown hgrow
            go_wp2
            go_roundw
            case rel => exact ⟨_, j + 1, rfl, by go_num, by omega, HPJ.out, by rw [HKE.out]; exact HR1.out, HB1.out⟩
            case measure => simp [intOf]; omega
          · have hq : ((j : Int) == (xs.length : Int) - 1) = false := by rw [beq_eq_false_iff_ne]; omega
            have HKE : Hid (keptS bits xs (j + 1) = ([] : List (List UInt8))) := by show _ = _; rw [HST.out, decide_eq_false hlast]; simp
            go_wp2
            go_roundw
            case rel => exact ⟨_, j + 1, rfl, by go_num, by omega, HPJ.out, by rw [HKE.out]; exact HD.out, HBA.out⟩
            case measure => simp [intOf]; omega
    · obtain rfl : j = xs.length := by omega
      obtain ⟨acc, hacc⟩ : ∃ acc, acc = keepL [] (xs.map (segF bits)) := ⟨_, rfl⟩
      have HRR : Hid (TRow wr w.heap.size u6 acc) := by have := HR.out; rw [kept_all, ← hacc] at this; exact this
      have hal : acc.length ≤ 31 := by rw [hacc]; have := keep_bound (xs.map (segF bits)) []; rw [List.length_map, List.length_nil] at this; omega
      have hel : ∀ t ∈ acc, t.length ≤ 4 := by
        rw [hacc]
        exact keep_all (Q := fun t => t.length ≤ 4) (by decide) _ _ (by simp) (fun s hs _ => by obtain ⟨x, _, rfl⟩ := List.mem_map.1 hs; exact (segF_ok bits x).2)
      have HCE : Hid (cleanL P.data.toList = joinS acc) := by
        have h1 := HP.out.1
        rw [List.take_of_length_le (Nat.le_refl _)] at h1
        show _ = _
        rw [h1, clean_join (by intro h; have := congrArg List.length h; rw [List.length_map, List.length_nil] at this; omega) (by intro t ht; obtain ⟨x, _, rfl⟩ := List.mem_map.1 ht; exact (segF_ok bits x).1), ← hacc]
      obtain ⟨B6, cap6, eu6, hlc6, hcm6, hcl6, _⟩ := HRR.out.view
      unfold maxLen at hcm6
      subst eu6
      have HC6 := Lib.hid hcl6
      have HEL := Lib.hid hel
      clear hcl6 hel hacc HR HRR hw1
      go_wp2
      go_loop [10, 11] (fun q i => ∃ (Q : ByteArray) (m : Nat), q = .string Q ∧ i = .int .i64 m ∧ m ≤ acc.length ∧ JoinT Q (acc.take m) (5 * m)) (fun _ i => acc.length - (intOf i).toNat)
      case atStart => exact ⟨⟨#[]⟩, 0, rfl, rfl, Nat.zero_le _, rfl, by decide⟩
      case round =>
        obtain ⟨Q, m, rfl, rfl, hm, hQ⟩ := hrel
        have hQz := hQ.2
        have HQ := Lib.hid hQ
        clear hQ
        by_cases hlt2 : m < acc.length
        · obtain ⟨ad, ea, hc⟩ := HC6.out m hlt2
          have hml := HEL.out acc[m] (List.getElem_mem hlt2)
          obtain ⟨y, hy⟩ : ∃ y, y = mk acc[m] := ⟨_, rfl⟩
          have hyz : y.size ≤ 4 := by rw [hy, mk_size]; exact hml
          rw [← hy] at hc
          have HQ2 : Hid (JoinT (Q ++ ByteArray.mk #[47] ++ y) (acc.take (m + 1)) (5 * (m + 1))) := by
            show JoinT _ _ _
            rw [List.take_succ_eq_append_getElem hlt2]
            exact HQ.out.more y _ (by rw [hy, mk_data]) (by omega)
          clear hy hml
          subst ea
          go_wp2
          go_round
          case rel => exact ⟨_, m + 1, rfl, by go_num, by omega, HQ2.out⟩
          case measure => simp [intOf]; omega
        · obtain rfl : m = acc.length := by omega
          have HQC : Hid (Q = mk (cleanL P.data.toList)) := by
            have := HQ.out.1
            rw [List.take_of_length_le (Nat.le_refl _)] at this
            show _ = _
            rw [HCE.out, ← this]; exact (mk_eq Q).symm
          go_wp2_with fail
          refine (Clean_as P Q _ (by omega) HQC.out).mono ?_
          rintro e w1 ⟨rfl, hb1⟩
          have HB1 : Hid (Below w.heap.size w w1) := HB.out.trans (hb1.mono HB.out.size)
          clear hb1
          go_wp2_with fail
          refine (awake_from HE.out HB1.out).mono ?_
          rintro e w2 ⟨rfl, hb⟩
          go_wp2
          go_ret
          exact ⟨rfl, hb⟩
end Go.Proofs.YtfamllkmmiajoaaDoor
