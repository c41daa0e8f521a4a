/-
  The contract of the document's own Clean (layer 4), over this seat's program: it returns the path without its dot segments, and nothing that was there has turned. Conditions: the path has at most 100,000 bytes.
-/
import Derived.Test.YtfamllkmmiajoaaDoorHList
import Derived.Test.YtfamllkmmiajoaaDoorHLawCleans
import Derived.Test.YtfamllkmmiajoaaDoorHRef
namespace Go.Proofs.YtfamllkmmiajoaaDoor
open Go.RowKit

/-- what holds at the head of a round of the document's Clean: l is the path with its slash -/
structure RefAt (l : List UInt8) (all acc : List (List UInt8)) (f k : Nat) : Prop where
  fk : f ≤ k
  kl : k ≤ l.length + 1
  nos : ∀ b ∈ (l.drop f).take (k - f), b ≠ 47
  fin : k = l.length + 1 → f = l.length + 1
  len : acc.length ≤ k
  eqn : all = if f ≤ l.length then keepL acc (parts 47 (l.drop f)) else acc
theorem RefAt.skip {l : List UInt8} {all acc : List (List UInt8)} {f k : Nat} (h : RefAt l all acc f k) (hk : k < l.length) (h47 : l[k] ≠ 47) : RefAt l all acc f (k + 1) :=
  ⟨by have := h.fk; omega, by omega, take_more h.fk hk h47 h.nos, by omega, by have := h.len; omega, h.eqn⟩
theorem RefAt.slash {l : List UInt8} {all acc : List (List UInt8)} {f k : Nat} (h : RefAt l all acc f k) (hk : k < l.length) (h47 : l[k] = 47) (ac2 : List (List UInt8))
    (e : ac2 = stepL acc ((l.drop f).take (k - f)) false) : RefAt l all ac2 (k + 1) (k + 1) := by
  have hs := seg_slash h.fk hk h47 h.nos
  refine ⟨Nat.le_refl _, by omega, by simp, by omega, ?_, ?_⟩
  · rw [e]
    have := h.len
    unfold stepL
    split
    · simp; omega
    · split <;> simp <;> omega
  · have hf : f ≤ l.length := by have := h.fk; omega
    rw [h.eqn, if_pos hf, if_pos (by omega), hs, keepL, e]
    congr 2
    cases h : parts 47 (l.drop (k + 1))
    · exact absurd h (parts_ne _ _)
    · rfl
theorem RefAt.stop {l : List UInt8} {all acc : List (List UInt8)} {f k : Nat} (h : RefAt l all acc f k) (hk : k = l.length) (ac2 : List (List UInt8))
    (e : ac2 = stepL acc ((l.drop f).take (k - f)) true) : RefAt l all ac2 (k + 1) (k + 1) := by
  have hs := seg_end hk h.nos
  refine ⟨Nat.le_refl _, by omega, by simp, by omega, ?_, ?_⟩
  · rw [e]
    have := h.len
    unfold stepL
    split
    · simp; omega
    · split <;> simp <;> omega
  · have hf : f ≤ l.length := by have := h.fk; omega
    rw [h.eqn, if_pos hf, if_neg (by omega), hs, e]
    simp [keepL]
theorem refDots_as (t : ByteArray) (d : Int) (w : World) (ht : t.size ≤ maxLen) (hd : d = dotsL t.data.toList) :
    Calls Tryd.prog 39 #[.string t] w fun e w' => e = .returned (.int .i64 d) ∧ Below w.heap.size w w' := by rw [hd]; exact refDots_any t w ht
theorem joinS_take_len (acc : List (List UInt8)) (m : Nat) : (joinS (acc.take m)).length ≤ (joinS acc).length := by
  conv => rhs; rw [← List.take_append_drop m acc, joinS_append, List.length_append]
  omega
theorem joinS_cnt : ∀ acc : List (List UInt8), acc.length ≤ (joinS acc).length
  | [] => Nat.le_refl _
  | s :: r => by have := joinS_cnt r; simp [joinS]; omega
theorem mem_joinS_len {acc : List (List UInt8)} {s : List UInt8} (h : s ∈ acc) : s.length ≤ (joinS acc).length := by
  induction acc with
  | nil => simp at h
  | cons x r ih =>
    simp only [joinS, List.length_cons, List.length_append]
    rcases List.mem_cons.1 h with rfl | h
    · omega
    · have := ih h; omega
theorem ext_data (s : ByteArray) (f k : Nat) : (s.extract f k).data.toList = (s.data.toList.drop f).take (k - f) := by rw [Lib.extract_eq]

theorem strip_cons {l : List UInt8} (h : l.head? = some 47) : l = 47 :: stripS l := by
  cases l with
  | nil => simp at h
  | cons x r => simp at h; subst h; simp [stripS]
theorem strip_other {l : List UInt8} (h : ¬ l.head? = some 47) : stripS l = l := by unfold stripS; rw [if_neg h]

set_option maxRecDepth 100000 in
set_option maxHeartbeats 16000000 in
theorem refClean_any (p : ByteArray) (w : World) (hp : p.size ≤ 100000) :
    Calls Tryd.prog 16 #[.string p] w fun e w' => e = .returned (.string (mk (cleanL p.data.toList))) ∧ Below w.heap.size w w' := by
  obtain ⟨i0, hi, hz0, hz1, hz2⟩ := info_parts infoS2
  obtain ⟨C, hC⟩ : ∃ C, C = mk (cleanL p.data.toList) := ⟨_, rfl⟩
  obtain ⟨all, hall⟩ : ∃ all, all = keepL [] (parts 47 (stripS p.data.toList)) := ⟨_, rfl⟩
  have HCJ : Hid (C = mk (joinS all)) := by show _ = _; rw [hC, hall]; rfl
  have hjl : (joinS all).length ≤ 100001 := by
    have h1 := clean_len p.data.toList
    rw [show p.data.toList.length = p.size by simp] at h1
    have h2 : cleanL p.data.toList = joinS all := by rw [hall]; rfl
    rw [← h2]; omega
  have hne : all ≠ [] := by rw [hall]; exact keep_ne _ _ (parts_ne _ _)
  rw [← hC]
  have HJL := Lib.hid hjl
  have HNE := Lib.hid hne
  have HAL := Lib.hid hall
  clear hC hall hjl hne
  have HS : Hid (∀ Q : ByteArray, Q.data.toList = 47 :: stripS p.data.toList → RefAt Q.data.toList all [] 1 1) := by
    intro Q hQ
    refine ⟨Nat.le_refl _, by omega, by simp, by rw [hQ]; simp, by simp, ?_⟩
    rw [HAL.out, hQ, if_pos (by simp)]; rfl
  have hpl : p.data.toList.length = p.size := by simp
  by_cases hh : p.data.toList.head? = some 47
  · have h0 : 0 < p.size := by
      cases h : p.data.toList with
      | nil => rw [h] at hh; cases hh
      | cons _ _ => have := congrArg List.length h; rw [hpl] at this; simp at this; omega
    have hem : p.toList.isEmpty = false := ba_notEmpty (by intro h; rw [h] at hh; cases hh)
    have hb0 := head_at h0 hh
    have HST := Lib.hid (HS.out p (strip_cons hh))
    clear hh hpl HS
    go_enter Tryd.func16, Tryd.ntmps16
    go_wp2
    clear hb0 hem
    have hQz : p.size ≤ 100001 := by omega
    clear hp HAL
    generalize p = Q at *
    have hQL : Q.data.toList.length = Q.size := by simp
    have HQL := Lib.hid hQL
    clear hQL
    go_loopw [3, 4, 5, 6, 7] (fun v fr i _ _ wr => ∃ (f k : Nat) (acc : List (List UInt8)), fr = .int .i64 f ∧ i = .int .i64 k ∧ RefAt Q.data.toList all acc f k ∧ TRow wr w.heap.size v acc ∧ Below w.heap.size w wr) (fun _ _ i _ _ _ => Q.size + 1 - (intOf i).toNat)
    case atStart => exact ⟨1, 1, [], rfl, rfl, HST.out, TRow.nil _ _, Below.refl _ _⟩
    case round =>
      obtain ⟨f, k, acc, rfl, rfl, hrf, hrow, hbel⟩ := hrel
      have hfk := hrf.fk
      have hkl : k ≤ Q.size + 1 := by have := hrf.kl; rw [HQL.out] at this; exact this
      have hal := hrf.len
      have HRF := Lib.hid hrf
      have HR := Lib.hid hrow
      have HB := Lib.hid hbel
      clear hrf hrow hbel
      by_cases hle : k ≤ Q.size
      · by_cases hlt : k < Q.size
        · have hltl : k < Q.data.toList.length := by rw [HQL.out]; exact hlt
          have eg : Q.data.toList[k] = Q[k] := rfl
          have hq := byte47 Q[k]
          by_cases h47 : Q[k] = 47
          · have hq2 : ((Q[k].toNat : Int) != 47) = false := by rw [hq]; simpa using h47
            obtain ⟨t, ht⟩ : ∃ t, t = Q.extract f k := ⟨_, rfl⟩
            have htl : t.data.toList = (Q.data.toList.drop f).take (k - f) := by rw [ht]; exact ext_data Q f k
            have htz : t.size ≤ 100001 := by
              have := congrArg List.length htl
              rw [List.length_take, List.length_drop, HQL.out] at this
              simp at this; omega
            obtain ⟨d, hd⟩ : ∃ d, d = dotsL t.data.toList := ⟨_, rfl⟩
            have hdc := dots_cases t.data.toList
            rw [← hd] at hdc
            have HD := Lib.hid hd
            have HNX : Hid (∀ ac2, ac2 = stepL acc t.data.toList false → RefAt Q.data.toList all ac2 (k + 1) (k + 1)) := by
              intro ac2 h2; exact HRF.out.slash hltl (by rw [eg]; exact h47) ac2 (by rw [h2, htl])
            have HTE := Lib.hid ht
            clear htl hd ht hq h47 eg
            rcases hdc with rfl | rfl | rfl
            · have HN : Hid (RefAt Q.data.toList all (acc ++ [t.data.toList]) (k + 1) (k + 1)) := HNX.out _ (step_zero HD.out.symm).symm
              go_wp2_with fail
              rw [← HTE.out]
              refine (refDots_as t _ _ (by unfold maxLen; omega) HD.out).mono ?_
              rintro e wa ⟨rfl, hba⟩
              have HRA : Hid (TRow wa w.heap.size u3 acc) := HR.out.below hba
              have HBA : Hid (Below w.heap.size w wa) := HB.out.trans (hba.mono HB.out.size)
              have hsa := HBA.out.size
              clear hba
              go_wp2_with (at_builtin; refine wpList_append_own _ rfl (.tmp 45) (.tmp 47) 38 rfl w.heap.size 9 i0 (.string ⟨#[]⟩) 1 16 Tryd.underlying38 hi hz0 hz1 hz2 rfl (by decide) _ _ _ rfl (World.ownsRow.alloc (w := wa) HRA.out _) ⟨wa.heap.size, 0, none⟩ 1 1 [.string t] rfl rfl ?c1b ?c2b ?c3b ?c4b ?c5b ?_)
              try (case c1b => exact cell_one_new _ _ _)
              case c2b => first | (intro u hu; simp at hu; subst hu; rfl) | rfl
              case c3b => unfold maxLen; omega
              case c4b => omega
              case c5b => first | (simp; omega) | omega
              intro v1 w1 hown hgrow _
              have HR1 : Hid (TRow w1 w.heap.size v1 (acc ++ [t.data.toList])) := TRow.more hown
              have HB1 : Hid (Below w.heap.size w w1) := Below.grown (HBA.out.alloc HBA.out.size _) hgrow (by simp; omega) (fun k hk => (World.ownsRow.lt HRA.out k hk).1)
              clear hown hgrow
              go_wp2
              go_roundw
              case rel => exact ⟨k + 1, k + 1, _, by go_num, by go_num, HN.out, HR1.out, HB1.out⟩
              case measure => simp [intOf]; omega
            · have HN : Hid (RefAt Q.data.toList all acc (k + 1) (k + 1)) := HNX.out _ (by rw [step_one HD.out.symm]; simp)
              go_wp2_with fail
              rw [← HTE.out]
              refine (refDots_as t _ _ (by unfold maxLen; omega) HD.out).mono ?_
              rintro e wa ⟨rfl, hba⟩
              have HRA : Hid (TRow wa w.heap.size u3 acc) := HR.out.below hba
              have HBA : Hid (Below w.heap.size w wa) := HB.out.trans (hba.mono HB.out.size)
              have hsa := HBA.out.size
              clear hba
              go_wp2
              go_roundw
              case rel => exact ⟨k + 1, k + 1, _, by go_num, by go_num, HN.out, HRA.out, HBA.out⟩
              case measure => simp [intOf]; omega
            · obtain ⟨B6, cap6, eu6, hlc6, hcm6, hcl6, _⟩ := HR.out.view
              have HCL6 := Lib.hid hcl6
              clear hcl6
              unfold maxLen at hcm6
              subst eu6
              go_wp2_with fail
              rw [← HTE.out]
              refine (refDots_as t _ _ (by unfold maxLen; omega) HD.out).mono ?_
              rintro e wa ⟨rfl, hba⟩
              have HRA : Hid (TRow wa w.heap.size (.slice B6 acc.length cap6) acc) := HR.out.below hba
              have HBA : Hid (Below w.heap.size w wa) := HB.out.trans (hba.mono HB.out.size)
              have hsa := HBA.out.size
              clear hba
              by_cases hne : 0 < acc.length
              · obtain ⟨ad6, e6, _⟩ := HCL6.out 0 hne
                subst e6
                have HDD : Hid (TRow wa w.heap.size (.slice (some ad6) (acc.length - 1) cap6) acc.dropLast) := by
                  obtain ⟨B7, cap7, e7, _, _, _, htk7⟩ := HRA.out.view
                  injection e7 with e71 e72 e73
                  subst e71 e73
                  have := htk7 (acc.length - 1) (by omega)
                  rw [← List.dropLast_eq_take] at this
                  exact this
                have HS2 : Hid (stepL acc t.data.toList false = acc.dropLast ++ (if false then [[]] else [])) := step_two HD.out.symm
                obtain ⟨dl, hdl⟩ : ∃ dl, dl = acc.dropLast := ⟨_, rfl⟩
                have hdn : dl.length ≤ acc.length := by rw [hdl]; simp
                rw [← hdl] at HDD HS2
                clear hdl
                have hsub : IntKind.i64.wrap ((acc.length : Int) - 1) = ((acc.length - 1 : Nat) : Int) := by rw [IntWalk.i64_in _ (by omega)]; omega
                have HN : Hid (RefAt Q.data.toList all dl (k + 1) (k + 1)) := HNX.out _ (by rw [HS2.out]; simp)
                go_wp2
                go_roundw
                case rel => exact ⟨k + 1, k + 1, _, by go_num, by go_num, HN.out, HDD.out, HBA.out⟩
                case measure => simp [intOf]; omega
              · have hnil : acc = [] := List.length_eq_zero_iff.1 (by omega)
                subst hnil
                have HDD : Hid (TRow wa w.heap.size (.slice B6 0 cap6) []) := HRA.out
                clear hne
                have HN : Hid (RefAt Q.data.toList all ([] : List (List UInt8)) (k + 1) (k + 1)) := HNX.out _ (by rw [step_two HD.out.symm]; rfl)
                go_wp2
                go_roundw
                case rel => exact ⟨k + 1, k + 1, _, by go_num, by go_num, HN.out, HDD.out, HBA.out⟩
                case measure => simp [intOf]; omega
          · have hq2 : ((Q[k].toNat : Int) != 47) = true := by rw [hq]; simpa using h47
            have HN : Hid (RefAt Q.data.toList all acc f (k + 1)) := HRF.out.skip hltl (by rw [eg]; exact h47)
            clear hq h47 eg
            go_wp2
            go_roundw
            case rel => exact ⟨f, k + 1, acc, rfl, by go_num, HN.out, HR.out, HB.out⟩
            case measure => simp [intOf]; omega
        · have hke : ((k : Int) == (Q.size : Int)) = true := by rw [beq_iff_eq]; omega
          obtain ⟨t, ht⟩ : ∃ t, t = Q.extract f k := ⟨_, rfl⟩
          have htl : t.data.toList = (Q.data.toList.drop f).take (k - f) := by rw [ht]; exact ext_data Q f k
          have htz : t.size ≤ 100001 := by
            have := congrArg List.length htl
            rw [List.length_take, List.length_drop, HQL.out] at this
            simp at this; omega
          obtain ⟨d, hd⟩ : ∃ d, d = dotsL t.data.toList := ⟨_, rfl⟩
          have hdc := dots_cases t.data.toList
          rw [← hd] at hdc
          have HD := Lib.hid hd
          have HNX : Hid (∀ ac2, ac2 = stepL acc t.data.toList true → RefAt Q.data.toList all ac2 (k + 1) (k + 1)) := by
            intro ac2 h2; exact HRF.out.stop (by rw [HQL.out]; omega) ac2 (by rw [h2, htl])
          have HTE := Lib.hid ht
          clear htl hd ht
          rcases hdc with rfl | rfl | rfl
          · have HN : Hid (RefAt Q.data.toList all (acc ++ [t.data.toList]) (k + 1) (k + 1)) := HNX.out _ (step_zero HD.out.symm).symm
            go_wp2_with fail
            rw [← HTE.out]
            refine (refDots_as t _ _ (by unfold maxLen; omega) HD.out).mono ?_
            rintro e wa ⟨rfl, hba⟩
            have HRA : Hid (TRow wa w.heap.size u3 acc) := HR.out.below hba
            have HBA : Hid (Below w.heap.size w wa) := HB.out.trans (hba.mono HB.out.size)
            have hsa := HBA.out.size
            clear hba
            go_wp2_with (at_builtin; refine wpList_append_own _ rfl (.tmp 45) (.tmp 47) 38 rfl w.heap.size 9 i0 (.string ⟨#[]⟩) 1 16 Tryd.underlying38 hi hz0 hz1 hz2 rfl (by decide) _ _ _ rfl (World.ownsRow.alloc (w := wa) HRA.out _) ⟨wa.heap.size, 0, none⟩ 1 1 [.string t] rfl rfl ?c1c ?c2c ?c3c ?c4c ?c5c ?_)
            try (case c1c => exact cell_one_new _ _ _)
            case c2c => first | (intro u hu; simp at hu; subst hu; rfl) | rfl
            case c3c => unfold maxLen; omega
            case c4c => omega
            case c5c => first | (simp; omega) | omega
            intro v1 w1 hown hgrow _
            have HR1 : Hid (TRow w1 w.heap.size v1 (acc ++ [t.data.toList])) := TRow.more hown
            have HB1 : Hid (Below w.heap.size w w1) := Below.grown (HBA.out.alloc HBA.out.size _) hgrow (by simp; omega) (fun k hk => (World.ownsRow.lt HRA.out k hk).1)
            clear hown hgrow
            go_wp2
            go_roundw
            case rel => exact ⟨k + 1, k + 1, _, by go_num, by go_num, HN.out, HR1.out, HB1.out⟩
            case measure => simp [intOf]; omega
          · have HN : Hid (RefAt Q.data.toList all (acc ++ [(ByteArray.mk #[]).data.toList]) (k + 1) (k + 1)) := HNX.out _ (by rw [step_one HD.out.symm]; rfl)
            go_wp2_with fail
            rw [← HTE.out]
            refine (refDots_as t _ _ (by unfold maxLen; omega) HD.out).mono ?_
            rintro e wa ⟨rfl, hba⟩
            have HRA : Hid (TRow wa w.heap.size u3 acc) := HR.out.below hba
            have HBA : Hid (Below w.heap.size w wa) := HB.out.trans (hba.mono HB.out.size)
            have hsa := HBA.out.size
            clear hba
            go_wp2_with (at_builtin; refine wpList_append_own _ rfl (.tmp 65) (.tmp 66) 38 rfl w.heap.size 9 i0 (.string ⟨#[]⟩) 1 16 Tryd.underlying38 hi hz0 hz1 hz2 rfl (by decide) _ _ _ rfl (World.ownsRow.alloc (w := wa) HRA.out _) ⟨wa.heap.size, 0, none⟩ 1 1 [.string (ByteArray.mk #[])] rfl rfl ?c1d ?c2d ?c3d ?c4d ?c5d ?_)
            try (case c1d => exact cell_one_new _ _ _)
            case c2d => first | (intro u hu; simp at hu; subst hu; rfl) | rfl
            case c3d => unfold maxLen; omega
            case c4d => omega
            case c5d => first | (simp; omega) | omega
            intro v1 w1 hown hgrow _
            have HR1 : Hid (TRow w1 w.heap.size v1 (acc ++ [(ByteArray.mk #[]).data.toList])) := TRow.more hown
            have HB1 : Hid (Below w.heap.size w w1) := Below.grown (HBA.out.alloc HBA.out.size _) hgrow (by simp; omega) (fun k hk => (World.ownsRow.lt HRA.out k hk).1)
            clear hown hgrow
            go_wp2
            go_roundw
            case rel => exact ⟨k + 1, k + 1, _, by go_num, by go_num, HN.out, HR1.out, HB1.out⟩
            case measure => simp [intOf]; omega
          · obtain ⟨B6, cap6, eu6, hlc6, hcm6, hcl6, _⟩ := HR.out.view
            have HCL6 := Lib.hid hcl6
            clear hcl6
            unfold maxLen at hcm6
            subst eu6
            go_wp2_with fail
            rw [← HTE.out]
            refine (refDots_as t _ _ (by unfold maxLen; omega) HD.out).mono ?_
            rintro e wa ⟨rfl, hba⟩
            have HRA : Hid (TRow wa w.heap.size (.slice B6 acc.length cap6) acc) := HR.out.below hba
            have HBA : Hid (Below w.heap.size w wa) := HB.out.trans (hba.mono HB.out.size)
            have hsa := HBA.out.size
            clear hba
            by_cases hne : 0 < acc.length
            · obtain ⟨ad6, e6, _⟩ := HCL6.out 0 hne
              subst e6
              have HDD : Hid (TRow wa w.heap.size (.slice (some ad6) (acc.length - 1) cap6) acc.dropLast) := by
                obtain ⟨B7, cap7, e7, _, _, _, htk7⟩ := HRA.out.view
                injection e7 with e71 e72 e73
                subst e71 e73
                have := htk7 (acc.length - 1) (by omega)
                rw [← List.dropLast_eq_take] at this
                exact this
              have HS2 : Hid (stepL acc t.data.toList true = acc.dropLast ++ (if true then [[]] else [])) := step_two HD.out.symm
              obtain ⟨dl, hdl⟩ : ∃ dl, dl = acc.dropLast := ⟨_, rfl⟩
              have hdn : dl.length ≤ acc.length := by rw [hdl]; simp
              rw [← hdl] at HDD HS2
              clear hdl
              have hsub : IntKind.i64.wrap ((acc.length : Int) - 1) = ((acc.length - 1 : Nat) : Int) := by rw [IntWalk.i64_in _ (by omega)]; omega
              have HN : Hid (RefAt Q.data.toList all (dl ++ [(ByteArray.mk #[]).data.toList]) (k + 1) (k + 1)) := HNX.out _ HS2.out.symm
              go_wp2_with (at_builtin; refine wpList_append_own _ rfl (.tmp 65) (.tmp 66) 38 rfl w.heap.size 9 i0 (.string ⟨#[]⟩) 1 16 Tryd.underlying38 hi hz0 hz1 hz2 rfl (by decide) _ _ _ rfl (World.ownsRow.alloc (w := wa) HDD.out _) ⟨wa.heap.size, 0, none⟩ 1 1 [.string (ByteArray.mk #[])] rfl rfl ?c1e ?c2e ?c3e ?c4e ?c5e ?_)
              try (case c1e => exact cell_one_new _ _ _)
              case c2e => first | (intro u hu; simp at hu; subst hu; rfl) | rfl
              case c3e => unfold maxLen; omega
              case c4e => omega
              case c5e => first | (simp; omega) | omega
              intro v1 w1 hown hgrow _
              have HR1 : Hid (TRow w1 w.heap.size v1 (dl ++ [(ByteArray.mk #[]).data.toList])) := TRow.more hown
              have HB1 : Hid (Below w.heap.size w w1) := Below.grown (HBA.out.alloc HBA.out.size _) hgrow (by simp; omega) (fun k hk => (World.ownsRow.lt HDD.out k hk).1)
              clear hown hgrow
              go_wp2
              go_roundw
              case rel => exact ⟨k + 1, k + 1, _, by go_num, by go_num, HN.out, HR1.out, HB1.out⟩
              case measure => simp [intOf]; omega
            · have hnil : acc = [] := List.length_eq_zero_iff.1 (by omega)
              subst hnil
              have HDD : Hid (TRow wa w.heap.size (.slice B6 0 cap6) []) := HRA.out
              clear hne
              have HN : Hid (RefAt Q.data.toList all (([] : List (List UInt8)) ++ [(ByteArray.mk #[]).data.toList]) (k + 1) (k + 1)) := HNX.out _ (by rw [step_two HD.out.symm]; rfl)
              go_wp2_with (at_builtin; refine wpList_append_own _ rfl (.tmp 65) (.tmp 66) 38 rfl w.heap.size 9 i0 (.string ⟨#[]⟩) 1 16 Tryd.underlying38 hi hz0 hz1 hz2 rfl (by decide) _ _ _ rfl (World.ownsRow.alloc (w := wa) HDD.out _) ⟨wa.heap.size, 0, none⟩ 1 1 [.string (ByteArray.mk #[])] rfl rfl ?c1f ?c2f ?c3f ?c4f ?c5f ?_)
              try (case c1f => exact cell_one_new _ _ _)
              case c2f => first | (intro u hu; simp at hu; subst hu; rfl) | rfl
              case c3f => unfold maxLen; omega
              case c4f => omega
              case c5f => first | (simp; omega) | omega
              intro v1 w1 hown hgrow _
              have HR1 : Hid (TRow w1 w.heap.size v1 (([] : List (List UInt8)) ++ [(ByteArray.mk #[]).data.toList])) := TRow.more hown
              have HB1 : Hid (Below w.heap.size w w1) := Below.grown (HBA.out.alloc HBA.out.size _) hgrow (by simp; omega) (fun k hk => (World.ownsRow.lt HDD.out k hk).1)
              clear hown hgrow
              go_wp2
              go_roundw
              case rel => exact ⟨k + 1, k + 1, _, by go_num, by go_num, HN.out, HR1.out, HB1.out⟩
              case measure => simp [intOf]; omega
      · obtain rfl : k = Q.size + 1 := by omega
        have hfe : f = Q.size + 1 := by have := HRF.out.fin (by rw [HQL.out]); rw [HQL.out] at this; exact this
        have hae : all = acc := by have := HRF.out.eqn; rw [if_neg (by rw [HQL.out]; omega)] at this; exact this
        subst hae
        obtain ⟨B6, cap6, eu6, hlc6, hcm6, hcl6, _⟩ := HR.out.view
        unfold maxLen at hcm6
        subst eu6
        have HC6 := Lib.hid hcl6
        clear hcl6 hfe HRF
        go_wp2
        go_loop [8, 9] (fun q i => ∃ (R : ByteArray) (m : Nat), q = .string R ∧ i = .int .i64 m ∧ m ≤ all.length ∧ R.data.toList = joinS (all.take m)) (fun _ i => all.length - (intOf i).toNat)
        case atStart => exact ⟨⟨#[]⟩, 0, rfl, rfl, Nat.zero_le _, rfl⟩
        case round =>
          obtain ⟨R, m, rfl, rfl, hm, hR⟩ := hrel
          have hRz : R.size ≤ 100001 := by
            have h1 := joinS_take_len all m
            rw [← hR] at h1
            have h2 := HJL.out
            have h3 : R.data.toList.length = R.size := by simp
            omega
          have HRR := Lib.hid hR
          clear hR
          by_cases hlt2 : m < all.length
          · obtain ⟨ad, ea, hc⟩ := HC6.out m hlt2
            have hml : all[m].length ≤ 100001 := Nat.le_trans (mem_joinS_len (List.getElem_mem hlt2)) HJL.out
            obtain ⟨y, hy⟩ : ∃ y, y = mk all[m] := ⟨_, rfl⟩
            have hyz : y.size ≤ 100001 := by rw [hy, mk_size]; exact hml
            rw [← hy] at hc
            have HQ2 : Hid ((R ++ ByteArray.mk #[47] ++ y).data.toList = joinS (all.take (m + 1))) := by
              show _ = _
              rw [List.take_succ_eq_append_getElem hlt2, joinS_snoc, ba_app2, ba_app2, HRR.out, hy, mk_data]; simp
            clear hy hml
            subst ea
            go_wp2
            go_round
            case rel => exact ⟨_, m + 1, rfl, by go_num, by omega, HQ2.out⟩
            case measure => simp [intOf]; omega
          · obtain rfl : m = all.length := by omega
            have hRC : R = C := by
              rw [HCJ.out]
              have := HRR.out
              rw [List.take_of_length_le (Nat.le_refl _)] at this
              rw [← this]; exact (mk_eq R).symm
            have hne2 : R.toList.isEmpty = false := ba_notEmpty (by
              intro h
              have h1 := HRR.out
              rw [List.take_of_length_le (Nat.le_refl _), h] at h1
              have h2 := joinS_cnt all
              rw [← h1] at h2
              exact HNE.out (List.length_eq_zero_iff.1 (by simpa using h2)))
            have HRC := Lib.hid hRC
            clear hRC
            go_wp2
            go_ret
            exact ⟨ret_string HRC.out, HB.out⟩
  · obtain ⟨Q, hQ⟩ : ∃ Q, Q = ByteArray.mk #[47] ++ p := ⟨_, rfl⟩
    have hQl : Q.data.toList = 47 :: stripS p.data.toList := by rw [hQ, strip_other hh]; simp
    have hQz : Q.size ≤ 100001 := by
      have := congrArg List.length hQl
      rw [strip_other hh] at this
      simp at this; omega
    have h0 : 0 < Q.size := by have := congrArg List.length hQl; simp at this; omega
    have HST := Lib.hid (HS.out Q hQl)
    have HQ := Lib.hid hQ
    clear hQ hQl HS hpl HAL
    by_cases hem : p.toList.isEmpty = true
    · clear hh
      go_enter Tryd.func16, Tryd.ntmps16
      go_wp2
      rw [← HQ.out]
      clear HQ hem hp
      have hQL : Q.data.toList.length = Q.size := by simp
      have HQL := Lib.hid hQL
      clear hQL
      go_loopw [3, 4, 5, 6, 7] (fun v fr i _ _ wr => ∃ (f k : Nat) (acc : List (List UInt8)), fr = .int .i64 f ∧ i = .int .i64 k ∧ RefAt Q.data.toList all acc f k ∧ TRow wr w.heap.size v acc ∧ Below w.heap.size w wr) (fun _ _ i _ _ _ => Q.size + 1 - (intOf i).toNat)
      case atStart => exact ⟨1, 1, [], rfl, rfl, HST.out, TRow.nil _ _, Below.refl _ _⟩
      case round =>
        obtain ⟨f, k, acc, rfl, rfl, hrf, hrow, hbel⟩ := hrel
        have hfk := hrf.fk
        have hkl : k ≤ Q.size + 1 := by have := hrf.kl; rw [HQL.out] at this; exact this
        have hal := hrf.len
        have HRF := Lib.hid hrf
        have HR := Lib.hid hrow
        have HB := Lib.hid hbel
        clear hrf hrow hbel
        by_cases hle : k ≤ Q.size
        · by_cases hlt : k < Q.size
          · have hltl : k < Q.data.toList.length := by rw [HQL.out]; exact hlt
            have eg : Q.data.toList[k] = Q[k] := rfl
            have hq := byte47 Q[k]
            by_cases h47 : Q[k] = 47
            · have hq2 : ((Q[k].toNat : Int) != 47) = false := by rw [hq]; simpa using h47
              obtain ⟨t, ht⟩ : ∃ t, t = Q.extract f k := ⟨_, rfl⟩
              have htl : t.data.toList = (Q.data.toList.drop f).take (k - f) := by rw [ht]; exact ext_data Q f k
              have htz : t.size ≤ 100001 := by
                have := congrArg List.length htl
                rw [List.length_take, List.length_drop, HQL.out] at this
                simp at this; omega
              obtain ⟨d, hd⟩ : ∃ d, d = dotsL t.data.toList := ⟨_, rfl⟩
              have hdc := dots_cases t.data.toList
              rw [← hd] at hdc
              have HD := Lib.hid hd
              have HNX : Hid (∀ ac2, ac2 = stepL acc t.data.toList false → RefAt Q.data.toList all ac2 (k + 1) (k + 1)) := by
                intro ac2 h2; exact HRF.out.slash hltl (by rw [eg]; exact h47) ac2 (by rw [h2, htl])
              have HTE := Lib.hid ht
              clear htl hd ht hq h47 eg
              rcases hdc with rfl | rfl | rfl
              · have HN : Hid (RefAt Q.data.toList all (acc ++ [t.data.toList]) (k + 1) (k + 1)) := HNX.out _ (step_zero HD.out.symm).symm
                go_wp2_with fail
                rw [← HTE.out]
                refine (refDots_as t _ _ (by unfold maxLen; omega) HD.out).mono ?_
                rintro e wa ⟨rfl, hba⟩
                have HRA : Hid (TRow wa w.heap.size u3 acc) := HR.out.below hba
                have HBA : Hid (Below w.heap.size w wa) := HB.out.trans (hba.mono HB.out.size)
                have hsa := HBA.out.size
                clear hba
                go_wp2_with (at_builtin; refine wpList_append_own _ rfl (.tmp 45) (.tmp 47) 38 rfl w.heap.size 9 i0 (.string ⟨#[]⟩) 1 16 Tryd.underlying38 hi hz0 hz1 hz2 rfl (by decide) _ _ _ rfl (World.ownsRow.alloc (w := wa) HRA.out _) ⟨wa.heap.size, 0, none⟩ 1 1 [.string t] rfl rfl ?c1b ?c2b ?c3b ?c4b ?c5b ?_)
                try (case c1b => exact cell_one_new _ _ _)
                case c2b => first | (intro u hu; simp at hu; subst hu; rfl) | rfl
                case c3b => unfold maxLen; omega
                case c4b => omega
                case c5b => first | (simp; omega) | omega
                intro v1 w1 hown hgrow _
                have HR1 : Hid (TRow w1 w.heap.size v1 (acc ++ [t.data.toList])) := TRow.more hown
                have HB1 : Hid (Below w.heap.size w w1) := Below.grown (HBA.out.alloc HBA.out.size _) hgrow (by simp; omega) (fun k hk => (World.ownsRow.lt HRA.out k hk).1)
                clear hown hgrow
                go_wp2
                go_roundw
                case rel => exact ⟨k + 1, k + 1, _, by go_num, by go_num, HN.out, HR1.out, HB1.out⟩
                case measure => simp [intOf]; omega
              · have HN : Hid (RefAt Q.data.toList all acc (k + 1) (k + 1)) := HNX.out _ (by rw [step_one HD.out.symm]; simp)
                go_wp2_with fail
                rw [← HTE.out]
                refine (refDots_as t _ _ (by unfold maxLen; omega) HD.out).mono ?_
                rintro e wa ⟨rfl, hba⟩
                have HRA : Hid (TRow wa w.heap.size u3 acc) := HR.out.below hba
                have HBA : Hid (Below w.heap.size w wa) := HB.out.trans (hba.mono HB.out.size)
                have hsa := HBA.out.size
                clear hba
                go_wp2
                go_roundw
                case rel => exact ⟨k + 1, k + 1, _, by go_num, by go_num, HN.out, HRA.out, HBA.out⟩
                case measure => simp [intOf]; omega
              · obtain ⟨B6, cap6, eu6, hlc6, hcm6, hcl6, _⟩ := HR.out.view
                have HCL6 := Lib.hid hcl6
                clear hcl6
                unfold maxLen at hcm6
                subst eu6
                go_wp2_with fail
                rw [← HTE.out]
                refine (refDots_as t _ _ (by unfold maxLen; omega) HD.out).mono ?_
                rintro e wa ⟨rfl, hba⟩
                have HRA : Hid (TRow wa w.heap.size (.slice B6 acc.length cap6) acc) := HR.out.below hba
                have HBA : Hid (Below w.heap.size w wa) := HB.out.trans (hba.mono HB.out.size)
                have hsa := HBA.out.size
                clear hba
                by_cases hne : 0 < acc.length
                · obtain ⟨ad6, e6, _⟩ := HCL6.out 0 hne
                  subst e6
                  have HDD : Hid (TRow wa w.heap.size (.slice (some ad6) (acc.length - 1) cap6) acc.dropLast) := by
                    obtain ⟨B7, cap7, e7, _, _, _, htk7⟩ := HRA.out.view
                    injection e7 with e71 e72 e73
                    subst e71 e73
                    have := htk7 (acc.length - 1) (by omega)
                    rw [← List.dropLast_eq_take] at this
                    exact this
                  have HS2 : Hid (stepL acc t.data.toList false = acc.dropLast ++ (if false then [[]] else [])) := step_two HD.out.symm
                  obtain ⟨dl, hdl⟩ : ∃ dl, dl = acc.dropLast := ⟨_, rfl⟩
                  have hdn : dl.length ≤ acc.length := by rw [hdl]; simp
                  rw [← hdl] at HDD HS2
                  clear hdl
                  have hsub : IntKind.i64.wrap ((acc.length : Int) - 1) = ((acc.length - 1 : Nat) : Int) := by rw [IntWalk.i64_in _ (by omega)]; omega
                  have HN : Hid (RefAt Q.data.toList all dl (k + 1) (k + 1)) := HNX.out _ (by rw [HS2.out]; simp)
                  go_wp2
                  go_roundw
                  case rel => exact ⟨k + 1, k + 1, _, by go_num, by go_num, HN.out, HDD.out, HBA.out⟩
                  case measure => simp [intOf]; omega
                · have hnil : acc = [] := List.length_eq_zero_iff.1 (by omega)
                  subst hnil
                  have HDD : Hid (TRow wa w.heap.size (.slice B6 0 cap6) []) := HRA.out
                  clear hne
                  have HN : Hid (RefAt Q.data.toList all ([] : List (List UInt8)) (k + 1) (k + 1)) := HNX.out _ (by rw [step_two HD.out.symm]; rfl)
                  go_wp2
                  go_roundw
                  case rel => exact ⟨k + 1, k + 1, _, by go_num, by go_num, HN.out, HDD.out, HBA.out⟩
                  case measure => simp [intOf]; omega
            · have hq2 : ((Q[k].toNat : Int) != 47) = true := by rw [hq]; simpa using h47
              have HN : Hid (RefAt Q.data.toList all acc f (k + 1)) := HRF.out.skip hltl (by rw [eg]; exact h47)
              clear hq h47 eg
              go_wp2
              go_roundw
              case rel => exact ⟨f, k + 1, acc, rfl, by go_num, HN.out, HR.out, HB.out⟩
              case measure => simp [intOf]; omega
          · have hke : ((k : Int) == (Q.size : Int)) = true := by rw [beq_iff_eq]; omega
            obtain ⟨t, ht⟩ : ∃ t, t = Q.extract f k := ⟨_, rfl⟩
            have htl : t.data.toList = (Q.data.toList.drop f).take (k - f) := by rw [ht]; exact ext_data Q f k
            have htz : t.size ≤ 100001 := by
              have := congrArg List.length htl
              rw [List.length_take, List.length_drop, HQL.out] at this
              simp at this; omega
            obtain ⟨d, hd⟩ : ∃ d, d = dotsL t.data.toList := ⟨_, rfl⟩
            have hdc := dots_cases t.data.toList
            rw [← hd] at hdc
            have HD := Lib.hid hd
            have HNX : Hid (∀ ac2, ac2 = stepL acc t.data.toList true → RefAt Q.data.toList all ac2 (k + 1) (k + 1)) := by
              intro ac2 h2; exact HRF.out.stop (by rw [HQL.out]; omega) ac2 (by rw [h2, htl])
            have HTE := Lib.hid ht
            clear htl hd ht
            rcases hdc with rfl | rfl | rfl
            · have HN : Hid (RefAt Q.data.toList all (acc ++ [t.data.toList]) (k + 1) (k + 1)) := HNX.out _ (step_zero HD.out.symm).symm
              go_wp2_with fail
              rw [← HTE.out]
              refine (refDots_as t _ _ (by unfold maxLen; omega) HD.out).mono ?_
              rintro e wa ⟨rfl, hba⟩
              have HRA : Hid (TRow wa w.heap.size u3 acc) := HR.out.below hba
              have HBA : Hid (Below w.heap.size w wa) := HB.out.trans (hba.mono HB.out.size)
              have hsa := HBA.out.size
              clear hba
              go_wp2_with (at_builtin; refine wpList_append_own _ rfl (.tmp 45) (.tmp 47) 38 rfl w.heap.size 9 i0 (.string ⟨#[]⟩) 1 16 Tryd.underlying38 hi hz0 hz1 hz2 rfl (by decide) _ _ _ rfl (World.ownsRow.alloc (w := wa) HRA.out _) ⟨wa.heap.size, 0, none⟩ 1 1 [.string t] rfl rfl ?c1c ?c2c ?c3c ?c4c ?c5c ?_)
              try (case c1c => exact cell_one_new _ _ _)
              case c2c => first | (intro u hu; simp at hu; subst hu; rfl) | rfl
              case c3c => unfold maxLen; omega
              case c4c => omega
              case c5c => first | (simp; omega) | omega
              intro v1 w1 hown hgrow _
              have HR1 : Hid (TRow w1 w.heap.size v1 (acc ++ [t.data.toList])) := TRow.more hown
              have HB1 : Hid (Below w.heap.size w w1) := Below.grown (HBA.out.alloc HBA.out.size _) hgrow (by simp; omega) (fun k hk => (World.ownsRow.lt HRA.out k hk).1)
              clear hown hgrow
              go_wp2
              go_roundw
              case rel => exact ⟨k + 1, k + 1, _, by go_num, by go_num, HN.out, HR1.out, HB1.out⟩
              case measure => simp [intOf]; omega
            · have HN : Hid (RefAt Q.data.toList all (acc ++ [(ByteArray.mk #[]).data.toList]) (k + 1) (k + 1)) := HNX.out _ (by rw [step_one HD.out.symm]; rfl)
              go_wp2_with fail
              rw [← HTE.out]
              refine (refDots_as t _ _ (by unfold maxLen; omega) HD.out).mono ?_
              rintro e wa ⟨rfl, hba⟩
              have HRA : Hid (TRow wa w.heap.size u3 acc) := HR.out.below hba
              have HBA : Hid (Below w.heap.size w wa) := HB.out.trans (hba.mono HB.out.size)
              have hsa := HBA.out.size
              clear hba
              go_wp2_with (at_builtin; refine wpList_append_own _ rfl (.tmp 65) (.tmp 66) 38 rfl w.heap.size 9 i0 (.string ⟨#[]⟩) 1 16 Tryd.underlying38 hi hz0 hz1 hz2 rfl (by decide) _ _ _ rfl (World.ownsRow.alloc (w := wa) HRA.out _) ⟨wa.heap.size, 0, none⟩ 1 1 [.string (ByteArray.mk #[])] rfl rfl ?c1d ?c2d ?c3d ?c4d ?c5d ?_)
              try (case c1d => exact cell_one_new _ _ _)
              case c2d => first | (intro u hu; simp at hu; subst hu; rfl) | rfl
              case c3d => unfold maxLen; omega
              case c4d => omega
              case c5d => first | (simp; omega) | omega
              intro v1 w1 hown hgrow _
              have HR1 : Hid (TRow w1 w.heap.size v1 (acc ++ [(ByteArray.mk #[]).data.toList])) := TRow.more hown
              have HB1 : Hid (Below w.heap.size w w1) := Below.grown (HBA.out.alloc HBA.out.size _) hgrow (by simp; omega) (fun k hk => (World.ownsRow.lt HRA.out k hk).1)
              clear hown hgrow
              go_wp2
              go_roundw
              case rel => exact ⟨k + 1, k + 1, _, by go_num, by go_num, HN.out, HR1.out, HB1.out⟩
              case measure => simp [intOf]; omega
            · obtain ⟨B6, cap6, eu6, hlc6, hcm6, hcl6, _⟩ := HR.out.view
              have HCL6 := Lib.hid hcl6
              clear hcl6
              unfold maxLen at hcm6
              subst eu6
              go_wp2_with fail
              rw [← HTE.out]
              refine (refDots_as t _ _ (by unfold maxLen; omega) HD.out).mono ?_
              rintro e wa ⟨rfl, hba⟩
              have HRA : Hid (TRow wa w.heap.size (.slice B6 acc.length cap6) acc) := HR.out.below hba
              have HBA : Hid (Below w.heap.size w wa) := HB.out.trans (hba.mono HB.out.size)
              have hsa := HBA.out.size
              clear hba
              by_cases hne : 0 < acc.length
              · obtain ⟨ad6, e6, _⟩ := HCL6.out 0 hne
                subst e6
                have HDD : Hid (TRow wa w.heap.size (.slice (some ad6) (acc.length - 1) cap6) acc.dropLast) := by
                  obtain ⟨B7, cap7, e7, _, _, _, htk7⟩ := HRA.out.view
                  injection e7 with e71 e72 e73
                  subst e71 e73
                  have := htk7 (acc.length - 1) (by omega)
                  rw [← List.dropLast_eq_take] at this
                  exact this
                have HS2 : Hid (stepL acc t.data.toList true = acc.dropLast ++ (if true then [[]] else [])) := step_two HD.out.symm
                obtain ⟨dl, hdl⟩ : ∃ dl, dl = acc.dropLast := ⟨_, rfl⟩
                have hdn : dl.length ≤ acc.length := by rw [hdl]; simp
                rw [← hdl] at HDD HS2
                clear hdl
                have hsub : IntKind.i64.wrap ((acc.length : Int) - 1) = ((acc.length - 1 : Nat) : Int) := by rw [IntWalk.i64_in _ (by omega)]; omega
                have HN : Hid (RefAt Q.data.toList all (dl ++ [(ByteArray.mk #[]).data.toList]) (k + 1) (k + 1)) := HNX.out _ HS2.out.symm
                go_wp2_with (at_builtin; refine wpList_append_own _ rfl (.tmp 65) (.tmp 66) 38 rfl w.heap.size 9 i0 (.string ⟨#[]⟩) 1 16 Tryd.underlying38 hi hz0 hz1 hz2 rfl (by decide) _ _ _ rfl (World.ownsRow.alloc (w := wa) HDD.out _) ⟨wa.heap.size, 0, none⟩ 1 1 [.string (ByteArray.mk #[])] rfl rfl ?c1e ?c2e ?c3e ?c4e ?c5e ?_)
                try (case c1e => exact cell_one_new _ _ _)
                case c2e => first | (intro u hu; simp at hu; subst hu; rfl) | rfl
                case c3e => unfold maxLen; omega
                case c4e => omega
                case c5e => first | (simp; omega) | omega
                intro v1 w1 hown hgrow _
                have HR1 : Hid (TRow w1 w.heap.size v1 (dl ++ [(ByteArray.mk #[]).data.toList])) := TRow.more hown
                have HB1 : Hid (Below w.heap.size w w1) := Below.grown (HBA.out.alloc HBA.out.size _) hgrow (by simp; omega) (fun k hk => (World.ownsRow.lt HDD.out k hk).1)
                clear hown hgrow
                go_wp2
                go_roundw
                case rel => exact ⟨k + 1, k + 1, _, by go_num, by go_num, HN.out, HR1.out, HB1.out⟩
                case measure => simp [intOf]; omega
              · have hnil : acc = [] := List.length_eq_zero_iff.1 (by omega)
                subst hnil
                have HDD : Hid (TRow wa w.heap.size (.slice B6 0 cap6) []) := HRA.out
                clear hne
                have HN : Hid (RefAt Q.data.toList all (([] : List (List UInt8)) ++ [(ByteArray.mk #[]).data.toList]) (k + 1) (k + 1)) := HNX.out _ (by rw [step_two HD.out.symm]; rfl)
                go_wp2_with (at_builtin; refine wpList_append_own _ rfl (.tmp 65) (.tmp 66) 38 rfl w.heap.size 9 i0 (.string ⟨#[]⟩) 1 16 Tryd.underlying38 hi hz0 hz1 hz2 rfl (by decide) _ _ _ rfl (World.ownsRow.alloc (w := wa) HDD.out _) ⟨wa.heap.size, 0, none⟩ 1 1 [.string (ByteArray.mk #[])] rfl rfl ?c1f ?c2f ?c3f ?c4f ?c5f ?_)
                try (case c1f => exact cell_one_new _ _ _)
                case c2f => first | (intro u hu; simp at hu; subst hu; rfl) | rfl
                case c3f => unfold maxLen; omega
                case c4f => omega
                case c5f => first | (simp; omega) | omega
                intro v1 w1 hown hgrow _
                have HR1 : Hid (TRow w1 w.heap.size v1 (([] : List (List UInt8)) ++ [(ByteArray.mk #[]).data.toList])) := TRow.more hown
                have HB1 : Hid (Below w.heap.size w w1) := Below.grown (HBA.out.alloc HBA.out.size _) hgrow (by simp; omega) (fun k hk => (World.ownsRow.lt HDD.out k hk).1)
                clear hown hgrow
                go_wp2
                go_roundw
                case rel => exact ⟨k + 1, k + 1, _, by go_num, by go_num, HN.out, HR1.out, HB1.out⟩
                case measure => simp [intOf]; omega
        · obtain rfl : k = Q.size + 1 := by omega
          have hfe : f = Q.size + 1 := by have := HRF.out.fin (by rw [HQL.out]); rw [HQL.out] at this; exact this
          have hae : all = acc := by have := HRF.out.eqn; rw [if_neg (by rw [HQL.out]; omega)] at this; exact this
          subst hae
          obtain ⟨B6, cap6, eu6, hlc6, hcm6, hcl6, _⟩ := HR.out.view
          unfold maxLen at hcm6
          subst eu6
          have HC6 := Lib.hid hcl6
          clear hcl6 hfe HRF
          go_wp2
          go_loop [8, 9] (fun q i => ∃ (R : ByteArray) (m : Nat), q = .string R ∧ i = .int .i64 m ∧ m ≤ all.length ∧ R.data.toList = joinS (all.take m)) (fun _ i => all.length - (intOf i).toNat)
          case atStart => exact ⟨⟨#[]⟩, 0, rfl, rfl, Nat.zero_le _, rfl⟩
          case round =>
            obtain ⟨R, m, rfl, rfl, hm, hR⟩ := hrel
            have hRz : R.size ≤ 100001 := by
              have h1 := joinS_take_len all m
              rw [← hR] at h1
              have h2 := HJL.out
              have h3 : R.data.toList.length = R.size := by simp
              omega
            have HRR := Lib.hid hR
            clear hR
            by_cases hlt2 : m < all.length
            · obtain ⟨ad, ea, hc⟩ := HC6.out m hlt2
              have hml : all[m].length ≤ 100001 := Nat.le_trans (mem_joinS_len (List.getElem_mem hlt2)) HJL.out
              obtain ⟨y, hy⟩ : ∃ y, y = mk all[m] := ⟨_, rfl⟩
              have hyz : y.size ≤ 100001 := by rw [hy, mk_size]; exact hml
              rw [← hy] at hc
              have HQ2 : Hid ((R ++ ByteArray.mk #[47] ++ y).data.toList = joinS (all.take (m + 1))) := by
                show _ = _
                rw [List.take_succ_eq_append_getElem hlt2, joinS_snoc, ba_app2, ba_app2, HRR.out, hy, mk_data]; simp
              clear hy hml
              subst ea
              go_wp2
              go_round
              case rel => exact ⟨_, m + 1, rfl, by go_num, by omega, HQ2.out⟩
              case measure => simp [intOf]; omega
            · obtain rfl : m = all.length := by omega
              have hRC : R = C := by
                rw [HCJ.out]
                have := HRR.out
                rw [List.take_of_length_le (Nat.le_refl _)] at this
                rw [← this]; exact (mk_eq R).symm
              have hne2 : R.toList.isEmpty = false := ba_notEmpty (by
                intro h
                have h1 := HRR.out
                rw [List.take_of_length_le (Nat.le_refl _), h] at h1
                have h2 := joinS_cnt all
                rw [← h1] at h2
                exact HNE.out (List.length_eq_zero_iff.1 (by simpa using h2)))
              have HRC := Lib.hid hRC
              clear hRC
              go_wp2
              go_ret
              exact ⟨ret_string HRC.out, HB.out⟩
    · have hem2 : p.toList.isEmpty = false := by simpa using hem
      have hp0 : 0 < p.size := by
        rcases Nat.eq_zero_or_pos p.size with h | h
        · exact absurd (ba_isEmpty (List.length_eq_zero_iff.1 (by simpa using h))) hem
        · exact h
      have hb0 : ((p[0].toNat : Int) != 47) = true := by
        rw [byte47, decide_eq_true_eq]
        intro e
        apply hh
        rw [List.head?_eq_getElem?, List.getElem?_eq_getElem (by simpa using hp0)]
        exact congrArg some e
      clear hem hh
      go_enter Tryd.func16, Tryd.ntmps16
      go_wp2
      rw [← HQ.out]
      clear HQ hem2
      have hQL : Q.data.toList.length = Q.size := by simp
      have HQL := Lib.hid hQL
      clear hQL
      go_loopw [3, 4, 5, 6, 7] (fun v fr i _ _ wr => ∃ (f k : Nat) (acc : List (List UInt8)), fr = .int .i64 f ∧ i = .int .i64 k ∧ RefAt Q.data.toList all acc f k ∧ TRow wr w.heap.size v acc ∧ Below w.heap.size w wr) (fun _ _ i _ _ _ => Q.size + 1 - (intOf i).toNat)
      case atStart => exact ⟨1, 1, [], rfl, rfl, HST.out, TRow.nil _ _, Below.refl _ _⟩
      case round =>
        obtain ⟨f, k, acc, rfl, rfl, hrf, hrow, hbel⟩ := hrel
        have hfk := hrf.fk
        have hkl : k ≤ Q.size + 1 := by have := hrf.kl; rw [HQL.out] at this; exact this
        have hal := hrf.len
        have HRF := Lib.hid hrf
        have HR := Lib.hid hrow
        have HB := Lib.hid hbel
        clear hrf hrow hbel
        by_cases hle : k ≤ Q.size
        · by_cases hlt : k < Q.size
          · have hltl : k < Q.data.toList.length := by rw [HQL.out]; exact hlt
            have eg : Q.data.toList[k] = Q[k] := rfl
            have hq := byte47 Q[k]
            by_cases h47 : Q[k] = 47
            · have hq2 : ((Q[k].toNat : Int) != 47) = false := by rw [hq]; simpa using h47
              obtain ⟨t, ht⟩ : ∃ t, t = Q.extract f k := ⟨_, rfl⟩
              have htl : t.data.toList = (Q.data.toList.drop f).take (k - f) := by rw [ht]; exact ext_data Q f k
              have htz : t.size ≤ 100001 := by
                have := congrArg List.length htl
                rw [List.length_take, List.length_drop, HQL.out] at this
                simp at this; omega
              obtain ⟨d, hd⟩ : ∃ d, d = dotsL t.data.toList := ⟨_, rfl⟩
              have hdc := dots_cases t.data.toList
              rw [← hd] at hdc
              have HD := Lib.hid hd
              have HNX : Hid (∀ ac2, ac2 = stepL acc t.data.toList false → RefAt Q.data.toList all ac2 (k + 1) (k + 1)) := by
                intro ac2 h2; exact HRF.out.slash hltl (by rw [eg]; exact h47) ac2 (by rw [h2, htl])
              have HTE := Lib.hid ht
              clear htl hd ht hq h47 eg
              rcases hdc with rfl | rfl | rfl
              · have HN : Hid (RefAt Q.data.toList all (acc ++ [t.data.toList]) (k + 1) (k + 1)) := HNX.out _ (step_zero HD.out.symm).symm
                go_wp2_with fail
                rw [← HTE.out]
                refine (refDots_as t _ _ (by unfold maxLen; omega) HD.out).mono ?_
                rintro e wa ⟨rfl, hba⟩
                have HRA : Hid (TRow wa w.heap.size u3 acc) := HR.out.below hba
                have HBA : Hid (Below w.heap.size w wa) := HB.out.trans (hba.mono HB.out.size)
                have hsa := HBA.out.size
                clear hba
                go_wp2_with (at_builtin; refine wpList_append_own _ rfl (.tmp 45) (.tmp 47) 38 rfl w.heap.size 9 i0 (.string ⟨#[]⟩) 1 16 Tryd.underlying38 hi hz0 hz1 hz2 rfl (by decide) _ _ _ rfl (World.ownsRow.alloc (w := wa) HRA.out _) ⟨wa.heap.size, 0, none⟩ 1 1 [.string t] rfl rfl ?c1b ?c2b ?c3b ?c4b ?c5b ?_)
                try (case c1b => exact cell_one_new _ _ _)
                case c2b => first | (intro u hu; simp at hu; subst hu; rfl) | rfl
                case c3b => unfold maxLen; omega
                case c4b => omega
                case c5b => first | (simp; omega) | omega
                intro v1 w1 hown hgrow _
                have HR1 : Hid (TRow w1 w.heap.size v1 (acc ++ [t.data.toList])) := TRow.more hown
                have HB1 : Hid (Below w.heap.size w w1) := Below.grown (HBA.out.alloc HBA.out.size _) hgrow (by simp; omega) (fun k hk => (World.ownsRow.lt HRA.out k hk).1)
                clear hown hgrow
                go_wp2
                go_roundw
                case rel => exact ⟨k + 1, k + 1, _, by go_num, by go_num, HN.out, HR1.out, HB1.out⟩
                case measure => simp [intOf]; omega
              · have HN : Hid (RefAt Q.data.toList all acc (k + 1) (k + 1)) := HNX.out _ (by rw [step_one HD.out.symm]; simp)
                go_wp2_with fail
                rw [← HTE.out]
                refine (refDots_as t _ _ (by unfold maxLen; omega) HD.out).mono ?_
                rintro e wa ⟨rfl, hba⟩
                have HRA : Hid (TRow wa w.heap.size u3 acc) := HR.out.below hba
                have HBA : Hid (Below w.heap.size w wa) := HB.out.trans (hba.mono HB.out.size)
                have hsa := HBA.out.size
                clear hba
                go_wp2
                go_roundw
                case rel => exact ⟨k + 1, k + 1, _, by go_num, by go_num, HN.out, HRA.out, HBA.out⟩
                case measure => simp [intOf]; omega
              · obtain ⟨B6, cap6, eu6, hlc6, hcm6, hcl6, _⟩ := HR.out.view
                have HCL6 := Lib.hid hcl6
                clear hcl6
                unfold maxLen at hcm6
                subst eu6
                go_wp2_with fail
                rw [← HTE.out]
                refine (refDots_as t _ _ (by unfold maxLen; omega) HD.out).mono ?_
                rintro e wa ⟨rfl, hba⟩
                have HRA : Hid (TRow wa w.heap.size (.slice B6 acc.length cap6) acc) := HR.out.below hba
                have HBA : Hid (Below w.heap.size w wa) := HB.out.trans (hba.mono HB.out.size)
                have hsa := HBA.out.size
                clear hba
                by_cases hne : 0 < acc.length
                · obtain ⟨ad6, e6, _⟩ := HCL6.out 0 hne
                  subst e6
                  have HDD : Hid (TRow wa w.heap.size (.slice (some ad6) (acc.length - 1) cap6) acc.dropLast) := by
                    obtain ⟨B7, cap7, e7, _, _, _, htk7⟩ := HRA.out.view
                    injection e7 with e71 e72 e73
                    subst e71 e73
                    have := htk7 (acc.length - 1) (by omega)
                    rw [← List.dropLast_eq_take] at this
                    exact this
                  have HS2 : Hid (stepL acc t.data.toList false = acc.dropLast ++ (if false then [[]] else [])) := step_two HD.out.symm
                  obtain ⟨dl, hdl⟩ : ∃ dl, dl = acc.dropLast := ⟨_, rfl⟩
                  have hdn : dl.length ≤ acc.length := by rw [hdl]; simp
                  rw [← hdl] at HDD HS2
                  clear hdl
                  have hsub : IntKind.i64.wrap ((acc.length : Int) - 1) = ((acc.length - 1 : Nat) : Int) := by rw [IntWalk.i64_in _ (by omega)]; omega
                  have HN : Hid (RefAt Q.data.toList all dl (k + 1) (k + 1)) := HNX.out _ (by rw [HS2.out]; simp)
                  go_wp2
                  go_roundw
                  case rel => exact ⟨k + 1, k + 1, _, by go_num, by go_num, HN.out, HDD.out, HBA.out⟩
                  case measure => simp [intOf]; omega
                · have hnil : acc = [] := List.length_eq_zero_iff.1 (by omega)
                  subst hnil
                  have HDD : Hid (TRow wa w.heap.size (.slice B6 0 cap6) []) := HRA.out
                  clear hne
                  have HN : Hid (RefAt Q.data.toList all ([] : List (List UInt8)) (k + 1) (k + 1)) := HNX.out _ (by rw [step_two HD.out.symm]; rfl)
                  go_wp2
                  go_roundw
                  case rel => exact ⟨k + 1, k + 1, _, by go_num, by go_num, HN.out, HDD.out, HBA.out⟩
                  case measure => simp [intOf]; omega
            · have hq2 : ((Q[k].toNat : Int) != 47) = true := by rw [hq]; simpa using h47
              have HN : Hid (RefAt Q.data.toList all acc f (k + 1)) := HRF.out.skip hltl (by rw [eg]; exact h47)
              clear hq h47 eg
              go_wp2
              go_roundw
              case rel => exact ⟨f, k + 1, acc, rfl, by go_num, HN.out, HR.out, HB.out⟩
              case measure => simp [intOf]; omega
          · have hke : ((k : Int) == (Q.size : Int)) = true := by rw [beq_iff_eq]; omega
            obtain ⟨t, ht⟩ : ∃ t, t = Q.extract f k := ⟨_, rfl⟩
            have htl : t.data.toList = (Q.data.toList.drop f).take (k - f) := by rw [ht]; exact ext_data Q f k
            have htz : t.size ≤ 100001 := by
              have := congrArg List.length htl
              rw [List.length_take, List.length_drop, HQL.out] at this
              simp at this; omega
            obtain ⟨d, hd⟩ : ∃ d, d = dotsL t.data.toList := ⟨_, rfl⟩
            have hdc := dots_cases t.data.toList
            rw [← hd] at hdc
            have HD := Lib.hid hd
            have HNX : Hid (∀ ac2, ac2 = stepL acc t.data.toList true → RefAt Q.data.toList all ac2 (k + 1) (k + 1)) := by
              intro ac2 h2; exact HRF.out.stop (by rw [HQL.out]; omega) ac2 (by rw [h2, htl])
            have HTE := Lib.hid ht
            clear htl hd ht
            rcases hdc with rfl | rfl | rfl
            · have HN : Hid (RefAt Q.data.toList all (acc ++ [t.data.toList]) (k + 1) (k + 1)) := HNX.out _ (step_zero HD.out.symm).symm
              go_wp2_with fail
              rw [← HTE.out]
              refine (refDots_as t _ _ (by unfold maxLen; omega) HD.out).mono ?_
              rintro e wa ⟨rfl, hba⟩
              have HRA : Hid (TRow wa w.heap.size u3 acc) := HR.out.below hba
              have HBA : Hid (Below w.heap.size w wa) := HB.out.trans (hba.mono HB.out.size)
              have hsa := HBA.out.size
              clear hba
              go_wp2_with (at_builtin; refine wpList_append_own _ rfl (.tmp 45) (.tmp 47) 38 rfl w.heap.size 9 i0 (.string ⟨#[]⟩) 1 16 Tryd.underlying38 hi hz0 hz1 hz2 rfl (by decide) _ _ _ rfl (World.ownsRow.alloc (w := wa) HRA.out _) ⟨wa.heap.size, 0, none⟩ 1 1 [.string t] rfl rfl ?c1c ?c2c ?c3c ?c4c ?c5c ?_)
              try (case c1c => exact cell_one_new _ _ _)
              case c2c => first | (intro u hu; simp at hu; subst hu; rfl) | rfl
              case c3c => unfold maxLen; omega
              case c4c => omega
              case c5c => first | (simp; omega) | omega
              intro v1 w1 hown hgrow _
              have HR1 : Hid (TRow w1 w.heap.size v1 (acc ++ [t.data.toList])) := TRow.more hown
              have HB1 : Hid (Below w.heap.size w w1) := Below.grown (HBA.out.alloc HBA.out.size _) hgrow (by simp; omega) (fun k hk => (World.ownsRow.lt HRA.out k hk).1)
              clear hown hgrow
              go_wp2
              go_roundw
              case rel => exact ⟨k + 1, k + 1, _, by go_num, by go_num, HN.out, HR1.out, HB1.out⟩
              case measure => simp [intOf]; omega
            · have HN : Hid (RefAt Q.data.toList all (acc ++ [(ByteArray.mk #[]).data.toList]) (k + 1) (k + 1)) := HNX.out _ (by rw [step_one HD.out.symm]; rfl)
              go_wp2_with fail
              rw [← HTE.out]
              refine (refDots_as t _ _ (by unfold maxLen; omega) HD.out).mono ?_
              rintro e wa ⟨rfl, hba⟩
              have HRA : Hid (TRow wa w.heap.size u3 acc) := HR.out.below hba
              have HBA : Hid (Below w.heap.size w wa) := HB.out.trans (hba.mono HB.out.size)
              have hsa := HBA.out.size
              clear hba
              go_wp2_with (at_builtin; refine wpList_append_own _ rfl (.tmp 65) (.tmp 66) 38 rfl w.heap.size 9 i0 (.string ⟨#[]⟩) 1 16 Tryd.underlying38 hi hz0 hz1 hz2 rfl (by decide) _ _ _ rfl (World.ownsRow.alloc (w := wa) HRA.out _) ⟨wa.heap.size, 0, none⟩ 1 1 [.string (ByteArray.mk #[])] rfl rfl ?c1d ?c2d ?c3d ?c4d ?c5d ?_)
              try (case c1d => exact cell_one_new _ _ _)
              case c2d => first | (intro u hu; simp at hu; subst hu; rfl) | rfl
              case c3d => unfold maxLen; omega
              case c4d => omega
              case c5d => first | (simp; omega) | omega
              intro v1 w1 hown hgrow _
              have HR1 : Hid (TRow w1 w.heap.size v1 (acc ++ [(ByteArray.mk #[]).data.toList])) := TRow.more hown
              have HB1 : Hid (Below w.heap.size w w1) := Below.grown (HBA.out.alloc HBA.out.size _) hgrow (by simp; omega) (fun k hk => (World.ownsRow.lt HRA.out k hk).1)
              clear hown hgrow
              go_wp2
              go_roundw
              case rel => exact ⟨k + 1, k + 1, _, by go_num, by go_num, HN.out, HR1.out, HB1.out⟩
              case measure => simp [intOf]; omega
            · obtain ⟨B6, cap6, eu6, hlc6, hcm6, hcl6, _⟩ := HR.out.view
              have HCL6 := Lib.hid hcl6
              clear hcl6
              unfold maxLen at hcm6
              subst eu6
              go_wp2_with fail
              rw [← HTE.out]
              refine (refDots_as t _ _ (by unfold maxLen; omega) HD.out).mono ?_
              rintro e wa ⟨rfl, hba⟩
              have HRA : Hid (TRow wa w.heap.size (.slice B6 acc.length cap6) acc) := HR.out.below hba
              have HBA : Hid (Below w.heap.size w wa) := HB.out.trans (hba.mono HB.out.size)
              have hsa := HBA.out.size
              clear hba
              by_cases hne : 0 < acc.length
              · obtain ⟨ad6, e6, _⟩ := HCL6.out 0 hne
                subst e6
                have HDD : Hid (TRow wa w.heap.size (.slice (some ad6) (acc.length - 1) cap6) acc.dropLast) := by
                  obtain ⟨B7, cap7, e7, _, _, _, htk7⟩ := HRA.out.view
                  injection e7 with e71 e72 e73
                  subst e71 e73
                  have := htk7 (acc.length - 1) (by omega)
                  rw [← List.dropLast_eq_take] at this
                  exact this
                have HS2 : Hid (stepL acc t.data.toList true = acc.dropLast ++ (if true then [[]] else [])) := step_two HD.out.symm
                obtain ⟨dl, hdl⟩ : ∃ dl, dl = acc.dropLast := ⟨_, rfl⟩
                have hdn : dl.length ≤ acc.length := by rw [hdl]; simp
                rw [← hdl] at HDD HS2
                clear hdl
                have hsub : IntKind.i64.wrap ((acc.length : Int) - 1) = ((acc.length - 1 : Nat) : Int) := by rw [IntWalk.i64_in _ (by omega)]; omega
                have HN : Hid (RefAt Q.data.toList all (dl ++ [(ByteArray.mk #[]).data.toList]) (k + 1) (k + 1)) := HNX.out _ HS2.out.symm
                go_wp2_with (at_builtin; refine wpList_append_own _ rfl (.tmp 65) (.tmp 66) 38 rfl w.heap.size 9 i0 (.string ⟨#[]⟩) 1 16 Tryd.underlying38 hi hz0 hz1 hz2 rfl (by decide) _ _ _ rfl (World.ownsRow.alloc (w := wa) HDD.out _) ⟨wa.heap.size, 0, none⟩ 1 1 [.string (ByteArray.mk #[])] rfl rfl ?c1e ?c2e ?c3e ?c4e ?c5e ?_)
                try (case c1e => exact cell_one_new _ _ _)
                case c2e => first | (intro u hu; simp at hu; subst hu; rfl) | rfl
                case c3e => unfold maxLen; omega
                case c4e => omega
                case c5e => first | (simp; omega) | omega
                intro v1 w1 hown hgrow _
                have HR1 : Hid (TRow w1 w.heap.size v1 (dl ++ [(ByteArray.mk #[]).data.toList])) := TRow.more hown
                have HB1 : Hid (Below w.heap.size w w1) := Below.grown (HBA.out.alloc HBA.out.size _) hgrow (by simp; omega) (fun k hk => (World.ownsRow.lt HDD.out k hk).1)
                clear hown hgrow
                go_wp2
                go_roundw
                case rel => exact ⟨k + 1, k + 1, _, by go_num, by go_num, HN.out, HR1.out, HB1.out⟩
                case measure => simp [intOf]; omega
              · have hnil : acc = [] := List.length_eq_zero_iff.1 (by omega)
                subst hnil
                have HDD : Hid (TRow wa w.heap.size (.slice B6 0 cap6) []) := HRA.out
                clear hne
                have HN : Hid (RefAt Q.data.toList all (([] : List (List UInt8)) ++ [(ByteArray.mk #[]).data.toList]) (k + 1) (k + 1)) := HNX.out _ (by rw [step_two HD.out.symm]; rfl)
                go_wp2_with (at_builtin; refine wpList_append_own _ rfl (.tmp 65) (.tmp 66) 38 rfl w.heap.size 9 i0 (.string ⟨#[]⟩) 1 16 Tryd.underlying38 hi hz0 hz1 hz2 rfl (by decide) _ _ _ rfl (World.ownsRow.alloc (w := wa) HDD.out _) ⟨wa.heap.size, 0, none⟩ 1 1 [.string (ByteArray.mk #[])] rfl rfl ?c1f ?c2f ?c3f ?c4f ?c5f ?_)
                try (case c1f => exact cell_one_new _ _ _)
                case c2f => first | (intro u hu; simp at hu; subst hu; rfl) | rfl
                case c3f => unfold maxLen; omega
                case c4f => omega
                case c5f => first | (simp; omega) | omega
                intro v1 w1 hown hgrow _
                have HR1 : Hid (TRow w1 w.heap.size v1 (([] : List (List UInt8)) ++ [(ByteArray.mk #[]).data.toList])) := TRow.more hown
                have HB1 : Hid (Below w.heap.size w w1) := Below.grown (HBA.out.alloc HBA.out.size _) hgrow (by simp; omega) (fun k hk => (World.ownsRow.lt HDD.out k hk).1)
                clear hown hgrow
                go_wp2
                go_roundw
                case rel => exact ⟨k + 1, k + 1, _, by go_num, by go_num, HN.out, HR1.out, HB1.out⟩
                case measure => simp [intOf]; omega
        · obtain rfl : k = Q.size + 1 := by omega
          have hfe : f = Q.size + 1 := by have := HRF.out.fin (by rw [HQL.out]); rw [HQL.out] at this; exact this
          have hae : all = acc := by have := HRF.out.eqn; rw [if_neg (by rw [HQL.out]; omega)] at this; exact this
          subst hae
          obtain ⟨B6, cap6, eu6, hlc6, hcm6, hcl6, _⟩ := HR.out.view
          unfold maxLen at hcm6
          subst eu6
          have HC6 := Lib.hid hcl6
          clear hcl6 hfe HRF
          go_wp2
          go_loop [8, 9] (fun q i => ∃ (R : ByteArray) (m : Nat), q = .string R ∧ i = .int .i64 m ∧ m ≤ all.length ∧ R.data.toList = joinS (all.take m)) (fun _ i => all.length - (intOf i).toNat)
          case atStart => exact ⟨⟨#[]⟩, 0, rfl, rfl, Nat.zero_le _, rfl⟩
          case round =>
            obtain ⟨R, m, rfl, rfl, hm, hR⟩ := hrel
            have hRz : R.size ≤ 100001 := by
              have h1 := joinS_take_len all m
              rw [← hR] at h1
              have h2 := HJL.out
              have h3 : R.data.toList.length = R.size := by simp
              omega
            have HRR := Lib.hid hR
            clear hR
            by_cases hlt2 : m < all.length
            · obtain ⟨ad, ea, hc⟩ := HC6.out m hlt2
              have hml : all[m].length ≤ 100001 := Nat.le_trans (mem_joinS_len (List.getElem_mem hlt2)) HJL.out
              obtain ⟨y, hy⟩ : ∃ y, y = mk all[m] := ⟨_, rfl⟩
              have hyz : y.size ≤ 100001 := by rw [hy, mk_size]; exact hml
              rw [← hy] at hc
              have HQ2 : Hid ((R ++ ByteArray.mk #[47] ++ y).data.toList = joinS (all.take (m + 1))) := by
                show _ = _
                rw [List.take_succ_eq_append_getElem hlt2, joinS_snoc, ba_app2, ba_app2, HRR.out, hy, mk_data]; simp
              clear hy hml
              subst ea
              go_wp2
              go_round
              case rel => exact ⟨_, m + 1, rfl, by go_num, by omega, HQ2.out⟩
              case measure => simp [intOf]; omega
            · obtain rfl : m = all.length := by omega
              have hRC : R = C := by
                rw [HCJ.out]
                have := HRR.out
                rw [List.take_of_length_le (Nat.le_refl _)] at this
                rw [← this]; exact (mk_eq R).symm
              have hne2 : R.toList.isEmpty = false := ba_notEmpty (by
                intro h
                have h1 := HRR.out
                rw [List.take_of_length_le (Nat.le_refl _), h] at h1
                have h2 := joinS_cnt all
                rw [← h1] at h2
                exact HNE.out (List.length_eq_zero_iff.1 (by simpa using h2)))
              have HRC := Lib.hid hRC
              clear hRC
              go_wp2
              go_ret
              exact ⟨ret_string HRC.out, HB.out⟩
end Go.Proofs.YtfamllkmmiajoaaDoor
