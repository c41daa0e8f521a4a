/-
  Contracts of the document's own answer of layer 3, further: Check, Key, Show, Behind; and Count of layer 1. Conditions: the texts' sizes are such as any text's.
-/
import Derived.Test.YtfamllkmmiajoaaDoorGRef
import Derived.Test.YtfamllkmmiajoaaDoorGShow
namespace Go.Proofs.YtfamllkmmiajoaaDoor
open Go.RowKit

set_option maxHeartbeats 1000000 in
theorem refCheck_any (s h : ByteArray) (p : Int) (w : World) (hh : h.size ≤ maxLen) :
    Calls Tryd.prog 43 #[.agg #[.string s, .string h, .int .i64 p]] w fun e w' => e = .returned (.bool (checkL s.data.toList h.data.toList p)) ∧ Below w.heap.size w w' := by
  obtain ⟨d, hd⟩ : ∃ d, d = defL s.data.toList := ⟨_, rfl⟩
  have HE : Hid (checkL s.data.toList h.data.toList p = ((d != 0) && hostL h.data.toList && decide (1 ≤ p) && decide (p ≤ 65535))) := by show _ = _; rw [hd]; rfl
  have HD := Lib.hid hd
  clear hd
  have hb : Below w.heap.size w (w.alloc (.cells #[.string s, .string h, .int .i64 p] 25)) := (Below.refl _ _).alloc (Nat.le_refl _) _
  have HB := Lib.hid hb
  clear hb
  cases h0 : (d != 0)
  · have H0 := Lib.hid h0
    go_enter Tryd.func43, Tryd.ntmps43
    go_wp2_with fail
    refine (refDefault_any _ _).mono ?_
    rintro e w' ⟨rfl, rfl⟩
    rw [← HD.out]
    go_wp2
    go_ret
    exact ⟨ret_bool (by rw [HE.out, H0.out]; rfl), HB.out⟩
  have H0 := Lib.hid h0
  cases h1 : hostL h.data.toList
  · have H1 := Lib.hid h1
    clear h1
    go_enter Tryd.func43, Tryd.ntmps43
    go_wp2_with fail
    refine (refDefault_any _ _).mono ?_
    rintro e w' ⟨rfl, rfl⟩
    rw [← HD.out]
    go_wp2_with fail
    refine (refHost_any _ _ hh).mono ?_
    rintro e w' ⟨rfl, rfl⟩
    rw [H1.out]
    go_wp2
    go_ret
    exact ⟨ret_bool (by rw [HE.out, H0.out, H1.out]; rfl), HB.out⟩
  · have H1 := Lib.hid h1
    clear h1
    go_enter Tryd.func43, Tryd.ntmps43
    go_wp2_with fail
    refine (refDefault_any _ _).mono ?_
    rintro e w' ⟨rfl, rfl⟩
    rw [← HD.out]
    go_wp2_with fail
    refine (refHost_any _ _ hh).mono ?_
    rintro e w' ⟨rfl, rfl⟩
    rw [H1.out]
    go_wp2
    all_goals
      go_ret
      refine ⟨ret_bool ?_, HB.out⟩
      rw [HE.out, H0.out, H1.out]
      simp
      try omega

theorem key_num {s h : ByteArray} {n : Nat} (hc : checkL s.data.toList h.data.toList (n : Int) = true) :
    s ++ ByteArray.mk #[58, 47, 47] ++ h ++ ByteArray.mk #[58] ++ mk (numL n) = mk (keyL s.data.toList h.data.toList (n : Int)) := by
  rw [key_eq hc]
  show s ++ mk [58, 47, 47] ++ h ++ mk [58] ++ mk (numL n) = _
  conv => lhs; rw [← mk_eq s, ← mk_eq h]
  rw [mk_append, mk_append, mk_append, mk_append]; simp

set_option maxHeartbeats 2000000 in
theorem refShow_any (s h : ByteArray) (p : Int) (w : World) (hh : h.size ≤ maxLen) :
    Calls Tryd.prog 35 #[.agg #[.string s, .string h, .int .i64 p]] w fun e w' => e = .returned (.string (mk (showL s.data.toList h.data.toList p))) ∧ Below w.heap.size w w' := by
  have hb : Below w.heap.size w (w.alloc (.cells #[.string s, .string h, .int .i64 p] 25)) := (Below.refl _ _).alloc (Nat.le_refl _) _
  have HB := Lib.hid hb
  clear hb
  cases hc : checkL s.data.toList h.data.toList p
  · have HC := Lib.hid hc
    clear hc
    go_enter Tryd.func35, Tryd.ntmps35
    go_wp2_with fail
    refine (refCheck_any _ _ _ _ hh).mono ?_
    rintro e w' ⟨rfl, hb2⟩
    have HB2 := Lib.hid hb2
    clear hb2
    rw [HC.out]
    go_wp2
    go_ret
    exact ⟨ret_string (by rw [showL, HC.out]; rfl), HB.out.trans (HB2.out.mono HB.out.size)⟩
  · obtain ⟨hz1, hz2⟩ := check_sizes hc
    obtain ⟨_, _, hp1, hp2⟩ := check_parts hc
    obtain ⟨n, rfl⟩ := Int.eq_ofNat_of_zero_le (show (0 : Int) ≤ p by omega)
    have HC := Lib.hid hc
    have HK := Lib.hid (key_num hc)
    have hz3 : (mk (numL n)).size ≤ 5 := by rw [mk_size]; exact numL_len5 (by omega)
    clear hc
    obtain ⟨d, hd⟩ : ∃ d, d = defL s.data.toList := ⟨_, rfl⟩
    have HD := Lib.hid hd
    clear hd
    go_enter Tryd.func35, Tryd.ntmps35
    go_wp2_with fail
    refine (refCheck_any _ _ _ _ hh).mono ?_
    rintro e w1 ⟨rfl, hb2⟩
    have ho : OrgAt w1 w.heap.size s h n := (OrgAt.new w s h n 25).below hb2 (by simp)
    have HB2 : Hid (Below w.heap.size w w1) := HB.out.trans (hb2.mono HB.out.size)
    clear hb2
    rw [HC.out]
    obtain ⟨a0, a1, a2⟩ := id ho
    go_wp2_with fail
    refine mix_start (fun W => OrgAt W w.heap.size s h n) (by kernel_rfl) ?_
    have hne : Nonempty (Held (fun W => OrgAt W w.heap.size s h n)) := ⟨⟨w1, ho⟩⟩
    have hx0 : ∀ q : Held (fun W => OrgAt W w.heap.size s h n), q.w.cell? ⟨w.heap.size, 0, none⟩ = some (.string s) := fun q => q.h.c0
    have hx2 : ∀ q : Held (fun W => OrgAt W w.heap.size s h n), q.w.cell? ⟨w.heap.size, 2, none⟩ = some (.int .i64 n) := fun q => q.h.c2
    refine mix_seg [0, 1, 2, 3] (by kernel_rfl) ho.drew ?_
    simp only [segOf, pickOps, pickOp]
    repeat (go_big_quiet_step (fail))
    refine wpQuiet_nil ?_
    refine mix_run 4 (by kernel_rfl) ?_
    simp only [segOf, pickOps, pickOp]
    go_wp2_with fail
    refine (refDefault_any _ _).mono ?_
    rintro e w' ⟨rfl, rfl⟩
    rw [← HD.out]
    go_wp2_with fail
    refine MixPost.normal ho.drew ?_
    by_cases hpd : (n : Int) = d
    · have hq : ((n : Int) != d) = false := by rw [hpd]; simp
      have HS : Hid (s ++ ByteArray.mk #[58, 47, 47] ++ h = mk (showL s.data.toList h.data.toList n)) := by
        show _ = _; rw [bare_mk, show_bare HC.out (hpd.trans HD.out)]
      clear hpd
      refine mix_seg [5] (by kernel_rfl) ho.drew ?_
      simp only [segOf, pickOps, pickOp]
      repeat (go_big_quiet_step (fail))
      refine wpQuiet_nil ?_
      refine mix_done (by kernel_rfl) ?_
      go_wp2
      go_ret
      exact ⟨ret_string HS.out, HB2.out.drew⟩
    · have hq : ((n : Int) != d) = true := by rw [bne_iff_ne]; exact hpd
      have HS : Hid (s ++ ByteArray.mk #[58, 47, 47] ++ h ++ ByteArray.mk #[58] ++ mk (numL n) = mk (showL s.data.toList h.data.toList n)) := by
        show _ = _; rw [show_key (.inr (fun e => hpd (e.trans HD.out.symm))), HK.out]
      clear hpd
      refine mix_seg [5] (by kernel_rfl) ho.drew ?_
      simp only [segOf, pickOps, pickOp]
      repeat (go_big_quiet_step (fail))
      refine wpQuiet_nil ?_
      refine mix_done (by kernel_rfl) ?_
      go_wp2_with fail
      refine (Num_any n _ (by unfold Lk.M64; omega)).mono ?_
      rintro e w' ⟨rfl, rfl⟩
      go_wp2
      go_ret
      exact ⟨ret_string HS.out, HB2.out.drew⟩

/-- the first place of :// -/
def behindV (l : List UInt8) : Int := match seek l with | some p => (p.1.length : Int) | none => -1
theorem pre_ext (s : ByteArray) (k : Nat) (_hk : k + 3 ≤ s.size) : ((s.extract k (k + 3)).toList == [58, 47, 47]) = [58, 47, 47].isPrefixOf (s.data.toList.drop k) := by
  have hl : s.data.toList.length = s.size := by simp
  have e : (s.extract k (k + 3)).toList = (s.data.toList.drop k).take 3 := by
    rw [ByteArray.toList_eq, Lib.extract_eq]
    show (List.take (k + 3 - k) (List.drop k s.data.toList)) = _
    rw [show k + 3 - k = 3 by omega]
  rw [e]
  have : ∀ m : List UInt8, (m.take 3 == [58, 47, 47]) = [58, 47, 47].isPrefixOf m := by
    intro m
    match m with
    | [] => rfl
    | [a] => simp [List.isPrefixOf]
    | [a, b] => simp [List.isPrefixOf]
    | a :: b :: c :: r =>
      rw [Bool.eq_iff_iff]
      simp [List.isPrefixOf]
      constructor <;> (rintro ⟨h1, h2, h3⟩; exact ⟨h1.symm, h2.symm, h3.symm⟩)
  exact this _
theorem seek_step {l : List UInt8} {k : Nat} (hk : k < l.length) (h : [58, 47, 47].isPrefixOf (l.drop k) = false) : seek (l.drop k) = (seek (l.drop (k + 1))).map (fun p => (l[k] :: p.1, p.2)) := by
  have e : l.drop k = l[k] :: l.drop (k + 1) := List.drop_eq_getElem_cons hk
  rw [e] at h ⊢
  rw [seek, h]; rfl
theorem seek_short {l : List UInt8} (h : l.length < 3) : seek l = none := by
  cases hs : seek l with
  | none => rfl
  | some q =>
    have := congrArg List.length (seek_eq l q.1 q.2 hs)
    simp at this
    omega
theorem seek_here {l : List UInt8} (h : [58, 47, 47].isPrefixOf l = true) : seek l = some ([], l.drop 3) := by
  cases l with
  | nil => simp [List.isPrefixOf] at h
  | cons b r => rw [seek, if_pos h]

set_option maxHeartbeats 1000000 in
theorem refBehind_any (s : ByteArray) (w : World) (hs : s.size ≤ 140737488355328) :
    Calls Tryd.prog 23 #[.string s] w fun e w' => e = .returned (.int .i64 (behindV s.data.toList)) ∧ w = w' := by
  have HL : Hid (s.data.toList.length = s.size) := by show _ = _; simp
  go_enter Tryd.func23, Tryd.ntmps23
  go_wp2
  go_loop [3] (fun i => ∃ k : Nat, k ≤ s.size ∧ i = .int .i64 k ∧ seek s.data.toList = (seek (s.data.toList.drop k)).map (fun p => (s.data.toList.take k ++ p.1, p.2))) (fun i => s.size - (intOf i).toNat)
  case atStart =>
    refine ⟨0, Nat.zero_le _, rfl, ?_⟩
    simp
  case round =>
    obtain ⟨k, hk, rfl, hsk⟩ := hrel
    have HS := Lib.hid hsk
    clear hsk
    by_cases h3 : k + 3 ≤ s.size
    · have hp := pre_ext s k h3
      have hw : IntKind.i64.wrap ((k : Int) + 3) = (k : Int) + 3 := IntWalk.i64_in _ (by omega)
      have hlt : k < s.data.toList.length := by rw [HL.out]; omega
      cases hc : [58, 47, 47].isPrefixOf (s.data.toList.drop k)
      · have HN : Hid (seek s.data.toList = (seek (s.data.toList.drop (k + 1))).map (fun p => (s.data.toList.take (k + 1) ++ p.1, p.2))) := by
          show _ = _
          rw [HS.out, seek_step hlt hc, List.take_succ_eq_append_getElem hlt, Option.map_map]
          congr 1
          funext p
          simp
        rw [hc] at hp
        clear hc hlt
        go_wp2
        go_round
        case rel => exact ⟨k + 1, by omega, by go_num, HN.out⟩
        case measure => simp [intOf]; omega
      · have HN : Hid (behindV s.data.toList = (k : Int)) := by
          show _ = _
          rw [behindV, HS.out, seek_here hc]
          simp
          omega
        rw [hc] at hp
        clear hc hlt
        go_wp2
        go_ret
        exact ⟨ret_int HN.out.symm, rfl⟩
    · have HN : Hid (behindV s.data.toList = -1) := by
        show _ = _
        rw [behindV, HS.out, seek_short (by have := HL.out; simp; omega)]; rfl
      go_wp2
      go_ret
      exact ⟨ret_int HN.out.symm, rfl⟩
end Go.Proofs.YtfamllkmmiajoaaDoor
