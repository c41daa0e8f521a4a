/-
  The contract of header's Same over this seat's program, with the library's slices.EqualFunc beneath: it returns what the plain mathematics says, and nothing that was there has turned. Conditions: at most a thousand headers, each text of at most 100,000 bytes.
-/
import Derived.Test.YtinpfkbplflecaaDHdr4
namespace Go.Proofs.Ytinpfkbplflecaa
open Go.RowKit

theorem ba_beq (a b : ByteArray) : (a.toList == b.toList) = decide (a.data.toList = b.data.toList) := by
  rw [ByteArray.toList_eq, ByteArray.toList_eq]
  rw [Bool.eq_iff_iff, beq_iff_eq, decide_eq_true_eq]

set_option maxHeartbeats 2000000 in
theorem Same1_any (x1 x2 y1 y2 : ByteArray) (w : World) (hx1 : x1.size ≤ maxLen) (hx2 : x2.size ≤ maxLen) (hy1 : y1.size ≤ maxLen) (hy2 : y2.size ≤ maxLen) :
    Calls Try.prog 55 #[.agg #[.string x1, .string x2], .agg #[.string y1, .string y2]] w fun e w' => e = .returned (.bool (decide (normH (hd (x1, x2)) = normH (hd (y1, y2))))) ∧ Below w.heap.size w w' := by
  obtain ⟨a, ha⟩ : ∃ a : ByteArray, a = mk (Lk.lower x1.data.toList) := ⟨_, rfl⟩
  obtain ⟨b, hb⟩ : ∃ b : ByteArray, b = mk (Lk.trimL x2.data.toList) := ⟨_, rfl⟩
  obtain ⟨c, hc⟩ : ∃ a : ByteArray, a = mk (Lk.lower y1.data.toList) := ⟨_, rfl⟩
  obtain ⟨d, hd'⟩ : ∃ b : ByteArray, b = mk (Lk.trimL y2.data.toList) := ⟨_, rfl⟩
  have HE : Hid (decide (normH (hd (x1, x2)) = normH (hd (y1, y2))) = ((a.toList == c.toList) && (b.toList == d.toList))) := by
    show _ = _
    rw [ba_beq, ba_beq, ha, hb, hc, hd', mk_data, mk_data, mk_data, mk_data, ← Bool.decide_and, decide_eq_decide]
    simp [normH, hd]
  have HLA := Lib.hid ha
  have HLB := Lib.hid hb
  have HLC := Lib.hid hc
  have HLD := Lib.hid hd'
  clear ha hb hc hd'
  obtain ⟨W, hW⟩ : ∃ W, W = ((w.alloc (Obj.cells #[.string x1, .string x2] 41)).alloc (Obj.cells #[.string y1, .string y2] 41)) := ⟨_, rfl⟩
  have hF0 : HdAt W w.heap.size x1 x2 ∧ HdAt W (w.heap.size + 1) y1 y2 := by
    rw [hW]
    refine ⟨HdAt.below (HdAt.new w x1 x2 _) ((Below.refl _ _).alloc (Nat.le_refl _) _) (by simp), ?_⟩
    have := HdAt.new (w.alloc (Obj.cells #[.string x1, .string x2] 41)) y1 y2 41
    simpa using this
  have HB : Hid (Below w.heap.size w W) := by
    rw [hW]; exact ((Below.refl _ _).alloc (Nat.le_refl _) _).alloc (by simp) _
  have HF0 := Lib.hid hF0
  clear hF0
  go_enter Try.func55, Try.ntmps55
  go_wp2_with fail
  rw [← hW]
  clear hW
  refine mix_start (fun W => HdAt W w.heap.size x1 x2 ∧ HdAt W (w.heap.size + 1) y1 y2) (by kernel_rfl) ?_
  have hne : Nonempty (Held (fun W => HdAt W w.heap.size x1 x2 ∧ HdAt W (w.heap.size + 1) y1 y2)) := ⟨⟨_, HF0.out⟩⟩
  have z0 : ∀ q : Held (fun W => HdAt W w.heap.size x1 x2 ∧ HdAt W (w.heap.size + 1) y1 y2), q.w.cell? ⟨w.heap.size, 0, none⟩ = some (.string x1) := fun q => q.h.1.c0
  have z1 : ∀ q : Held (fun W => HdAt W w.heap.size x1 x2 ∧ HdAt W (w.heap.size + 1) y1 y2), q.w.cell? ⟨w.heap.size, 1, none⟩ = some (.string x2) := fun q => q.h.1.c1
  have z2 : ∀ q : Held (fun W => HdAt W w.heap.size x1 x2 ∧ HdAt W (w.heap.size + 1) y1 y2), q.w.cell? ⟨w.heap.size + 1, 0, none⟩ = some (.string y1) := fun q => q.h.2.c0
  have z3 : ∀ q : Held (fun W => HdAt W w.heap.size x1 x2 ∧ HdAt W (w.heap.size + 1) y1 y2), q.w.cell? ⟨w.heap.size + 1, 1, none⟩ = some (.string y2) := fun q => q.h.2.c1
  refine mix_seg [0, 2] (by kernel_rfl) ⟨HF0.out.1.drew, HF0.out.2.drew⟩ ?_
  simp only [segOf, pickOps, pickOp]
  repeat (go_big_quiet_step (fail))
  refine wpQuiet_nil ?_
  refine mix_run 1 (by kernel_rfl) ?_
  simp only [segOf, pickOps, pickOp]
  go_wp2_with fail
  refine (hnorm_any x1 x2 _ hx1 hx2).mono ?_
  rintro e w1 ⟨rfl, hb1⟩
  rw [← HLA.out, ← HLB.out]
  have hF1 : HdAt w1 w.heap.size x1 x2 ∧ HdAt w1 (w.heap.size + 1) y1 y2 := ⟨HF0.out.1.drew.below hb1 HF0.out.1.lt, HF0.out.2.drew.below hb1 HF0.out.2.lt⟩
  have HB1 : Hid (Below w.heap.size w w1) := HB.out.drew.trans (hb1.mono HB.out.size)
  clear hb1
  go_wp2_with fail
  refine MixPost.normal hF1 ?_
  refine mix_run 3 (by kernel_rfl) ?_
  simp only [segOf, pickOps, pickOp]
  go_wp2_with fail
  refine (hnorm_any y1 y2 _ hy1 hy2).mono ?_
  rintro e w2 ⟨rfl, hb2⟩
  rw [← HLC.out, ← HLD.out]
  have hF2 : HdAt w2 w.heap.size x1 x2 ∧ HdAt w2 (w.heap.size + 1) y1 y2 := ⟨hF1.1.below hb2 hF1.1.lt, hF1.2.below hb2 hF1.2.lt⟩
  have HB2 : Hid (Below w.heap.size w w2) := HB1.out.trans (hb2.mono HB1.out.size)
  clear hb2
  go_wp2_with fail
  refine MixPost.normal hF2 ?_
  cases h1 : a.toList == c.toList
  · have H1 := Lib.hid h1
    refine mix_seg [4, 5] (by kernel_rfl) hF2 ?_
    simp only [segOf, pickOps, pickOp]
    repeat (go_big_quiet_step (fail))
    refine wpQuiet_nil ?_
    refine mix_done (by kernel_rfl) ?_
    go_wp2_with fail
    go_ret
    exact ⟨ret_bool (by rw [HE.out, H1.out]; rfl), HB2.out⟩
  have H1 := Lib.hid h1
  cases h2 : b.toList == d.toList
  · have H2 := Lib.hid h2
    refine mix_seg [4, 5] (by kernel_rfl) hF2 ?_
    simp only [segOf, pickOps, pickOp]
    repeat (go_big_quiet_step (fail))
    refine wpQuiet_nil ?_
    refine mix_done (by kernel_rfl) ?_
    go_wp2_with fail
    go_ret
    exact ⟨ret_bool (by rw [HE.out, H1.out, H2.out]; rfl), HB2.out⟩
  have H2 := Lib.hid h2
  refine mix_seg [4, 5] (by kernel_rfl) hF2 ?_
  simp only [segOf, pickOps, pickOp]
  repeat (go_big_quiet_step (fail))
  refine wpQuiet_nil ?_
  refine mix_done (by kernel_rfl) ?_
  go_wp2_with fail
  go_ret
  exact ⟨ret_bool (by rw [HE.out, H1.out, H2.out]; rfl), HB2.out⟩

theorem same_no {k : Nat} {a b : List Hd} {x y : Hd} (ha : a[k]? = some x) (hb : b[k]? = some y) (h : decide (normH x = normH y) = false) : sameH a b = false := by
  unfold sameH
  rw [decide_eq_false_iff_not]
  intro e
  have := congrArg (fun l => l[k]?) e
  simp only [normL, List.getElem?_map, ha, hb, Option.map_some, Option.some.injEq] at this
  exact absurd this (of_decide_eq_false h)
theorem take_norm_step {k : Nat} {a b : List Hd} {x y : Hd} (ha : a.take (k + 1) = a.take k ++ [x]) (hb : b.take (k + 1) = b.take k ++ [y]) (h0 : normL (a.take k) = normL (b.take k)) (h : decide (normH x = normH y) = true) : normL (a.take (k + 1)) = normL (b.take (k + 1)) := by
  rw [ha, hb]
  unfold normL at h0 ⊢
  rw [List.map_append, List.map_append, h0]
  simp [of_decide_eq_true h]

set_option maxHeartbeats 2000000 in
theorem Equal_eq (A1 A2 : Option Addr) (n c1 c2 B : Nat) (xs ys : List (ByteArray × ByteArray)) (w : World) (h1 : n = xs.length) (h2 : n = ys.length) (hB : B ≤ w.heap.size) (hx : PRow w B A1 xs) (hy : PRow w B A2 ys) (hsx : Sm (xs.map hd)) (hsy : Sm (ys.map hd)) :
    Calls Try.prog 54 #[.slice A1 n c1, .slice A2 n c2, .func (.func 55) #[] #[]] w fun e w' => e = .returned (.bool (sameH (xs.map hd) (ys.map hd))) ∧ Below w.heap.size w w' := by
  obtain ⟨hlx, hzx⟩ := hsx.sizes
  obtain ⟨_, hzy⟩ := hsy.sizes
  have hnn : n ≤ 1000 := by omega
  have H1 := Lib.hid h1
  have H2 := Lib.hid h2
  have HX := Lib.hid hx
  have HY := Lib.hid hy
  have HZX := Lib.hid hzx
  have HZY := Lib.hid hzy
  clear hx hy hsx hsy hzx hzy h1 h2 hlx
  go_enter Try.func54, Try.ntmps54
  go_wp2_with fail
  go_loopw [17] (fun i wr => ∃ k : Nat, k ≤ n ∧ i = .int .i64 k ∧ normL ((xs.map hd).take k) = normL ((ys.map hd).take k) ∧ Below w.heap.size w wr) (fun i _ => n - (intOf i).toNat)
  case atStart => exact ⟨0, Nat.zero_le _, rfl, rfl, Below.refl _ _⟩
  case round =>
    obtain ⟨k, hk, rfl, hall, hb⟩ := hrel
    have HAL := Lib.hid hall
    have HBB := Lib.hid hb
    clear hall hb
    by_cases hlt : k < n
    · have hltx : k < xs.length := by have := H1.out; omega
      have hlt2 : k < ys.length := by have := H2.out; omega
      obtain ⟨ad, hA, _, hc1, hc2⟩ := ((HX.out.mono hB).below HBB.out) k xs[k] (List.getElem?_eq_getElem hltx)
      have hz := HZX.out xs[k] (List.getElem_mem hltx)
      have hz2 := HZY.out ys[k] (List.getElem_mem hlt2)
      have HD : Hid ((xs.map hd).take (k + 1) = (xs.map hd).take k ++ [hd xs[k]]) := by show _ = _; rw [List.take_succ_eq_append_getElem (by simpa using hltx), List.getElem_map]
      have HD2 : Hid ((ys.map hd).take (k + 1) = (ys.map hd).take k ++ [hd ys[k]]) := by show _ = _; rw [List.take_succ_eq_append_getElem (by simpa using hlt2), List.getElem_map]
      have HM : Hid ((xs.map hd)[k]? = some (hd xs[k])) := by show _ = _; rw [List.getElem?_map, List.getElem?_eq_getElem hltx]; rfl
      have HM2 : Hid ((ys.map hd)[k]? = some (hd ys[k])) := by show _ = _; rw [List.getElem?_map, List.getElem?_eq_getElem hlt2]; rfl
      generalize xs[k] = x at *
      obtain ⟨x1, x2⟩ := x
      obtain ⟨ad2, hA2, _, hd1, hd2⟩ := ((HY.out.mono hB).below (HBB.out.alloc HBB.out.size (.cells #[.string x1, .string x2] 41))) k ys[k] (List.getElem?_eq_getElem hlt2)
      generalize ys[k] = y at *
      obtain ⟨y1, y2⟩ := y
      subst hA hA2
      clear hltx hlt2
      have HBW : Hid (Below w.heap.size w ((wr.alloc (.cells #[.string x1, .string x2] 41)).alloc (.cells #[.string y1, .string y2] 41))) :=
        (HBB.out.alloc HBB.out.size _).alloc (by have := HBB.out.size; simp; omega) _
      go_wp2_with fail
      refine (Same1_any x1 x2 y1 y2 _ (by unfold maxLen; omega) (by unfold maxLen; omega) (by unfold maxLen; omega) (by unfold maxLen; omega)).mono ?_
      rintro e w2 ⟨rfl, hb2⟩
      have HB2 : Hid (Below w.heap.size w w2) := HBW.out.trans (hb2.mono HBW.out.size)
      clear hb2 hc1 hc2 hd1 hd2
      cases hq : decide (normH (hd (x1, x2)) = normH (hd (y1, y2)))
      · have HQ := Lib.hid hq
        clear hq
        go_wp2
        go_ret
        exact ⟨ret_bool (same_no HM.out HM2.out HQ.out).symm, HB2.out⟩
      · have HQ := Lib.hid hq
        clear hq
        go_wp2
        go_roundw
        case rel => exact ⟨k + 1, by omega, by go_num, take_norm_step HD.out HD2.out HAL.out HQ.out, HB2.out⟩
        case measure => simp [intOf]; omega
    · have hk2 : k = n := by omega
      have HE : Hid (sameH (xs.map hd) (ys.map hd) = true) := by
        have h := HAL.out
        rw [List.take_of_length_le (by have := H1.out; simp; omega), List.take_of_length_le (by have := H2.out; simp; omega)] at h
        show _ = _
        unfold sameH
        rw [h]; simp
      go_wp2
      go_ret
      exact ⟨ret_bool HE.out.symm, HBB.out⟩


set_option maxHeartbeats 2000000 in
theorem Equal_any (A1 A2 : Option Addr) (n1 n2 c1 c2 B : Nat) (xs ys : List (ByteArray × ByteArray)) (w : World) (h1 : n1 = xs.length) (h2 : n2 = ys.length) (hB : B ≤ w.heap.size) (hx : PRow w B A1 xs) (hy : PRow w B A2 ys) (hsx : Sm (xs.map hd)) (hsy : Sm (ys.map hd)) :
    Calls Try.prog 54 #[.slice A1 n1 c1, .slice A2 n2 c2, .func (.func 55) #[] #[]] w fun e w' => e = .returned (.bool (sameH (xs.map hd) (ys.map hd))) ∧ Below w.heap.size w w' := by
  subst h1 h2
  by_cases hn : xs.length = ys.length
  · rw [← hn]; exact Equal_eq A1 A2 _ c1 c2 B xs ys w rfl hn hB hx hy hsx hsy
  have hlx := hsx.sizes.1
  have hly := hsy.sizes.1
  clear hx hy hsx hsy
  have HE : Hid (sameH (xs.map hd) (ys.map hd) = false) := by
    show _ = _
    unfold sameH
    rw [decide_eq_false_iff_not]
    intro e
    have := congrArg List.length e
    simp [normL] at this
    exact hn this
  go_enter Try.func54, Try.ntmps54
  go_wp2
  go_ret
  exact ⟨ret_bool HE.out.symm, Below.refl _ _⟩

set_option maxHeartbeats 1000000 in
theorem Same_any (A1 A2 : Option Addr) (n1 n2 c1 c2 B : Nat) (xs ys : List (ByteArray × ByteArray)) (w : World) (h1 : n1 = xs.length) (h2 : n2 = ys.length) (hB : B ≤ w.heap.size) (hx : PRow w B A1 xs) (hy : PRow w B A2 ys) (hsx : Sm (xs.map hd)) (hsy : Sm (ys.map hd)) :
    Calls Try.prog 20 #[.slice A1 n1 c1, .slice A2 n2 c2] w fun e w' => e = .returned (.bool (sameH (xs.map hd) (ys.map hd))) ∧ Below w.heap.size w w' := by
  subst h1 h2
  go_enter Try.func20, Try.ntmps20
  go_wp2_with fail
  refine (Equal_any A1 A2 _ _ c1 c2 B xs ys _ rfl rfl hB hx hy hsx hsy).mono ?_
  rintro e w2 ⟨rfl, hb2⟩
  go_wp2
  go_ret
  exact ⟨rfl, hb2⟩
end Go.Proofs.Ytinpfkbplflecaa
