/-
  The contract of the document's own fits (layer 4), over this seat's program: it tells whether path and query may be, and nothing that was there has turned. Conditions: path and query have at most 100,000 bytes.
-/
import Derived.Test.YtfamllkmmiajoaaDoorHRefClean
import Derived.Test.YtfamllkmmiajoaaDoorHUrl
namespace Go.Proofs.YtfamllkmmiajoaaDoor
open Go.RowKit

theorem refClean_as (p t : ByteArray) (w : World) (hp : p.size ≤ 100000) (ht : t = mk (cleanL p.data.toList)) :
    Calls Tryd.prog 16 #[.string p] w fun e w' => e = .returned (.string t) ∧ Below w.heap.size w w' := by rw [ht]; exact refClean_any p w hp
theorem path_no_head {l : List UInt8} (h : ¬ l.head? = some 47) : pathL l = false := by
  cases hp : pathL l
  · rfl
  · exact absurd (path_head hp) h
theorem path_no_clean {l : List UInt8} (h : ¬ cleanL l = l) : pathL l = false := by
  cases hp : pathL l
  · rfl
  · exact absurd (path_parts hp).2 h
theorem path_is {l : List UInt8} (h : cleanL l = l) : pathL l = freeL noPathL l := by unfold pathL; rw [h]; simp
theorem query_no {l : List UInt8} (h0 : l ≠ []) (h : ¬ l.head? = some 63) : queryL l = false := by
  cases hq : queryL l
  · rfl
  · rcases (query_parts hq).1 with e | e
    · exact absurd e h0
    · exact absurd e h
theorem query_is {l : List UInt8} (h : l = [] ∨ l.head? = some 63) : queryL l = freeL noQueryL l := by
  rcases h with rfl | h
  · rfl
  · cases l with
    | nil => cases h
    | cons x r => simp at h; subst h; simp [queryL]
theorem head_byte {s : ByteArray} (h0 : 0 < s.size) : s.data.toList.head? = some s[0] := by
  rw [List.head?_eq_getElem?, List.getElem?_eq_getElem (by simpa using h0)]; rfl
theorem ne_byte (c : UInt8) (k : UInt8) : ((c.toNat : Int) != (k.toNat : Int)) = decide (c ≠ k) := by
  rw [Bool.eq_iff_iff, bne_iff_ne, decide_eq_true_eq]
  constructor
  · rintro h rfl; exact h rfl
  · intro h e; exact h (UInt8.toNat_inj.1 (by omega))
theorem ne_of_size {s : ByteArray} (h : 0 < s.size) : s.data.toList ≠ [] := by
  intro e
  have : s.data.toList.length = 0 := by rw [e]; rfl
  rw [show s.data.toList.length = s.size by simp] at this
  omega
theorem nil_of_size {s : ByteArray} (h : s.size = 0) : s.data.toList = [] := List.length_eq_zero_iff.1 (by simpa using h)

set_option maxRecDepth 100000 in
set_option maxHeartbeats 8000000 in
theorem refFits_any (s h : ByteArray) (p : Int) (pa q : ByteArray) (w : World) (hpa : pa.size ≤ 100000) (hq : q.size ≤ 100000) :
    Calls Tryd.prog 44 #[urlV s h p pa q] w fun e w' => e = .returned (.bool (pathL pa.data.toList && queryL q.data.toList)) ∧ Below w.heap.size w w' := by
  have hb : Below w.heap.size w (w.alloc (.cells #[.string s, .string h, .int .i64 p, .string pa, .string q] 27)) := (Below.refl _ _).alloc (Nat.le_refl _) _
  have ho := UrlAt.new w s h p pa q 27
  have HB := Lib.hid hb
  clear hb
  unfold urlV
  have hne : Nonempty (Held (fun W => UrlAt W w.heap.size s h p pa q)) := ⟨⟨_, ho⟩⟩
  have hx0 : ∀ z : Held (fun W => UrlAt W w.heap.size s h p pa q), z.w.cell? ⟨w.heap.size, 0, none⟩ = some (.string s) := fun z => z.h.c0
  have hx1 : ∀ z : Held (fun W => UrlAt W w.heap.size s h p pa q), z.w.cell? ⟨w.heap.size, 1, none⟩ = some (.string h) := fun z => z.h.c1
  have hx2 : ∀ z : Held (fun W => UrlAt W w.heap.size s h p pa q), z.w.cell? ⟨w.heap.size, 2, none⟩ = some (.int .i64 p) := fun z => z.h.c2
  have hx3 : ∀ z : Held (fun W => UrlAt W w.heap.size s h p pa q), z.w.cell? ⟨w.heap.size, 3, none⟩ = some (.string pa) := fun z => z.h.c3
  have hx4 : ∀ z : Held (fun W => UrlAt W w.heap.size s h p pa q), z.w.cell? ⟨w.heap.size, 4, none⟩ = some (.string q) := fun z => z.h.c4
  rcases Nat.eq_zero_or_pos pa.size with hz | hp0
  · have he1 : pa.toList.isEmpty = true := ba_isEmpty (nil_of_size hz)
    have HPF : Hid (pathL pa.data.toList = false) := path_no_head (by rw [nil_of_size hz]; simp)
    clear hz
    go_enter Tryd.func44, Tryd.ntmps44
    go_wp2_with fail
    refine mix_start (fun W => UrlAt W w.heap.size s h p pa q) (by kernel_rfl) ?_
    refine mix_seg [0, 1, 2, 3, 4, 5, 6, 7, 8, 9, 10, 11, 13, 14] (by kernel_rfl) ho.drew ?_
    simp only [segOf, pickOps, pickOp]
    repeat (go_big_quiet_step (fail))
    refine wpQuiet_nil ?_
    refine mix_run 12 (by kernel_rfl) ?_
    simp only [segOf, pickOps, pickOp]
    go_wp2_with fail
    refine MixPost.normal ho.drew ?_
    refine mix_seg [15, 16, 17, 18, 19, 20, 21, 22, 23, 24, 25, 26, 27] (by kernel_rfl) ho.drew ?_
    simp only [segOf, pickOps, pickOp]
    repeat (go_big_quiet_step (fail))
    refine wpQuiet_nil ?_
    refine mix_done (by kernel_rfl) ?_
    go_wp2
    go_ret
    exact ⟨ret_bool (by rw [HPF.out]; rfl), HB.out.drew⟩
  have he1 : pa.toList.isEmpty = false := ba_notEmpty (ne_of_size hp0)
  have hhp := head_byte hp0
  have hnb := ne_byte pa[0] 47
  by_cases h47 : pa[0] = 47
  rotate_left
  · have HPF : Hid (pathL pa.data.toList = false) := path_no_head (by rw [hhp]; simpa using h47)
    have hn47 : ((pa[0].toNat : Int) != 47) = true := by
      have : ((pa[0].toNat : Int) != 47) = decide (pa[0] ≠ 47) := hnb
      rw [this]; simpa using h47
    clear h47 hnb hhp
    go_enter Tryd.func44, Tryd.ntmps44
    go_wp2_with fail
    refine mix_start (fun W => UrlAt W w.heap.size s h p pa q) (by kernel_rfl) ?_
    refine mix_seg [0, 1, 2, 3, 4, 5, 6, 7, 8, 9, 10, 11, 13, 14] (by kernel_rfl) ho.drew ?_
    simp only [segOf, pickOps, pickOp]
    repeat (go_big_quiet_step (fail))
    refine wpQuiet_nil ?_
    refine mix_run 12 (by kernel_rfl) ?_
    simp only [segOf, pickOps, pickOp]
    go_wp2_with fail
    refine MixPost.normal ho.drew ?_
    refine mix_seg [15, 16, 17, 18, 19, 20, 21, 22, 23, 24, 25, 26, 27] (by kernel_rfl) ho.drew ?_
    simp only [segOf, pickOps, pickOp]
    repeat (go_big_quiet_step (fail))
    refine wpQuiet_nil ?_
    refine mix_done (by kernel_rfl) ?_
    go_wp2
    go_ret
    exact ⟨ret_bool (by rw [HPF.out]; rfl), HB.out.drew⟩
  have hn47 : ((pa[0].toNat : Int) != 47) = false := by
    have : ((pa[0].toNat : Int) != 47) = decide (pa[0] ≠ 47) := hnb
    rw [this]; simpa using h47
  clear h47 hnb hhp
  obtain ⟨t, ht⟩ : ∃ t, t = mk (cleanL pa.data.toList) := ⟨_, rfl⟩
  have HT := Lib.hid ht
  have htq : (t.toList == pa.toList) = decide (cleanL pa.data.toList = pa.data.toList) := by
    rw [ByteArray.toList_eq, ByteArray.toList_eq, ht, mk_data, Bool.eq_iff_iff, beq_iff_eq, decide_eq_true_eq]
  clear ht
  by_cases hcl : cleanL pa.data.toList = pa.data.toList
  rotate_left
  · have HPF : Hid (pathL pa.data.toList = false) := path_no_clean hcl
    have htn : (t.toList == pa.toList) = false := by rw [htq]; simpa using hcl
    clear htq hcl
    go_enter Tryd.func44, Tryd.ntmps44
    go_wp2_with fail
    refine mix_start (fun W => UrlAt W w.heap.size s h p pa q) (by kernel_rfl) ?_
    refine mix_seg [0, 1, 2, 3, 4, 5, 6, 7, 8, 9, 10, 11, 13, 14] (by kernel_rfl) ho.drew ?_
    simp only [segOf, pickOps, pickOp]
    repeat (go_big_quiet_step (fail))
    refine wpQuiet_nil ?_
    refine mix_run 12 (by kernel_rfl) ?_
    simp only [segOf, pickOps, pickOp]
    go_wp2_with fail
    refine (refClean_as pa t _ hpa HT.out).mono ?_
    rintro e w1 ⟨rfl, hb1⟩
    have ho1 : UrlAt w1 w.heap.size s h p pa q := ho.drew.below hb1 (by simp)
    have HB1 : Hid (Below w.heap.size w w1) := HB.out.drew.trans (hb1.mono HB.out.size)
    clear hb1
    go_wp2_with fail
    refine MixPost.normal ho1 ?_
    refine mix_seg [15, 16, 17, 18, 19, 20, 21, 22, 23, 24, 25, 26, 27] (by kernel_rfl) ho1 ?_
    simp only [segOf, pickOps, pickOp]
    repeat (go_big_quiet_step (fail))
    refine wpQuiet_nil ?_
    refine mix_done (by kernel_rfl) ?_
    go_wp2
    go_ret
    exact ⟨ret_bool (by rw [HPF.out]; rfl), HB1.out⟩
  have HPI : Hid (pathL pa.data.toList = freeL noPathL pa.data.toList) := path_is hcl
  have htn : (t.toList == pa.toList) = true := by rw [htq]; simpa using hcl
  clear htq hcl
  rcases Nat.eq_zero_or_pos q.size with hz | hq0
  · have he2 : q.toList.isEmpty = true := ba_isEmpty (nil_of_size hz)
    have HQI : Hid (queryL q.data.toList = freeL noQueryL q.data.toList) := query_is (.inl (nil_of_size hz))
    have HQS : Hid ((q.data.toList.take 1).all (freeB noQueryL) = true) := by show _ = _; rw [nil_of_size hz]; rfl
    clear hz
    go_enter Tryd.func44, Tryd.ntmps44
    go_wp2_with fail
    refine mix_start (fun W => UrlAt W w.heap.size s h p pa q) (by kernel_rfl) ?_
    refine mix_seg [0, 1, 2, 3, 4, 5, 6, 7, 8, 9, 10, 11, 13, 14] (by kernel_rfl) ho.drew ?_
    simp only [segOf, pickOps, pickOp]
    repeat (go_big_quiet_step (fail))
    refine wpQuiet_nil ?_
    refine mix_run 12 (by kernel_rfl) ?_
    simp only [segOf, pickOps, pickOp]
    go_wp2_with fail
    refine (refClean_as pa t _ hpa HT.out).mono ?_
    rintro e w1 ⟨rfl, hb1⟩
    have ho1 : UrlAt w1 w.heap.size s h p pa q := ho.drew.below hb1 (by simp)
    have HB1 : Hid (Below w.heap.size w w1) := HB.out.drew.trans (hb1.mono HB.out.size)
    clear hb1
    go_wp2_with fail
    refine MixPost.normal ho1 ?_
    refine mix_seg [15, 16, 17, 18, 19, 20, 21, 22, 23, 24, 25, 26, 27] (by kernel_rfl) ho1 ?_
    simp only [segOf, pickOps, pickOp]
    repeat (go_big_quiet_step (fail))
    refine wpQuiet_nil ?_
    refine mix_done (by kernel_rfl) ?_
    obtain ⟨a0, a1, a2, a3, a4⟩ := ho1
    go_wp2
    go_loop [3] (fun i => ∃ k : Nat, k ≤ pa.size ∧ i = .int .i64 k ∧ (pa.data.toList.take k).all (freeB noPathL) = true) (fun i => pa.size - (intOf i).toNat)
    case atStart => exact ⟨0, Nat.zero_le _, rfl, rfl⟩
    case round =>
      obtain ⟨k, hk, rfl, ha⟩ := hrel
      have HA := Lib.hid ha
      clear ha
      by_cases hlt : k < pa.size
      · cases hc : freeB noPathL pa[k]
        · have HC := Lib.hid hc
          clear hc
          go_wp2_with fail
          refine (pathByte_any _ _).mono ?_
          rintro e w' ⟨rfl, rfl⟩
          rw [HC.out]
          go_wp2
          go_ret
          exact ⟨ret_bool (by rw [HPI.out, freeL, Lk.all_no hlt HC.out]; rfl), HB1.out⟩
        · have HC := Lib.hid hc
          clear hc
          go_wp2_with fail
          refine (pathByte_any _ _).mono ?_
          rintro e w' ⟨rfl, rfl⟩
          rw [HC.out]
          go_wp2
          go_round
          case rel => exact ⟨k + 1, by omega, by go_num, Lk.all_step hlt HA.out HC.out⟩
          case measure => simp [intOf]; omega
      · have HPT : Hid (pathL pa.data.toList = true) := by
          have := HA.out
          rw [Lk.take_all pa k (by omega)] at this
          show _ = _
          rw [HPI.out, freeL, this]
        go_wp2
        go_loop [4] (fun i => ∃ k : Nat, 1 ≤ k ∧ (k ≤ q.size ∨ k = 1) ∧ i = .int .i64 k ∧ (q.data.toList.take k).all (freeB noQueryL) = true) (fun i => q.size - (intOf i).toNat)
        case atStart => exact ⟨1, Nat.le_refl _, .inr rfl, rfl, HQS.out⟩
        case round =>
          obtain ⟨k, hk1, hk2, rfl, ha⟩ := hrel
          have HA2 := Lib.hid ha
          clear ha
          by_cases hlt2 : k < q.size
          · cases hc : freeB noQueryL q[k]
            · have HC := Lib.hid hc
              clear hc
              go_wp2_with fail
              refine (queryByte_any _ _).mono ?_
              rintro e w' ⟨rfl, rfl⟩
              rw [HC.out]
              go_wp2
              go_ret
              exact ⟨ret_bool (by rw [HQI.out, freeL, Lk.all_no hlt2 HC.out]; simp), HB1.out⟩
            · have HC := Lib.hid hc
              clear hc
              go_wp2_with fail
              refine (queryByte_any _ _).mono ?_
              rintro e w' ⟨rfl, rfl⟩
              rw [HC.out]
              go_wp2
              go_round
              case rel => exact ⟨k + 1, by omega, .inl (by omega), by go_num, Lk.all_step hlt2 HA2.out HC.out⟩
              case measure => simp [intOf]; omega
          · have HQT : Hid (queryL q.data.toList = true) := by
              have := HA2.out
              rw [Lk.take_all q k (by omega)] at this
              show _ = _
              rw [HQI.out, freeL, this]
            go_wp2
            go_ret
            exact ⟨ret_bool (by rw [HPT.out, HQT.out]; rfl), HB1.out⟩
  have he2 : q.toList.isEmpty = false := ba_notEmpty (ne_of_size hq0)
  have hhq := head_byte hq0
  have hnq := ne_byte q[0] 63
  by_cases h63 : q[0] = 63
  rotate_left
  · have HQF : Hid (queryL q.data.toList = false) := query_no (ne_of_size hq0) (by rw [hhq]; simpa using h63)
    have hn63 : ((q[0].toNat : Int) != 63) = true := by
      have : ((q[0].toNat : Int) != 63) = decide (q[0] ≠ 63) := hnq
      rw [this]; simpa using h63
    clear h63 hnq hhq
    go_enter Tryd.func44, Tryd.ntmps44
    go_wp2_with fail
    refine mix_start (fun W => UrlAt W w.heap.size s h p pa q) (by kernel_rfl) ?_
    refine mix_seg [0, 1, 2, 3, 4, 5, 6, 7, 8, 9, 10, 11, 13, 14] (by kernel_rfl) ho.drew ?_
    simp only [segOf, pickOps, pickOp]
    repeat (go_big_quiet_step (fail))
    refine wpQuiet_nil ?_
    refine mix_run 12 (by kernel_rfl) ?_
    simp only [segOf, pickOps, pickOp]
    go_wp2_with fail
    refine (refClean_as pa t _ hpa HT.out).mono ?_
    rintro e w1 ⟨rfl, hb1⟩
    have ho1 : UrlAt w1 w.heap.size s h p pa q := ho.drew.below hb1 (by simp)
    have HB1 : Hid (Below w.heap.size w w1) := HB.out.drew.trans (hb1.mono HB.out.size)
    clear hb1
    go_wp2_with fail
    refine MixPost.normal ho1 ?_
    refine mix_seg [15, 16, 17, 18, 19, 20, 21, 22, 23, 24, 25, 26, 27] (by kernel_rfl) ho1 ?_
    simp only [segOf, pickOps, pickOp]
    repeat (go_big_quiet_step (fail))
    refine wpQuiet_nil ?_
    refine mix_done (by kernel_rfl) ?_
    go_wp2
    go_ret
    exact ⟨ret_bool (by rw [HQF.out]; simp), HB1.out⟩
  have hn63 : ((q[0].toNat : Int) != 63) = false := by
    have : ((q[0].toNat : Int) != 63) = decide (q[0] ≠ 63) := hnq
    rw [this]; simpa using h63
  have HQI : Hid (queryL q.data.toList = freeL noQueryL q.data.toList) := query_is (.inr (by rw [hhq, h63]))
  have HQS : Hid ((q.data.toList.take 1).all (freeB noQueryL) = true) := by
    show _ = _
    cases hl : q.data.toList with
    | nil => rfl
    | cons x r =>
      rw [hl] at hhq
      simp only [List.head?_cons, Option.some.injEq] at hhq
      rw [hhq, h63]; rfl
  clear h63 hnq hhq
  go_enter Tryd.func44, Tryd.ntmps44
  go_wp2_with fail
  refine mix_start (fun W => UrlAt W w.heap.size s h p pa q) (by kernel_rfl) ?_
  refine mix_seg [0, 1, 2, 3, 4, 5, 6, 7, 8, 9, 10, 11, 13, 14] (by kernel_rfl) ho.drew ?_
  simp only [segOf, pickOps, pickOp]
  repeat (go_big_quiet_step (fail))
  refine wpQuiet_nil ?_
  refine mix_run 12 (by kernel_rfl) ?_
  simp only [segOf, pickOps, pickOp]
  go_wp2_with fail
  refine (refClean_as pa t _ hpa HT.out).mono ?_
  rintro e w1 ⟨rfl, hb1⟩
  have ho1 : UrlAt w1 w.heap.size s h p pa q := ho.drew.below hb1 (by simp)
  have HB1 : Hid (Below w.heap.size w w1) := HB.out.drew.trans (hb1.mono HB.out.size)
  clear hb1
  go_wp2_with fail
  refine MixPost.normal ho1 ?_
  refine mix_seg [15, 16, 17, 18, 19, 20, 21, 22, 23, 24, 25, 26, 27] (by kernel_rfl) ho1 ?_
  simp only [segOf, pickOps, pickOp]
  repeat (go_big_quiet_step (fail))
  refine wpQuiet_nil ?_
  refine mix_done (by kernel_rfl) ?_
  obtain ⟨a0, a1, a2, a3, a4⟩ := ho1
  go_wp2
  go_loop [3] (fun i => ∃ k : Nat, k ≤ pa.size ∧ i = .int .i64 k ∧ (pa.data.toList.take k).all (freeB noPathL) = true) (fun i => pa.size - (intOf i).toNat)
  case atStart => exact ⟨0, Nat.zero_le _, rfl, rfl⟩
  case round =>
    obtain ⟨k, hk, rfl, ha⟩ := hrel
    have HA := Lib.hid ha
    clear ha
    by_cases hlt : k < pa.size
    · cases hc : freeB noPathL pa[k]
      · have HC := Lib.hid hc
        clear hc
        go_wp2_with fail
        refine (pathByte_any _ _).mono ?_
        rintro e w' ⟨rfl, rfl⟩
        rw [HC.out]
        go_wp2
        go_ret
        exact ⟨ret_bool (by rw [HPI.out, freeL, Lk.all_no hlt HC.out]; rfl), HB1.out⟩
      · have HC := Lib.hid hc
        clear hc
        go_wp2_with fail
        refine (pathByte_any _ _).mono ?_
        rintro e w' ⟨rfl, rfl⟩
        rw [HC.out]
        go_wp2
        go_round
        case rel => exact ⟨k + 1, by omega, by go_num, Lk.all_step hlt HA.out HC.out⟩
        case measure => simp [intOf]; omega
    · have HPT : Hid (pathL pa.data.toList = true) := by
        have := HA.out
        rw [Lk.take_all pa k (by omega)] at this
        show _ = _
        rw [HPI.out, freeL, this]
      go_wp2
      go_loop [4] (fun i => ∃ k : Nat, 1 ≤ k ∧ (k ≤ q.size ∨ k = 1) ∧ i = .int .i64 k ∧ (q.data.toList.take k).all (freeB noQueryL) = true) (fun i => q.size - (intOf i).toNat)
      case atStart => exact ⟨1, Nat.le_refl _, .inr rfl, rfl, HQS.out⟩
      case round =>
        obtain ⟨k, hk1, hk2, rfl, ha⟩ := hrel
        have HA2 := Lib.hid ha
        clear ha
        by_cases hlt2 : k < q.size
        · cases hc : freeB noQueryL q[k]
          · have HC := Lib.hid hc
            clear hc
            go_wp2_with fail
            refine (queryByte_any _ _).mono ?_
            rintro e w' ⟨rfl, rfl⟩
            rw [HC.out]
            go_wp2
            go_ret
            exact ⟨ret_bool (by rw [HQI.out, freeL, Lk.all_no hlt2 HC.out]; simp), HB1.out⟩
          · have HC := Lib.hid hc
            clear hc
            go_wp2_with fail
            refine (queryByte_any _ _).mono ?_
            rintro e w' ⟨rfl, rfl⟩
            rw [HC.out]
            go_wp2
            go_round
            case rel => exact ⟨k + 1, by omega, .inl (by omega), by go_num, Lk.all_step hlt2 HA2.out HC.out⟩
            case measure => simp [intOf]; omega
        · have HQT : Hid (queryL q.data.toList = true) := by
            have := HA2.out
            rw [Lk.take_all q k (by omega)] at this
            show _ = _
            rw [HQI.out, freeL, this]
          go_wp2
          go_ret
          exact ⟨ret_bool (by rw [HPT.out, HQT.out]; rfl), HB1.out⟩
end Go.Proofs.YtfamllkmmiajoaaDoor
