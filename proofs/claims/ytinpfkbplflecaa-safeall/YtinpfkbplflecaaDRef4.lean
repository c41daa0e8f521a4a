/-
  Contracts of the document's own Rising of layer 1 and Names of layer 6, over this seat's program, by the same plain mathematics as header's. Conditions: at most a thousand texts.
-/
import Derived.Test.YtinpfkbplflecaaVRows
import Derived.Test.YtinpfkbplflecaaLRef1
import Derived.Laws.CopyOwn
import Derived.Sort.Walk0
namespace Go.Proofs.Ytinpfkbplflecaa
open Go.RowKit

theorem SRow.up {w : World} {B B' : Nat} {A : Option Addr} {xs : List ByteArray} (h : SRow w B A xs) (hb : B ≤ B') : SRow w B' A xs := by
  intro j x hj
  obtain ⟨ad, e, hB, hc⟩ := h j x hj
  exact ⟨ad, e, by omega, hc⟩
theorem sown_block {w : World} {base g n cap : Nat} {l : List Tx} (h : sown w base (.slice (some ⟨g, 0, none⟩) n cap) l) : ∃ cur : List Value, w.heap[g]? = some (.cells cur.toArray 9 (0, 0)) ∧ cur.length = cap ∧ cur.take l.length = l.map sv ∧ base ≤ g ∧ n = l.length ∧ n ≤ cap ∧ cap ≤ maxLen := by
  rcases h.2 with ⟨h', _⟩ | ⟨g', cap', cur, h', hb, hg, hnc, hcm, hcs, htake⟩
  · simp at h'
  · simp only [Value.slice.injEq, Option.some.injEq, Addr.mk.injEq, and_true] at h'
    obtain ⟨rfl, rfl, rfl⟩ := h'
    exact ⟨cur.toList, by simpa using hg, by simpa using hcs, by simpa using htake, hb, rfl, hnc, hcm⟩
theorem sown_src {w : World} {base g cap m : Nat} {l : List Tx} (h : sown w base (.slice (some ⟨g, 0, none⟩) (l.length + 1) cap) (l ++ [[]])) : ∀ j v, ((l.drop m).map sv)[j]? = some v → w.cell? ⟨g, m + j, none⟩ = some v := by
  intro j v hj
  rw [List.getElem?_map, List.getElem?_drop] at hj
  cases hx : l[m + j]? with
  | none => rw [hx] at hj; cases hj
  | some y =>
    obtain ⟨hjl, hy⟩ := List.getElem?_eq_some_iff.1 hx
    have h1 := (sown_slot h (by simp) (m + j) (by simp; omega)).1
    rw [hx] at hj
    obtain rfl : sv y = v := by simpa using hj
    rw [h1, List.getElem_append_left hjl, hy]
    rfl
theorem add_off (g m j : Nat) : (⟨g, m, none⟩ : Addr).add j = ⟨g, m + j, none⟩ := by
  unfold Addr.add; split
  · subst_vars; rfl
  · rfl
/-- the row behind the copy: what stood from m on has gone one place up -/
theorem sown_moved {w : World} {base g cap m : Nat} {l : List Tx} {cur : List Value} (hm : m ≤ l.length) (hl : cur.length = cap) (ht : cur.take (l.length + 1) = (l ++ [[]]).map sv) (hbg : base ≤ g) (hc : l.length + 1 ≤ cap) (hcm : cap ≤ maxLen)
    (hg : w.heap[g]? = some (.cells (splice cur (m + 1) ((l.drop m).map sv)).toArray 9 (0, 0))) :
    sown w base (.slice (some ⟨g, 0, none⟩) (l.length + 1) cap) ((l ++ [[]]).take (m + 1) ++ l.drop m) := by
  have hlen : ((l ++ [[]]).take (m + 1) ++ l.drop m).length = l.length + 1 := by simp; omega
  refine ⟨by simp, .inr ⟨g, cap, (splice cur (m + 1) ((l.drop m).map sv)).toArray, by rw [hlen], hbg, hg, by omega, hcm, ?_, ?_⟩⟩
  · rw [List.size_toArray, length_splice _ _ _ (by simp; omega)]; omega
  · rw [hlen, Nat.mul_one]
    unfold splice
    show List.take (l.length + 1) (cur.take (m + 1) ++ ((l.drop m).map sv ++ cur.drop (m + 1 + ((l.drop m).map sv).length))) = _
    have e1 : cur.take (m + 1) = ((l ++ [[]]).take (m + 1)).map sv := by
      have := congrArg (List.take (m + 1)) ht
      rw [List.take_take, Nat.min_eq_left (by omega)] at this
      rw [this, List.map_take]
    have e2 : (cur.take (m + 1) ++ (l.drop m).map sv).length = l.length + 1 := by simp; omega
    rw [← List.append_assoc, List.take_append_of_le_length (by omega), List.take_of_length_le (by omega), e1, List.map_append]
theorem rise_set (l : List Tx) (m : Nat) (x : Tx) (hm : m ≤ l.length) : ((l ++ [[]]).take (m + 1) ++ l.drop m).set m x = l.take m ++ x :: l.drop m := by
  have h1 : (l ++ [[]]).take (m + 1) = l.take m ++ [(l ++ [[]])[m]'(by simp; omega)] := by
    rw [List.take_succ_eq_append_getElem (by simp; omega), List.take_append_of_le_length hm]
  rw [h1, List.append_assoc, List.set_append_right _ _ (by simp; omega)]
  have : m - (l.take m).length = 0 := by simp; omega
  rw [this]; rfl
theorem dat_take (xs : List ByteArray) (k : Nat) (h : k < xs.length) : dat (xs.take (k + 1)) = dat (xs.take k) ++ [xs[k].data.toList] := by
  rw [List.take_succ_eq_append_getElem h, dat_snoc]

set_option maxRecDepth 100000 in
set_option maxHeartbeats 4000000 in
theorem refRising_any (A : Option Addr) (len c B : Nat) (xs : List ByteArray) (w : World) (hlen : len = xs.length) (hB : B ≤ w.heap.size) (hx : SRow w B A xs) (hl : xs.length ≤ 1000) :
    Calls Try.prog 59 #[.slice A len c] w fun e w' => ∃ v, e = .returned v ∧ sown w' w.heap.size v (risL (dat xs)) ∧ Below w.heap.size w w' := by
  subst hlen
  have HX : Hid (SRow w w.heap.size A xs) := hx.up hB
  clear hx
  obtain ⟨i0, hi, hz0, hz1, hz2⟩ := info_parts infoS
  go_enter Try.func59, Try.ntmps59
  go_wp2_with fail
  go_loopw [3, 4] (fun v i wr => ∃ (k : Nat) (dl : List Tx), k ≤ xs.length ∧ i = .int .i64 k ∧ dl = risL (dat (xs.take k)) ∧ sown wr w.heap.size v dl ∧ Below w.heap.size w wr) (fun _ i _ => xs.length - (intOf i).toNat)
  case atStart => exact ⟨0, [], Nat.zero_le _, rfl, rfl, World.ownsRow_nil _ _ _ _, Below.refl _ _⟩
  case round =>
    obtain ⟨k, dl, hk, rfl, hdl, hr, hb⟩ := hrel
    have hdk : dl.length ≤ k := by
      rw [hdl]
      have := ris_len (dat (xs.take k))
      rw [dat_len, List.length_take] at this; omega
    have HDL := Lib.hid hdl
    have HRR := Lib.hid hr
    have HBB := Lib.hid hb
    clear hr hb hdl
    obtain ⟨W0, hW0⟩ : ∃ W0, W0 = wr := ⟨_, rfl⟩
    rw [← hW0] at HRR HBB
    by_cases hlt : k < xs.length
    · obtain ⟨ad, hA, _, hc⟩ := (HX.out.below HBB.out) k xs[k] (List.getElem?_eq_getElem hlt)
      have HSN := Lib.hid (dat_take xs k hlt)
      have HXC : Hid (∀ W, Below w.heap.size w W → W.cell? (ad.add k) = some (.string xs[k])) := by
        intro W hW
        obtain ⟨ad', hA', _, hc'⟩ := (HX.out.below hW) k xs[k] (List.getElem?_eq_getElem hlt)
        rw [hA] at hA'
        obtain rfl : ad = ad' := by simpa using hA'
        exact hc'
      generalize xs[k] = x at *
      subst hA
      obtain ⟨Ao, co, hv, hlc, hsr⟩ := trow_of HRR.out
      subst hv
      have HSR := Lib.hid hsr
      clear hsr hc
      go_wp2_with fail
      go_loopw [5] (fun j wr2 => ∃ m q : Nat, m ≤ dl.length ∧ j = .int .i64 m ∧ wr2 = W0.drewN q ∧ ∀ p (h : p < dl.length), p < m → dl[p] < x.data.toList) (fun j _ => dl.length - (intOf j).toNat)
      case atStart => exact ⟨0, 0, Nat.zero_le _, rfl, hW0.symm, fun p _ h => absurd h (Nat.not_lt_zero p)⟩
      case round =>
        obtain ⟨m, q, hm, rfl, hw2, hless⟩ := hrel
        have HLS := Lib.hid hless
        have HW2 := Lib.hid hw2
        clear hless hw2 hW0
        by_cases hml : m < dl.length
        · have hxc : wr.cell? (ad.add k) = some (.string x) := by rw [HW2.out]; exact HXC.out W0 HBB.out
          obtain ⟨a2, hAo, _, hc2⟩ := HSR.out m (mk dl[m]) (by simp [hml])
          have hyc : wr.cell? (a2.add m) = some (.string (mk dl[m])) := by rw [HW2.out]; exact hc2
          have HY : Hid ((mk dl[m]).data.toList = dl[m]) := mk_data _
          have HLM : Hid ((∀ p (h : p < dl.length), p < m + 1 → dl[p] < x.data.toList) ↔ dl[m] < x.data.toList) := by
            constructor
            · intro h; exact h m hml (by omega)
            · intro h p hp hpm
              rcases (by omega : p < m ∨ p = m) with h1 | rfl
              · exact HLS.out p hp h1
              · exact h
          have HTH : Hid (dl[m] = x.data.toList → insU dl x.data.toList = dl) := fun e => ins_there hml HLS.out e
          have HNW : Hid (¬ dl[m] < x.data.toList → dl[m] ≠ x.data.toList → insU dl x.data.toList = dl.take m ++ x.data.toList :: dl.drop m) := fun h1 h2 => ins_new hm HLS.out (fun _ => ⟨h1, h2⟩)
          generalize mk dl[m] = y at *
          generalize dl[m] = ym at *
          subst hAo
          have hml2 : ((m : Int) < (dl.length : Int)) := by omega
          have hkl2 : ((k : Int) < (xs.length : Int)) := by omega
          cases hls : Op.bytesLess y.toList x.toList
          · have HNL : Hid (¬ ym < x.data.toList) := by
              show ¬ _
              rw [bytesLess_eq, ByteArray.toList_eq, ByteArray.toList_eq, HY.out] at hls
              exact of_decide_eq_false hls
            cases heq : y.toList == x.toList
            · have HNE : Hid (ym ≠ x.data.toList) := by
                show _ ≠ _
                rw [ByteArray.toList_eq, ByteArray.toList_eq, HY.out, beq_eq_false_iff_ne] at heq
                exact heq
              have HINS := Lib.hid (HNW.out HNL.out HNE.out)
              go_wp2_with fail
              go_quiet (fail)
              go_wp2_with fail
              obtain ⟨wq, hwq⟩ : ∃ wq, wq = wr.drewN nq := ⟨_, rfl⟩
              have hxc2 : wq.cell? (ad.add k) = some (.string x) := by rw [hwq]; exact hxc
              have hyc2 : wq.cell? (a2.add m) = some (.string y) := by rw [hwq]; exact hyc
              have HWQ : Hid (∃ n, wq = W0.drewN n) := by rw [hwq, HW2.out, World.drewN_drewN]; exact ⟨_, rfl⟩
              rw [← hwq]
              clear hwq hxc hyc
              go_quiet (fail)
              obtain ⟨W1, hW1⟩ : ∃ W1, W1 = wq.drewN nq := ⟨_, rfl⟩
              rw [← hW1]
              have HW1 : Hid (∃ n, W1 = W0.drewN n) := by obtain ⟨n, hn⟩ := HWQ.out; rw [hW1, hn, World.drewN_drewN]; exact ⟨_, rfl⟩
              clear hW1 hxc2 hyc2
              obtain ⟨n1, hn1⟩ := HW1.out
              have HR1 : Hid (sown W1 w.heap.size (.slice (some a2) dl.length co) dl) := by rw [hn1]; exact ownsRow_drewN HRR.out n1
              have HB1 : Hid (Below w.heap.size w W1) := by rw [hn1]; exact below_drewN HBB.out n1
              clear hn1
              go_wp2_with (at_builtin; refine wpList_append_own _ rfl (.tmp 44) (.tmp 45) 36 rfl w.heap.size 9 i0 (.string ⟨#[]⟩) 1 16 Try.underlying36 hi hz0 hz1 hz2 rfl (by decide) _ _ _ rfl (World.ownsRow.alloc (w := W1) HR1.out _) ⟨W1.heap.size, 0, none⟩ 1 1 [.string ⟨#[]⟩] rfl rfl ?cx1 ?cx2 ?cx3 ?cx4 ?cx5 ?_)
              case cx1 => exact cell_one_new _ _ _
              case cx2 => intro u hu; simp at hu; subst hu; rfl
              case cx3 => unfold maxLen; omega
              case cx4 => omega
              case cx5 => have := HB1.out.size; simp; omega
              intro v' w3 hown' hgrow _
              have hr3 : sown w3 w.heap.size v' (dl ++ [[]]) := by
                unfold sown; rw [List.length_append, List.map_append]; exact hown'
              have HB3 : Hid (Below w.heap.size w w3) := (HB1.out.alloc HB1.out.size _).grown hgrow (by have := HB1.out.size; simp; omega) (fun b hb => (HR1.out.lt b hb).1)
              clear hown' hgrow
              rcases sown_form hr3 with ⟨_, hn⟩ | ⟨g, cap, hv, hgb, _, hlc3⟩
              · simp at hn
              simp only [List.length_append, List.length_cons, List.length_nil, Nat.zero_add] at hv hlc3
              subst hv
              obtain ⟨cur, hcur, hcl, hct, k1, k2, k3, hcm⟩ := sown_block hr3
              clear k1 k2 k3
              simp only [List.length_append, List.length_cons, List.length_nil, Nat.zero_add] at hct
              obtain ⟨cs, hcs⟩ : ∃ cs, cs = (dl.drop m).map sv := ⟨_, rfl⟩
              have hcsl : cs.length = dl.length - m := by rw [hcs]; simp
              have HSRC : Hid (∀ j v, cs[j]? = some v → w3.cell? ⟨g, m + j, none⟩ = some v) := by rw [hcs]; exact sown_src hr3
              have HONE : Hid (∀ v ∈ cs, v.oneCell' = true) := by
                intro v hv
                rw [hcs] at hv
                obtain ⟨y0, _, rfl⟩ := List.mem_map.1 hv
                rfl
              have HCUR := Lib.hid hcur
              have HCT := Lib.hid hct
              have HCS := Lib.hid hcs
              have HCL := Lib.hid hcl
              have HCSL := Lib.hid hcsl
              clear hcur hct hcs hr3 hcl hcsl
              go_wp2_with fail
              refine mix_start (fun _ => True) (by kernel_rfl) ?_
              have hne : Nonempty (Held (fun _ : World => True)) := ⟨⟨w3, trivial⟩⟩
              by_cases hcap : m + 1 < cap
              · refine mix_seg [0, 1, 2, 3, 4, 5, 6] (by kernel_rfl) trivial ?_
                simp only [segOf, pickOps, pickOp]
                repeat (go_big_quiet_step (fail))
                refine wpQuiet_nil ?_
                refine mix_run 7 (by kernel_rfl) ?_
                simp only [segOf, pickOps, pickOp]
                refine wpList_copy_splice rfl (.tmp 50) (.tmp 53) 36 36 rfl 9 Try.underlying36 (by kernel_rfl) _ _ _ _ _ _ rfl rfl g (m + 1) cur 9 HCUR.out cs ?gx2a ?gx3a (by have h8 := HCL.out; have h9 := HCSL.out; first | omega | (rw [h9]; simp; omega) | (rw [h9, h8]; simp)) HONE.out w.heap.size w HB3.out.drew hgb ?_
                case gx2a =>
                  have h9 := HCSL.out
                  first
                    | (rw [h9]; exact (Nat.min_eq_right (by omega)).symm)
                    | (rw [h9]; rfl)
                    | (simp at h9; rw [h9]; rfl)
                case gx3a =>
                  intro hpos
                  first
                    | exact ⟨rfl, _, rfl, fun j v hj => by rw [add_off]; exact HSRC.out j v hj⟩
                    | (exfalso; have h9 := HCSL.out; rw [h9] at hpos; simp at hpos)
                intro w4 hg4 hb4
                rw [HCS.out] at hg4
                have hr4 := sown_moved (w := w4) (m := m) (by omega) HCL.out HCT.out hgb hlc3 hcm hg4.out
                have HB4 := Lib.hid hb4
                have hxc4 := HXC.out w4 hb4
                obtain ⟨s1, s2⟩ := sown_slot hr4 (by simp <;> omega) m (by simp <;> omega)
                have hset := sown_set hr4 (by simp <;> omega) m x
                rw [rise_set dl m x.data.toList (by omega), ← HINS.out] at hset
                have HSET := Lib.hid hset
                have HNB : Hid (Below w.heap.size w (w4.setCell ⟨g, m, none⟩ (.string x))) := HB4.out.setCell (p := ⟨g, m, none⟩) hgb _
                generalize mk (((dl ++ [[]]).take (m + 1) ++ dl.drop m)[m]'(by simp <;> omega)) = o1 at *
                clear hr4 hg4 hb4 hset
                go_wp2_with fail
                refine MixPost.normal trivial ?_
                refine mix_done (by kernel_rfl) ?_
                go_wp2
                go_roundw
                case rel => exact ⟨k + 1, insU dl x.data.toList, by omega, by go_num, by rw [HSN.out, ris_snoc, ← HDL.out], HSET.out, HNB.out⟩
                case measure => simp [intOf]; omega
              · exfalso; omega
            · have HEQ : Hid (ym = x.data.toList) := by
                show _ = _
                rw [ByteArray.toList_eq, ByteArray.toList_eq, HY.out, beq_iff_eq] at heq
                exact heq
              have HINS := Lib.hid (HTH.out HEQ.out)
              go_wp2_with fail
              go_quiet (fail)
              go_wp2_with fail
              obtain ⟨wq, hwq⟩ : ∃ wq, wq = wr.drewN nq := ⟨_, rfl⟩
              have hxc2 : wq.cell? (ad.add k) = some (.string x) := by rw [hwq]; exact hxc
              have hyc2 : wq.cell? (a2.add m) = some (.string y) := by rw [hwq]; exact hyc
              have HWQ : Hid (∃ n, wq = W0.drewN n) := by rw [hwq, HW2.out, World.drewN_drewN]; exact ⟨_, rfl⟩
              rw [← hwq]
              clear hwq hxc hyc
              go_quiet (fail)
              obtain ⟨W1, hW1⟩ : ∃ W1, W1 = wq.drewN nq := ⟨_, rfl⟩
              rw [← hW1]
              have HW1 : Hid (∃ n, W1 = W0.drewN n) := by obtain ⟨n, hn⟩ := HWQ.out; rw [hW1, hn, World.drewN_drewN]; exact ⟨_, rfl⟩
              clear hW1 hxc2 hyc2
              go_wp2
              go_roundw
              case rel =>
                obtain ⟨n, hn⟩ := HW1.out
                exact ⟨k + 1, dl, by omega, by go_num, by rw [HSN.out, ris_snoc, ← HDL.out, HINS.out], by rw [hn]; exact ownsRow_drewN HRR.out n, by rw [hn]; exact below_drewN HBB.out n⟩
              case measure => simp [intOf]; omega
          · have HL : Hid (ym < x.data.toList) := by
              show _ < _
              rw [bytesLess_eq, ByteArray.toList_eq, ByteArray.toList_eq, HY.out] at hls
              exact of_decide_eq_true hls
            go_wp2_with fail
            go_quiet (fail)
            go_wp2
            go_roundw
            case rel => exact ⟨m + 1, _, by omega, by go_num, by rw [HW2.out, World.drewN_drewN], HLM.out.2 HL.out⟩
            case measure => simp [intOf]; omega
        · obtain rfl : m = dl.length := by omega
          have HINS : Hid (insU dl x.data.toList = dl.take dl.length ++ x.data.toList :: dl.drop dl.length) := ins_new (Nat.le_refl _) HLS.out (fun h => absurd h (Nat.lt_irrefl _))
          go_wp2_with fail
          go_quiet (fail)
          go_wp2_with fail
          obtain ⟨wq, hwq⟩ : ∃ wq, wq = wr.drewN nq := ⟨_, rfl⟩
          have HWQ : Hid (∃ n, wq = W0.drewN n) := by rw [hwq, HW2.out, World.drewN_drewN]; exact ⟨_, rfl⟩
          rw [← hwq]
          clear hwq
          go_quiet (fail)
          obtain ⟨W1, hW1⟩ : ∃ W1, W1 = wq.drewN nq := ⟨_, rfl⟩
          rw [← hW1]
          have HW1 : Hid (∃ n, W1 = W0.drewN n) := by obtain ⟨n, hn⟩ := HWQ.out; rw [hW1, hn, World.drewN_drewN]; exact ⟨_, rfl⟩
          clear hW1
          obtain ⟨n1, hn1⟩ := HW1.out
          have HR1 : Hid (sown W1 w.heap.size (.slice Ao dl.length co) dl) := by rw [hn1]; exact ownsRow_drewN HRR.out n1
          have HB1 : Hid (Below w.heap.size w W1) := by rw [hn1]; exact below_drewN HBB.out n1
          clear hn1
          go_wp2_with (at_builtin; refine wpList_append_own _ rfl (.tmp 44) (.tmp 45) 36 rfl w.heap.size 9 i0 (.string ⟨#[]⟩) 1 16 Try.underlying36 hi hz0 hz1 hz2 rfl (by decide) _ _ _ rfl (World.ownsRow.alloc (w := W1) HR1.out _) ⟨W1.heap.size, 0, none⟩ 1 1 [.string ⟨#[]⟩] rfl rfl ?cy1 ?cy2 ?cy3 ?cy4 ?cy5 ?_)
          case cy1 => exact cell_one_new _ _ _
          case cy2 => intro u hu; simp at hu; subst hu; rfl
          case cy3 => unfold maxLen; omega
          case cy4 => omega
          case cy5 => have := HB1.out.size; simp; omega
          intro v' w3 hown' hgrow _
          have hr3 : sown w3 w.heap.size v' (dl ++ [[]]) := by
            unfold sown; rw [List.length_append, List.map_append]; exact hown'
          have HB3 : Hid (Below w.heap.size w w3) := (HB1.out.alloc HB1.out.size _).grown hgrow (by have := HB1.out.size; simp; omega) (fun b hb => (HR1.out.lt b hb).1)
          clear hown' hgrow
          rcases sown_form hr3 with ⟨_, hn⟩ | ⟨g, cap, hv, hgb, _, hlc3⟩
          · simp at hn
          simp only [List.length_append, List.length_cons, List.length_nil, Nat.zero_add] at hv hlc3
          subst hv
          obtain ⟨cur, hcur, hcl, hct, k1, k2, k3, hcm⟩ := sown_block hr3
          clear k1 k2 k3
          simp only [List.length_append, List.length_cons, List.length_nil, Nat.zero_add] at hct
          obtain ⟨cs, hcs⟩ : ∃ cs, cs = (dl.drop dl.length).map sv := ⟨_, rfl⟩
          have hcsl : cs.length = dl.length - dl.length := by rw [hcs]; simp
          have HSRC : Hid (∀ j v, cs[j]? = some v → w3.cell? ⟨g, dl.length + j, none⟩ = some v) := by rw [hcs]; exact sown_src hr3
          have HONE : Hid (∀ v ∈ cs, v.oneCell' = true) := by
            intro v hv
            rw [hcs] at hv
            obtain ⟨y0, _, rfl⟩ := List.mem_map.1 hv
            rfl
          have HCUR := Lib.hid hcur
          have HCT := Lib.hid hct
          have HCS := Lib.hid hcs
          have HCL := Lib.hid hcl
          have HCSL := Lib.hid hcsl
          clear hcur hct hcs hr3 hcl hcsl
          go_wp2_with fail
          refine mix_start (fun _ => True) (by kernel_rfl) ?_
          have hne : Nonempty (Held (fun _ : World => True)) := ⟨⟨w3, trivial⟩⟩
          by_cases hcap : dl.length + 1 < cap
          · refine mix_seg [0, 1, 2, 3, 4, 5, 6] (by kernel_rfl) trivial ?_
            simp only [segOf, pickOps, pickOp]
            repeat (go_big_quiet_step (fail))
            refine wpQuiet_nil ?_
            refine mix_run 7 (by kernel_rfl) ?_
            simp only [segOf, pickOps, pickOp]
            refine wpList_copy_splice rfl (.tmp 50) (.tmp 53) 36 36 rfl 9 Try.underlying36 (by kernel_rfl) _ _ _ _ _ _ rfl rfl g (dl.length + 1) cur 9 HCUR.out cs ?gy2a ?gy3a (by have h8 := HCL.out; have h9 := HCSL.out; first | omega | (rw [h9]; simp; omega) | (rw [h9, h8]; simp)) HONE.out w.heap.size w HB3.out.drew hgb ?_
            case gy2a =>
              have h9 := HCSL.out
              first
                | (rw [h9]; exact (Nat.min_eq_right (by omega)).symm)
                | (rw [h9]; rfl)
                | (simp at h9; rw [h9]; rfl)
            case gy3a =>
              intro hpos
              first
                | exact ⟨rfl, _, rfl, fun j v hj => by rw [add_off]; exact HSRC.out j v hj⟩
                | (exfalso; have h9 := HCSL.out; rw [h9] at hpos; simp at hpos)
            intro w4 hg4 hb4
            rw [HCS.out] at hg4
            have hr4 := sown_moved (w := w4) (m := dl.length) (by omega) HCL.out HCT.out hgb hlc3 hcm hg4.out
            have HB4 := Lib.hid hb4
            have hxc4 := HXC.out w4 hb4
            obtain ⟨s1, s2⟩ := sown_slot hr4 (by simp <;> omega) dl.length (by simp <;> omega)
            have hset := sown_set hr4 (by simp <;> omega) dl.length x
            rw [rise_set dl dl.length x.data.toList (by omega), ← HINS.out] at hset
            have HSET := Lib.hid hset
            have HNB : Hid (Below w.heap.size w (w4.setCell ⟨g, dl.length, none⟩ (.string x))) := HB4.out.setCell (p := ⟨g, dl.length, none⟩) hgb _
            generalize mk (((dl ++ [[]]).take (dl.length + 1) ++ dl.drop dl.length)[dl.length]'(by simp <;> omega)) = o1 at *
            clear hr4 hg4 hb4 hset
            go_wp2_with fail
            refine MixPost.normal trivial ?_
            refine mix_done (by kernel_rfl) ?_
            go_wp2
            go_roundw
            case rel => exact ⟨k + 1, insU dl x.data.toList, by omega, by go_num, by rw [HSN.out, ris_snoc, ← HDL.out], HSET.out, HNB.out⟩
            case measure => simp [intOf]; omega
          · obtain rfl : cap = dl.length + 1 := by omega
            refine mix_seg [0, 1, 2, 3, 4, 5, 6] (by kernel_rfl) trivial ?_
            simp only [segOf, pickOps, pickOp]
            repeat (go_big_quiet_step (fail))
            refine wpQuiet_nil ?_
            refine mix_run 7 (by kernel_rfl) ?_
            simp only [segOf, pickOps, pickOp]
            refine wpList_copy_splice rfl (.tmp 50) (.tmp 53) 36 36 rfl 9 Try.underlying36 (by kernel_rfl) _ _ _ _ _ _ rfl rfl g (dl.length + 1) cur 9 HCUR.out cs ?gy2b ?gy3b (by have h8 := HCL.out; have h9 := HCSL.out; first | omega | (rw [h9]; simp; omega) | (rw [h9, h8]; simp)) HONE.out w.heap.size w HB3.out.drew hgb ?_
            case gy2b =>
              have h9 := HCSL.out
              first
                | (rw [h9]; exact (Nat.min_eq_right (by omega)).symm)
                | (rw [h9]; rfl)
                | (simp at h9; rw [h9]; rfl)
            case gy3b =>
              intro hpos
              first
                | exact ⟨rfl, _, rfl, fun j v hj => by rw [add_off]; exact HSRC.out j v hj⟩
                | (exfalso; have h9 := HCSL.out; rw [h9] at hpos; simp at hpos)
            intro w4 hg4 hb4
            rw [HCS.out] at hg4
            have hr4 := sown_moved (w := w4) (m := dl.length) (by omega) HCL.out HCT.out hgb hlc3 hcm hg4.out
            have HB4 := Lib.hid hb4
            have hxc4 := HXC.out w4 hb4
            obtain ⟨s1, s2⟩ := sown_slot hr4 (by simp <;> omega) dl.length (by simp <;> omega)
            have hset := sown_set hr4 (by simp <;> omega) dl.length x
            rw [rise_set dl dl.length x.data.toList (by omega), ← HINS.out] at hset
            have HSET := Lib.hid hset
            have HNB : Hid (Below w.heap.size w (w4.setCell ⟨g, dl.length, none⟩ (.string x))) := HB4.out.setCell (p := ⟨g, dl.length, none⟩) hgb _
            generalize mk (((dl ++ [[]]).take (dl.length + 1) ++ dl.drop dl.length)[dl.length]'(by simp <;> omega)) = o1 at *
            clear hr4 hg4 hb4 hset
            go_wp2_with fail
            refine MixPost.normal trivial ?_
            refine mix_done (by kernel_rfl) ?_
            go_wp2
            go_roundw
            case rel => exact ⟨k + 1, insU dl x.data.toList, by omega, by go_num, by rw [HSN.out, ris_snoc, ← HDL.out], HSET.out, HNB.out⟩
            case measure => simp [intOf]; omega
    · obtain rfl : k = xs.length := by omega
      go_wp2
      go_ret
      refine ⟨_, rfl, ?_, ?_⟩
      · have h := HDL.out
        rw [List.take_length] at h
        rw [← h, ← hW0]
        exact HRR.out
      · rw [← hW0]; exact HBB.out
end Go.Proofs.Ytinpfkbplflecaa
