/-
  The walk of the law CorsOthers: whatever the input, it returns true, and nothing that was there has turned. Conditions: the arguments are such as any that come in.
-/
import Derived.Test.YtpfbkcibpmndoaaCAwake
namespace Go.Proofs.Ytpfbkcibpmndoaa
open Go.RowKit

theorem vals_put (l m : List Hd) (h : Hd) (n : List UInt8) (hn : Lk.foldL h.1 n = false) : valsH (l ++ [h] ++ m) n = valsH (l ++ m) n := by
  rw [vals_append, vals_append, vals_append, vals_cons, hn, vals_nil]; simp
theorem get_put (l m : List Hd) (h : Hd) (n : List UInt8) (hn : Lk.foldL h.1 n = false) : getH (l ++ [h] ++ m) n = getH (l ++ m) n := by unfold getH; rw [vals_put l m h n hn]
theorem got_put (l m : List Hd) (h : Hd) (n : List UInt8) (hn : Lk.foldL h.1 n = false) : gotH (l ++ [h] ++ m) n = gotH (l ++ m) n := by rw [got_vals, got_vals, vals_put l m h n hn]
theorem chk_put (o : List UInt8) (cr : Bool) (l : List Hd) (h : Hd) (k : Nat) (h1 : Lk.foldL h.1 orgN = false) (h2 : Lk.foldL h.1 crdN = false) : chkH o cr (l.take k ++ [h] ++ l.drop k) = chkH o cr l := by
  unfold chkH truH
  rw [get_put _ _ _ _ h1, got_put _ _ _ _ h1, get_put _ _ _ _ h2, List.take_append_drop]
theorem PRow.take {w : World} {B : Nat} {A : Option Addr} {xs : List (ByteArray × ByteArray)} (h : PRow w B A xs) (k : Nat) : PRow w B A (xs.take k) := by
  intro j x hj
  rw [List.getElem?_take] at hj
  split at hj
  · exact h j x hj
  · cases hj
theorem sm_put {xs : List (ByteArray × ByteArray)} {x : ByteArray × ByteArray} (k : Nat) (h1 : Bd (xs.map hd) 40 100 5000) (h2 : Bd ([x].map hd) 40 100 5000) : Sm (((xs.take k ++ [x]) ++ xs.drop k).map hd) := by
  have ht := congrArg List.length (List.take_append_drop k xs)
  refine ⟨?_, fun h hh => ?_⟩
  · have := h1.1
    simp only [List.length_map, List.length_append, List.length_cons, List.length_nil] at *
    omega
  · obtain ⟨y, hy, rfl⟩ := List.mem_map.1 hh
    rcases List.mem_append.1 hy with hy | hy
    · rcases List.mem_append.1 hy with hy | hy
      · have := h1.2 _ (List.mem_map_of_mem (List.mem_of_mem_take hy)); omega
      · have := h2.2 _ (List.mem_map_of_mem hy); omega
    · have := h1.2 _ (List.mem_map_of_mem (List.mem_of_mem_drop hy)); omega

set_option maxRecDepth 100000 in
set_option maxHeartbeats 8000000 in
theorem walk_CorsOthers (s : ByteArray) (cr : Bool) (a2 : Option Addr) (c2 : Nat) (xs : List (ByteArray × ByteArray)) (n v : ByteArray) (at_ : Int) (w : World) (h0 : s.size ≤ maxLen) (h2 : HArg w a2 c2 xs) (h3 : n.size ≤ maxLen) (h4 : v.size ≤ maxLen) (h5 : (Lit.int .i64 at_).wf = true) :
    Calls Try.prog 6 #[.string s, .bool cr, .slice a2 xs.length c2, .agg #[.string n, .string v], .int .i64 at_] w fun e w' => e = .returned (.bool true) ∧ Below w.heap.size w w' := by
  have HL0 : Hid (xs.length ≤ maxLen) := Nat.le_trans h2.2.2.1 h2.2.2.2.1
  have HLC : Hid (xs.length ≤ c2) := h2.2.2.1
  have HC2 : Hid (c2 ≤ maxLen) := h2.2.2.2.1
  have HNN : Hid (a2 = none → c2 = 0) := h2.2.2.2.2
  have HX0 := Lib.hid h2.1
  have HS0 := Lib.hid h2.2.1
  have HS := Lib.hid h0
  have H3 := Lib.hid h3
  have H4 := Lib.hid h4
  have H5 := Lib.hid h5
  clear h0 h2 h3 h4 h5
  obtain ⟨WB, hWB⟩ : ∃ WB, WB = w.alloc (.cells #[.string n, .string v] 35) := ⟨_, rfl⟩
  have hbb : Below w.heap.size w WB := by rw [hWB]; exact (Below.refl _ _).alloc (Nat.le_refl _) _
  have xb : HdAt WB w.heap.size n v := by rw [hWB]; exact HdAt.new _ _ _ _
  have eb : WB.heap.size = w.heap.size + 1 := by rw [hWB]; simp
  obtain ⟨W0, hW0⟩ : ∃ W0, W0 = WB.alloc (.cells #[.string s] 9) := ⟨_, rfl⟩
  have hb0 : Below WB.heap.size WB W0 := by rw [hW0]; exact (Below.refl _ _).alloc (Nat.le_refl _) _
  have HO : Hid (SRow W0 (w.heap.size + 1 + 1) (some ⟨w.heap.size + 1, 0, none⟩) [s]) := by show SRow _ _ _ _; rw [hW0]; exact SRow.one_at WB s _ _ eb.symm
  have HXB : Hid (HdAt W0 w.heap.size n v) := xb.below hb0 xb.lt
  have HB0 : Hid (Below w.heap.size w W0) := hbb.trans (hb0.mono hbb.size)
  have HP0 : Hid (PRow W0 w.heap.size a2 xs) := HX0.out.below HB0.out
  rw [hWB] at hW0
  clear hWB hbb xb eb hb0
  obtain ⟨W1, hW1⟩ : ∃ W1, W1 = W0.alloc (.cells #[.string n, .string v] 35) := ⟨_, rfl⟩
  have HB01 : Hid (Below W0.heap.size W0 W1) := by show Below _ _ _; rw [hW1]; exact (Below.refl _ _).alloc (Nat.le_refl _) _
  have HR1 : Hid (PRow W1 (W0.heap.size + 1) (some ⟨W0.heap.size, 0, none⟩) [(n, v)]) := by show PRow _ _ _ _; rw [hW1]; exact PRow.one_at _ _ _ _ _ rfl
  have HXB1 : Hid (HdAt W1 w.heap.size n v) := HXB.out.below HB01.out HXB.out.lt
  have HB1 : Hid (Below w.heap.size w W1) := HB0.out.trans (HB01.out.mono HB0.out.size)
  have HP1 : Hid (PRow W1 w.heap.size a2 xs) := HX0.out.below HB1.out
  have HW1 := Lib.hid hW1
  clear hW1
  obtain ⟨lv, hlv⟩ : ∃ lv, Lk.longL (Int.toNat 700) ([s].map ByteArray.size) = lv := ⟨_, rfl⟩
  have HLV := Lib.hid hlv
  obtain ⟨g1, hg1⟩ : ∃ g1, greatB xs = g1 := ⟨_, rfl⟩
  have HG1 := Lib.hid hg1
  obtain ⟨g2, hg2⟩ : ∃ g2, greatB [(n, v)] = g2 := ⟨_, rfl⟩
  have HG2 := Lib.hid hg2
  obtain ⟨f1, hf1⟩ : ∃ f1, f1 = Lk.foldL n.data.toList orgN := ⟨_, rfl⟩
  have HF1 := Lib.hid hf1
  obtain ⟨f2, hf2⟩ : ∃ f2, f2 = Lk.foldL n.data.toList crdN := ⟨_, rfl⟩
  have HF2 := Lib.hid hf2
  clear hlv hg1 hg2 hf1 hf2
  go_enter Try.func6, Try.ntmps6
  go_wp2_with fail
  rw [← hW0]
  clear hW0
  refine (Long_any 700 _ 1 1 [s] W0 (w.heap.size + 1 + 1) (by decide) (by decide) rfl HO.out (by simp [maxLen]) (by intro x hx; simp at hx; subst hx; exact HS.out)).mono ?_
  rintro e w' ⟨rfl, rfl⟩
  rw [show Lk.longL (Int.toNat 700) ([s].map ByteArray.size) = lv from HLV.out]
  cases lv
  case true =>
    go_wp2_with fail
    refine (awake15_any _).mono ?_
    rintro e w9 ⟨rfl, hb⟩
    have HBZ : Hid (Below w.heap.size w w9) := HB0.out.trans (hb.mono HB0.out.size)
    clear hb
    go_wp2
    go_ret
    exact ⟨rfl, HBZ.out⟩
  case false =>
  go_wp2_with fail
  refine (Great_any a2 _ c2 w.heap.size xs _ rfl HP0.out HL0.out (fun x hx => HS0.out x hx)).mono ?_
  rintro e w' ⟨rfl, rfl⟩
  rw [show (decide (40 < xs.length) || greatGo 0 xs) = g1 from HG1.out]
  cases g1
  case true =>
    go_wp2_with fail
    refine (awake15_any _).mono ?_
    rintro e w9 ⟨rfl, hb⟩
    have HBZ : Hid (Below w.heap.size w w9) := HB0.out.trans (hb.mono HB0.out.size)
    clear hb
    go_wp2
    go_ret
    exact ⟨rfl, HBZ.out⟩
  case false =>
  obtain ⟨y0, y1⟩ := HXB.out
  go_wp2_with fail
  rw [← HW1.out]
  refine (Great_any _ 1 1 (W0.heap.size + 1) [(n, v)] _ rfl HR1.out (by unfold maxLen; simp) (by intro x hx; simp at hx; subst hx; exact ⟨H3.out, H4.out⟩)).mono ?_
  rintro e w' ⟨rfl, rfl⟩
  rw [show (decide (40 < [(n, v)].length) || greatGo 0 [(n, v)]) = g2 from HG2.out]
  cases g2
  case true =>
    go_wp2_with fail
    refine (awake15_any _).mono ?_
    rintro e w9 ⟨rfl, hb⟩
    have HBZ : Hid (Below w.heap.size w w9) := HB1.out.trans (hb.mono HB1.out.size)
    clear hb
    go_wp2
    go_ret
    exact ⟨rfl, HBZ.out⟩
  case false =>
  have HD1 := Lib.hid (great_bd HG1.out)
  have HD2 := Lib.hid (great_bd HG2.out)
  clear y0 y1
  obtain ⟨y0, y1⟩ := HXB1.out
  go_wp2_with fail
  refine (Fold_any n _ _ H3.out (by unfold maxLen; decide)).mono ?_
  rintro e w2 ⟨rfl, q2, hw2⟩
  rw [show (ByteArray.mk #[97, 99, 99, 101, 115, 115, 45, 99, 111, 110, 116, 114, 111, 108, 45, 97, 108, 108, 111, 119, 45, 111, 114, 105, 103, 105, 110]).data.toList = orgN from rfl, ← HF1.out]
  have HB2 : Hid (Below w.heap.size w w2) := by show Below _ _ _; rw [hw2]; exact below_drewN HB1.out q2
  have HXB2 : Hid (HdAt w2 w.heap.size n v) := by show HdAt _ _ _ _; rw [hw2]; exact ⟨HXB1.out.c0, HXB1.out.c1⟩
  clear hw2 y0 y1
  cases f1
  case true =>
    go_wp2_with fail
    refine (awake15_any _).mono ?_
    rintro e w9 ⟨rfl, hb⟩
    have HBZ : Hid (Below w.heap.size w w9) := HB2.out.trans (hb.mono HB2.out.size)
    clear hb
    go_wp2
    go_ret
    exact ⟨rfl, HBZ.out⟩
  case false =>
  obtain ⟨y0, y1⟩ := HXB2.out
  go_wp2_with fail
  refine (Fold_any n _ _ H3.out (by unfold maxLen; decide)).mono ?_
  rintro e w3 ⟨rfl, q3, hw3⟩
  rw [show (ByteArray.mk #[97, 99, 99, 101, 115, 115, 45, 99, 111, 110, 116, 114, 111, 108, 45, 97, 108, 108, 111, 119, 45, 99, 114, 101, 100, 101, 110, 116, 105, 97, 108, 115]).data.toList = crdN from rfl, ← HF2.out]
  have HB3 : Hid (Below w.heap.size w w3) := by show Below _ _ _; rw [hw3]; exact below_drewN HB2.out q3
  have HXB3 : Hid (HdAt w3 w.heap.size n v) := by show HdAt _ _ _ _; rw [hw3]; exact ⟨HXB2.out.c0, HXB2.out.c1⟩
  clear hw3 y0 y1
  cases f2
  case true =>
    go_wp2_with fail
    refine (awake15_any _).mono ?_
    rintro e w9 ⟨rfl, hb⟩
    have HBZ : Hid (Below w.heap.size w w9) := HB3.out.trans (hb.mono HB3.out.size)
    clear hb
    go_wp2
    go_ret
    exact ⟨rfl, HBZ.out⟩
  case false =>
  have hl40 : xs.length ≤ 40 := by have := HD1.out.1; simpa using this
  go_wp2_with fail
  refine (Low_any at_ ((xs.length : Int) + 1) _ (by omega) (by omega)).mono ?_
  rintro e w' ⟨rfl, rfl⟩
  obtain ⟨k, hk⟩ : ∃ k : Nat, lowV at_ ((xs.length : Int) + 1) = (k : Int) := ⟨(lowV at_ ((xs.length : Int) + 1)).toNat, by have := lowV_bd at_ (n := (xs.length : Int) + 1) (by omega); omega⟩
  have hkl : k ≤ xs.length := by have := lowV_bd at_ (n := (xs.length : Int) + 1) (by omega); omega
  rw [hk]
  clear hk
  have hkc : k ≤ c2 := Nat.le_trans hkl HLC.out
  have HP3 : Hid (PRow w3 w.heap.size a2 xs) := HX0.out.below HB3.out
  obtain ⟨A2, hA2⟩ : ∃ A2, (if c2 = k then a2 else Option.map (fun x => x.add (k * 2)) a2) = A2 := ⟨_, rfl⟩
  have HPD : Hid (∀ W, PRow W w.heap.size a2 xs → PRow W w.heap.size A2 (xs.drop k)) := by
    show ∀ _, _
    intro W h
    rw [← hA2]
    split
    · rename_i hc
      rw [List.drop_eq_nil_of_le (by have := HLC.out; omega)]
      exact PRow.nil _ _ _
    · intro j x hj
      rw [List.getElem?_drop] at hj
      obtain ⟨ad, rfl, hb, hc1, hc2⟩ := h _ _ hj
      have hbl : (ad.add (k * 2)).block = ad.block := by unfold Addr.add; split <;> rfl
      refine ⟨ad.add (k * 2), rfl, by rw [hbl]; exact hb, ?_, ?_⟩
      · rw [Addr.add_add, show k * 2 + j * 2 = (k + j) * 2 by omega]; exact hc1
      · rw [Addr.add_add, show k * 2 + j * 2 = (k + j) * 2 by omega]; exact hc2
  have HND : Hid (A2 = none → c2 - k = 0) := by
    show _ → _
    intro h
    have h1 : a2 = none := by
      rw [← hA2] at h
      split at h
      · exact h
      · simpa using h
    have := HNN.out h1
    omega
  obtain ⟨F, hF⟩ : ∃ F : World → Prop, ∀ W, F W ↔ HdAt W w.heap.size n v := ⟨_, fun _ => Iff.rfl⟩
  have HF := Lib.hid hF
  have y0 : ∀ p : Held F, p.w.cell? ⟨w.heap.size, 0, none⟩ = some (.string n) := fun p => ((hF _).1 p.h).c0
  have y1 : ∀ p : Held F, p.w.cell? ⟨w.heap.size, 1, none⟩ = some (.string v) := fun p => ((hF _).1 p.h).c1
  clear hF
  have HFW : Hid (∀ W, Below w3.heap.size w3 W → F W) := fun W h => (HF.out W).2 (HXB3.out.below h HXB3.out.lt)
  obtain ⟨wd, hwd⟩ : ∃ wd, wd = w3.drew := ⟨_, rfl⟩
  have HBD : Hid (Below w3.heap.size w3 wd) := by show Below _ _ _; rw [hwd]; exact (Below.refl _ _).drew
  have hne : Nonempty (Held F) := ⟨⟨wd, HFW.out _ HBD.out⟩⟩
  go_wp2_with fail
  refine mix_start F (by kernel_rfl) ?_
  rw [← hwd]
  clear hwd
  refine mix_seg [0, 1, 2, 4, 7, 8, 9] (by kernel_rfl) (HFW.out _ HBD.out) ?_
  simp only [segOf, pickOps, pickOp]
  repeat (go_big_quiet_step (fail))
  refine wpQuiet_nil ?_
  refine mix_several [3, 5] (by kernel_rfl) ?_
  intro i1 hi1
  simp only [List.mem_cons, List.not_mem_nil, or_false] at hi1
  rcases hi1 with rfl | rfl
  · simp only [segOf, pickOps, pickOp]
    refine wpList_append_heads rfl (.const (.slice none 0 0)) (.tmp 43) rfl w3.heap.size (.slice none 0 0) [] rfl (HdRow.nil _ _) a2 c2 w.heap.size (xs.take k) (by simp [Act.eval, Nat.min_eq_left hkl]) ((HX0.out.below (HB3.out.trans (HBD.out.mono HB3.out.size))).take k) HNN.out (by simp; omega) HBD.out.size ?_
    intro v4 w4 hr4 hg4
    have HR4 : Hid (HdRow w4 w3.heap.size v4 ((xs.take k).map hd)) := by rw [List.nil_append] at hr4; exact hr4
    have HBN : Hid (Below wd.heap.size wd w4) := (Below.refl _ _).grown hg4 (Nat.le_refl _) (by intro j hj; cases hj)
    have HB4 : Hid (Below w3.heap.size w3 w4) := HBD.out.trans (HBN.out.mono HBD.out.size)
    clear hr4 hg4
    go_wp2_with fail
    refine MixPost.normal (HFW.out _ HB4.out) ?_
    refine mix_run 5 (by kernel_rfl) ?_
    simp only [segOf, pickOps, pickOp]
    obtain ⟨W5, hW5⟩ : ∃ W5, W5 = w4.alloc (.cells #[.string n, .string v] 35) := ⟨_, rfl⟩
    have hb5 : Below w4.heap.size w4 W5 := by rw [hW5]; exact (Below.refl _ _).alloc (Nat.le_refl _) _
    obtain ⟨g5, hg5⟩ : ∃ g5, g5 = w4.heap.size := ⟨_, rfl⟩
    have HN5 : Hid (PRow W5 (g5 + 1) (some ⟨g5, 0, none⟩) [(n, v)]) := by show PRow _ _ _ _; rw [hW5, hg5]; exact PRow.one_at _ _ _ _ _ rfl
    have HB5 : Hid (Below w3.heap.size w3 W5) := HB4.out.trans (hb5.mono HB4.out.size)
    have HR5 : Hid (HdRow W5 w3.heap.size v4 ((xs.take k).map hd)) := HR4.out.below hb5
    clear hb5
    go_wp2_with fail
    rw [← hW5, ← hg5]
    clear hW5 hg5
    refine MixPost.normal (HFW.out _ HB5.out) ?_
    refine mix_run 6 (by kernel_rfl) ?_
    simp only [segOf, pickOps, pickOp]
    refine wpList_append_heads rfl (.tmp 44) (.tmp 46) rfl w3.heap.size v4 ((xs.take k).map hd) rfl HR5.out (some ⟨g5, 0, none⟩) 1 (g5 + 1) [(n, v)] rfl HN5.out (by intro h; cases h) (by simp; omega) HB5.out.size ?_
    intro v6 w6 hr6 hg6
    have HR6 : Hid (HdRow w6 w3.heap.size v6 ((xs.take k).map hd ++ [(n, v)].map hd)) := hr6
    have HB6 : Hid (Below w3.heap.size w3 w6) := HB5.out.grown hg6 HB5.out.size (fun j hj => (World.ownsRow.lt HR5.out j hj).1)
    clear hr6 hg6
    go_wp2_with fail
    refine MixPost.normal (HFW.out _ HB6.out) ?_
    refine mix_run 10 (by kernel_rfl) ?_
    simp only [segOf, pickOps, pickOp]
    refine wpList_append_heads rfl (.tmp 47) (.tmp 50) rfl w3.heap.size v6 ((xs.take k).map hd ++ [(n, v)].map hd) rfl HR6.out A2 (c2 - k) w.heap.size (xs.drop k) (by simp [Act.eval]) (HPD.out _ (HX0.out.below (HB3.out.trans (HB6.out.mono HB3.out.size)))) HND.out (by simp; omega) HB6.out.size ?_
    intro v7 w7 hr7 hg7
    have HB7 : Hid (Below w3.heap.size w3 w7) := HB6.out.grown hg7 HB6.out.size (fun j hj => (World.ownsRow.lt HR6.out j hj).1)
    have HR7 : Hid (HdRow w7 w3.heap.size v7 ((xs.take k).map hd ++ [(n, v)].map hd ++ (xs.drop k).map hd)) := hr7
    clear hr7 hg7
    go_wp2_with fail
    refine MixPost.normal (HFW.out _ HB7.out) ?_
    refine mix_seg [11] (by kernel_rfl) (HFW.out _ HB7.out) ?_
    simp only [segOf, pickOps, pickOp]
    repeat (go_big_quiet_step (fail))
    refine wpQuiet_nil ?_
    refine mix_done (by kernel_rfl) ?_
    obtain ⟨A8, n8, c8, ys, rfl, hn8, hys, _, hp8⟩ := HR7.out.row
    subst hn8
    have HP8 := Lib.hid hp8
    have hys2 : ys.map hd = ((xs.take k ++ [(n, v)]) ++ xs.drop k).map hd := by rw [hys]; simp
    have HSM8 : Hid (Sm (ys.map hd)) := by show Sm _; rw [hys2]; exact sm_put k HD1.out HD2.out
    have HSM : Hid (Sm (xs.map hd)) := HD1.out.sm (by omega) (by omega) (by omega)
    obtain ⟨K, hK⟩ : ∃ K, chkH s.data.toList cr (xs.map hd) = K := ⟨_, rfl⟩
    have HK8 : Hid (chkH s.data.toList cr (ys.map hd) = K) := by
      show _ = _
      rw [hys, ← hK, List.map_take, List.map_drop]
      exact chk_put _ _ _ (hd (n, v)) k HF1.out.symm HF2.out.symm
    have HK := Lib.hid hK
    have HB8 : Hid (Below w.heap.size w w7) := HB3.out.trans (HB7.out.mono HB3.out.size)
    clear hp8 hys hys2 hK
    go_wp2_with fail
    refine (chk_as s cr A8 _ c8 _ ys _ K rfl (Nat.le_refl _) HP8.out HSM8.out HK8.out).mono ?_
    rintro e w8 ⟨rfl, hb⟩
    have HB9 : Hid (Below w.heap.size w w8) := HB8.out.trans (hb.mono HB8.out.size)
    clear hb
    go_wp2_with fail
    refine (chk_as s cr a2 _ c2 w.heap.size xs _ K rfl HB9.out.size (HX0.out.below HB9.out) HSM.out HK.out).mono ?_
    rintro e w10 ⟨rfl, hb⟩
    have HB10 : Hid (Below w.heap.size w w10) := HB9.out.trans (hb.mono HB9.out.size)
    clear hb
    go_wp2_with fail
    refine (awake15_any _).mono ?_
    rintro e w11 ⟨rfl, hb⟩
    have HB11 : Hid (Below w.heap.size w w11) := HB10.out.trans (hb.mono HB10.out.size)
    clear hb
    go_wp2
    go_ret
    exact ⟨rfl, HB11.out⟩
  · simp only [segOf, pickOps, pickOp]
    obtain ⟨W4, hW4⟩ : ∃ W4, W4 = wd.alloc (.cells #[.string n, .string v] 35) := ⟨_, rfl⟩
    have hb4 : Below wd.heap.size wd W4 := by rw [hW4]; exact (Below.refl _ _).alloc (Nat.le_refl _) _
    obtain ⟨g5, hg5⟩ : ∃ g5, g5 = wd.heap.size := ⟨_, rfl⟩
    have HN4 : Hid (PRow W4 (g5 + 1) (some ⟨g5, 0, none⟩) [(n, v)]) := by show PRow _ _ _ _; rw [hW4, hg5]; exact PRow.one_at _ _ _ _ _ rfl
    have HG4 : Hid (g5 + 1 ≤ W4.heap.size) := by show _ ≤ _; rw [hW4, hg5]; simp
    have HB4 : Hid (Below w3.heap.size w3 W4) := HBD.out.trans (hb4.mono HBD.out.size)
    clear hb4
    go_wp2_with fail
    rw [← hW4, ← hg5]
    clear hW4 hg5
    refine MixPost.normal (HFW.out _ HB4.out) ?_
    refine mix_run 3 (by kernel_rfl) ?_
    simp only [segOf, pickOps, pickOp]
    refine wpList_append_heads rfl (.const (.slice none 0 0)) (.tmp 43) rfl w3.heap.size (.slice none 0 0) [] rfl (HdRow.nil _ _) a2 c2 w.heap.size (xs.take k) (by simp [Act.eval, Nat.min_eq_left hkl]) ((HX0.out.below (HB3.out.trans (HB4.out.mono HB3.out.size))).take k) HNN.out (by simp; omega) HB4.out.size ?_
    intro v4 w5 hr4 hg4
    have HR4 : Hid (HdRow w5 w3.heap.size v4 ((xs.take k).map hd)) := by rw [List.nil_append] at hr4; exact hr4
    have HBN : Hid (Below W4.heap.size W4 w5) := (Below.refl _ _).grown hg4 (Nat.le_refl _) (by intro j hj; cases hj)
    have HB5 : Hid (Below w3.heap.size w3 w5) := HB4.out.trans (HBN.out.mono HB4.out.size)
    have HN5 : Hid (PRow w5 (g5 + 1) (some ⟨g5, 0, none⟩) [(n, v)]) := HN4.out.below (HBN.out.mono HG4.out)
    have HR5 := HR4
    clear hr4 hg4
    go_wp2_with fail
    refine MixPost.normal (HFW.out _ HB5.out) ?_
    refine mix_run 6 (by kernel_rfl) ?_
    simp only [segOf, pickOps, pickOp]
    refine wpList_append_heads rfl (.tmp 44) (.tmp 46) rfl w3.heap.size v4 ((xs.take k).map hd) rfl HR5.out (some ⟨g5, 0, none⟩) 1 (g5 + 1) [(n, v)] rfl HN5.out (by intro h; cases h) (by simp; omega) HB5.out.size ?_
    intro v6 w6 hr6 hg6
    have HR6 : Hid (HdRow w6 w3.heap.size v6 ((xs.take k).map hd ++ [(n, v)].map hd)) := hr6
    have HB6 : Hid (Below w3.heap.size w3 w6) := HB5.out.grown hg6 HB5.out.size (fun j hj => (World.ownsRow.lt HR5.out j hj).1)
    clear hr6 hg6
    go_wp2_with fail
    refine MixPost.normal (HFW.out _ HB6.out) ?_
    refine mix_run 10 (by kernel_rfl) ?_
    simp only [segOf, pickOps, pickOp]
    refine wpList_append_heads rfl (.tmp 47) (.tmp 50) rfl w3.heap.size v6 ((xs.take k).map hd ++ [(n, v)].map hd) rfl HR6.out A2 (c2 - k) w.heap.size (xs.drop k) (by simp [Act.eval]) (HPD.out _ (HX0.out.below (HB3.out.trans (HB6.out.mono HB3.out.size)))) HND.out (by simp; omega) HB6.out.size ?_
    intro v7 w7 hr7 hg7
    have HB7 : Hid (Below w3.heap.size w3 w7) := HB6.out.grown hg7 HB6.out.size (fun j hj => (World.ownsRow.lt HR6.out j hj).1)
    have HR7 : Hid (HdRow w7 w3.heap.size v7 ((xs.take k).map hd ++ [(n, v)].map hd ++ (xs.drop k).map hd)) := hr7
    clear hr7 hg7
    go_wp2_with fail
    refine MixPost.normal (HFW.out _ HB7.out) ?_
    refine mix_seg [11] (by kernel_rfl) (HFW.out _ HB7.out) ?_
    simp only [segOf, pickOps, pickOp]
    repeat (go_big_quiet_step (fail))
    refine wpQuiet_nil ?_
    refine mix_done (by kernel_rfl) ?_
    obtain ⟨A8, n8, c8, ys, rfl, hn8, hys, _, hp8⟩ := HR7.out.row
    subst hn8
    have HP8 := Lib.hid hp8
    have hys2 : ys.map hd = ((xs.take k ++ [(n, v)]) ++ xs.drop k).map hd := by rw [hys]; simp
    have HSM8 : Hid (Sm (ys.map hd)) := by show Sm _; rw [hys2]; exact sm_put k HD1.out HD2.out
    have HSM : Hid (Sm (xs.map hd)) := HD1.out.sm (by omega) (by omega) (by omega)
    obtain ⟨K, hK⟩ : ∃ K, chkH s.data.toList cr (xs.map hd) = K := ⟨_, rfl⟩
    have HK8 : Hid (chkH s.data.toList cr (ys.map hd) = K) := by
      show _ = _
      rw [hys, ← hK, List.map_take, List.map_drop]
      exact chk_put _ _ _ (hd (n, v)) k HF1.out.symm HF2.out.symm
    have HK := Lib.hid hK
    have HB8 : Hid (Below w.heap.size w w7) := HB3.out.trans (HB7.out.mono HB3.out.size)
    clear hp8 hys hys2 hK
    go_wp2_with fail
    refine (chk_as s cr A8 _ c8 _ ys _ K rfl (Nat.le_refl _) HP8.out HSM8.out HK8.out).mono ?_
    rintro e w8 ⟨rfl, hb⟩
    have HB9 : Hid (Below w.heap.size w w8) := HB8.out.trans (hb.mono HB8.out.size)
    clear hb
    go_wp2_with fail
    refine (chk_as s cr a2 _ c2 w.heap.size xs _ K rfl HB9.out.size (HX0.out.below HB9.out) HSM.out HK.out).mono ?_
    rintro e w10 ⟨rfl, hb⟩
    have HB10 : Hid (Below w.heap.size w w10) := HB9.out.trans (hb.mono HB9.out.size)
    clear hb
    go_wp2_with fail
    refine (awake15_any _).mono ?_
    rintro e w11 ⟨rfl, hb⟩
    have HB11 : Hid (Below w.heap.size w w11) := HB10.out.trans (hb.mono HB10.out.size)
    clear hb
    go_wp2
    go_ret
    exact ⟨rfl, HB11.out⟩
end Go.Proofs.Ytpfbkcibpmndoaa
