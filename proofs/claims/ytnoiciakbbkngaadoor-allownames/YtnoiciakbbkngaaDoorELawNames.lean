/-
  The walk of the law AllowNames: whatever the input, it returns true, and nothing that was there has turned. Conditions: the table of methods is as it is laid.
-/
import Derived.Test.YtnoiciakbbkngaaDoorEBox
import Derived.Test.YtnoiciakbbkngaaDoorEMath2
namespace Go.Proofs.YtnoiciakbbkngaaDoor
open Go.RowKit

/-- headers that tell these names, by two of each -/
structure Nm (l : List (List UInt8)) (H : List Hd) : Prop where
  vm : valsH H metN = l
  vh : valsH H hdrN = l
  len : H.length = 2 * l.length
  sz : ∀ h ∈ H, h.1.length ≤ 100 ∧ h.2.length ≤ 100
theorem Nm.nil : Nm [] [] := ⟨rfl, rfl, rfl, fun h hh => by simp at hh⟩
theorem Nm.more {l : List (List UInt8)} {H : List Hd} (h : Nm l H) {a b x : List UInt8} (ha : Lk.lower a = metN) (hb : Lk.lower b = hdrN) (hx : Lk.tokL x = true) (hz : x.length ≤ 30) : Nm (l ++ [x]) (H ++ [(a, x), (b, x)]) := by
  have f1 : Lk.foldL a metN = true := by unfold Lk.foldL; rw [ha]; decide
  have f2 : Lk.foldL a hdrN = false := by unfold Lk.foldL; rw [ha]; decide
  have f3 : Lk.foldL b metN = false := by unfold Lk.foldL; rw [hb]; decide
  have f4 : Lk.foldL b hdrN = true := by unfold Lk.foldL; rw [hb]; decide
  have la : a.length = 28 := by have := congrArg List.length ha; rw [Lk.lower_len] at this; exact this
  have lb : b.length = 28 := by have := congrArg List.length hb; rw [Lk.lower_len] at this; exact this
  refine ⟨?_, ?_, ?_, ?_⟩
  · rw [vals_append, h.vm, vals_cons, vals_cons, vals_nil, show Lk.foldL (a, x).1 metN = true from f1, show Lk.foldL (b, x).1 metN = false from f3, show Lk.trimL (a, x).2 = x from tok_trim hx]; rfl
  · rw [vals_append, h.vh, vals_cons, vals_cons, vals_nil, show Lk.foldL (a, x).1 hdrN = false from f2, show Lk.foldL (b, x).1 hdrN = true from f4, show Lk.trimL (b, x).2 = x from tok_trim hx]; rfl
  · rw [List.length_append, h.len, List.length_append]; simp; omega
  · intro g hg
    rcases List.mem_append.1 hg with hg | hg
    · exact h.sz g hg
    · simp at hg
      rcases hg with rfl | rfl
      · exact ⟨by show a.length ≤ _; omega, by show x.length ≤ _; omega⟩
      · exact ⟨by show b.length ≤ _; omega, by show x.length ≤ _; omega⟩
theorem Nm.read {l : List (List UInt8)} {H : List Hd} (h : Nm l H) (ht : tokAll l = true) : readI H = 0 ∧ readA H = ⟨l, l.map Lk.lower, ageH H⟩ := by
  have h1 : elsH H metN = l := by unfold elsH getH; rw [h.vm]; exact split_toks ht
  have h2 : elsH H hdrN = l := by unfold elsH getH; rw [h.vh]; exact split_toks ht
  have hi : readI H = 0 := readI_0 (by rw [h1]; exact ht) (by rw [h2]; exact ht)
  exact ⟨hi, by rw [readA_0 hi, h1, h2]⟩
theorem Nm.sm {l : List (List UInt8)} {H : List Hd} (h : Nm l H) (hl : l.length ≤ 30) : Sm H :=
  ⟨by have := h.len; omega, fun g hg => ⟨Nat.le_trans (h.sz g hg).1 (by omega), Nat.le_trans (h.sz g hg).2 (by omega)⟩⟩
theorem datB_more {xs : List ByteArray} {k : Nat} (h : k < xs.length) : datB (xs.take (k + 1)) = datB (xs.take k) ++ [xs[k].data.toList] := by
  unfold datB
  rw [List.take_succ_eq_append_getElem h, List.map_append]; rfl
theorem tokAll_snoc {l : List (List UInt8)} {x : List UInt8} (h : tokAll l = true) (hx : Lk.tokL x = true) : tokAll (l ++ [x]) = true := by
  unfold tokAll at *
  rw [List.all_append, h, List.all_cons, hx]; rfl
theorem datB_back2 (xs : List ByteArray) : (datB xs).map mk = xs := by
  unfold datB
  rw [List.map_map]
  conv => rhs; rw [← List.map_id xs]
  apply List.map_congr_left
  intro x _
  exact mk_eq x
theorem mem_at {l : List (List UInt8)} {k : Nat} (h : k < l.length) : memT l l[k] = true := by
  unfold memT
  rw [List.any_eq_true]
  exact ⟨_, List.getElem_mem h, by simp⟩
theorem infoH4 : (Tryd.prog.info? 45).map (fun i => (i.zero, i.size, i.bytes)) = some (some (.agg #[.string ⟨#[]⟩, .string ⟨#[]⟩]), 2, 32) := by kernel_rfl
theorem FlipE_any (s : ByteArray) (bits : Int) (w : World) (hs : s.size ≤ maxLen) (hb : 0 ≤ bits ∧ bits ≤ 18446744073709551615) :
    Calls Tryd.prog 17 #[.string s, .int .u64 bits] w fun e w' => ∃ t : ByteArray, e = .returned (.string t) ∧ Lk.lower t.data.toList = Lk.lower s.data.toList ∧ t.size = s.size ∧ Below w.heap.size w w' := by
  obtain ⟨t, h1, h2, h3⟩ := Flip_ex s bits hs hb.1 hb.2
  refine (h3 w).mono ?_
  rintro e w' ⟨rfl, hb⟩
  exact ⟨t, rfl, h1, h2, hb⟩
theorem wrap_bd (x : Int) : 0 ≤ IntKind.u64.wrap x ∧ IntKind.u64.wrap x ≤ 18446744073709551615 := by
  simp only [IntKind.wrap, IntKind.bits, IntKind.signed]
  simp
  omega
theorem xor_bd (a b : Int) : 0 ≤ Go.bits BinOp.xor IntKind.u64 a b ∧ Go.bits BinOp.xor IntKind.u64 a b ≤ 18446744073709551615 := by
  unfold Go.bits
  exact wrap_bd _
/-- what holds all through the last of it -/
structure NmF (w W : World) (g : Nat) (a : Av) (z : Al) (ad1 ad2 ad0 : Addr) (q : Nat) (x y : ByteArray) : Prop where
  st : StF w W g a z
  m : W.cell? (ad1.add q) = some (.string x)
  h : W.cell? (ad2.add q) = some (.string y)
  l : W.cell? (ad0.add q) = some (.string x)
theorem NmF.next {w W W' : World} {g : Nat} {a : Av} {z : Al} {ad1 ad2 ad0 : Addr} {q : Nat} {x y : ByteArray} (h : NmF w W g a z ad1 ad2 ad0 q x y) (hb : Below W.heap.size W W') : NmF w W' g a z ad1 ad2 ad0 q x y :=
  ⟨h.st.next hb, (hb.cell (block_of_cell h.m)).trans h.m, (hb.cell (block_of_cell h.h)).trans h.h, (hb.cell (block_of_cell h.l)).trans h.l⟩
theorem NmF.low {w W : World} {g : Nat} {a : Av} {z : Al} {ad1 ad2 ad0 : Addr} {q : Nat} {x y : ByteArray} (h : NmF w W g a z ad1 ad2 ad0 q x y) (hx : x.size ≤ maxLen) (hy : y.data.toList = Lk.lower x.data.toList) :
    Calls Tryd.prog 26 #[.string x] W fun e W' => e = .returned (.string y) ∧ NmF w W' g a z ad1 ad2 ad0 q x y := by
  refine (ELower_as x y W hx hy).mono ?_
  rintro e W' ⟨rfl, hb⟩
  exact ⟨rfl, h.next hb⟩
theorem NmF.has {w W : World} {g : Nat} {a : Av} {z : Al} {ad1 ad2 ad0 : Addr} {q : Nat} {x y : ByteArray} (h : NmF w W g a z ad1 ad2 ad0 q x y) (hx : x.size ≤ maxLen) (hb : hasA z.ms x.data.toList true = true) :
    Calls Tryd.prog 13 #[a.v, .string x, .bool true] W fun e W' => e = .returned (.bool true) ∧ NmF w W' g a z ad1 ad2 ad0 q x y := by
  refine (Has_any a z x true W h.st.is_ hx h.st.env).mono ?_
  rintro e W' ⟨rfl, h1⟩
  exact ⟨by rw [hb], h.next h1⟩
theorem NmF.flip {w W : World} {g : Nat} {a : Av} {z : Al} {ad1 ad2 ad0 : Addr} {q : Nat} {x y : ByteArray} (h : NmF w W g a z ad1 ad2 ad0 q x y) (bits : Int) (hx : x.size ≤ maxLen) (hb : 0 ≤ bits ∧ bits ≤ 18446744073709551615) :
    Calls Tryd.prog 17 #[.string x, .int .u64 bits] W fun e W' => ∃ t : ByteArray, e = .returned (.string t) ∧ Lk.lower t.data.toList = Lk.lower x.data.toList ∧ t.size = x.size ∧ NmF w W' g a z ad1 ad2 ad0 q x y := by
  refine (FlipE_any x bits W hx hb).mono ?_
  rintro e W' ⟨t, rfl, h1, h2, h3⟩
  exact ⟨t, rfl, h1, h2, h.next h3⟩
theorem NmF.cov {w W : World} {g : Nat} {a : Av} {z : Al} {ad1 ad2 ad0 : Addr} {q : Nat} {x y : ByteArray} (h : NmF w W g a z ad1 ad2 ad0 q x y) (t : ByteArray) (ht : t.size ≤ maxLen) (hb : covA z.hs t.data.toList true = true) :
    Calls Tryd.prog 15 #[a.v, .string t, .bool true] W fun e W' => e = .returned (.bool true) ∧ NmF w W' g a z ad1 ad2 ad0 q x y := by
  refine (Covers_any a z t true W h.st.is_ ht).mono ?_
  rintro e W' ⟨rfl, h1⟩
  exact ⟨by rw [hb], h.next h1⟩
theorem NmF.awake {w W : World} {g : Nat} {a : Av} {z : Al} {ad1 ad2 ad0 : Addr} {q : Nat} {x y : ByteArray} (h : NmF w W g a z ad1 ad2 ad0 q x y) :
    Calls Tryd.prog 9 #[] W fun e W' => e = .returned (.bool true) ∧ NmF w W' g a z ad1 ad2 ad0 q x y := by
  refine (awake14_any W h.st.env).mono ?_
  rintro e W' ⟨rfl, h1⟩
  exact ⟨rfl, h.next h1⟩

set_option maxRecDepth 100000 in
set_option maxHeartbeats 8000000 in
theorem walk_AllowNames (A0 : Option Addr) (c0 : Nat) (xs : List ByteArray) (at_ bits : Int) (w : World) (h0 : SArg w A0 c0 xs) (_h1 : (Lit.int .i64 at_).wf = true) (h2 : (Lit.int .u64 bits).wf = true) (he : MEnv w) :
    Calls Tryd.prog 6 #[.slice A0 xs.length c0, .int .i64 at_, .int .u64 bits] w fun e w' => e = .returned (.bool true) ∧ Below w.heap.size w w' := by
  have b2 := wfU h2
  have hn63 : xs.length ≤ maxLen := Nat.le_trans h0.2.2.1 h0.2.2.2
  unfold maxLen at hn63
  have HX0 := Lib.hid h0.1
  have HE := Lib.hid he
  have HSZ := Lib.hid h0.2.1
  obtain ⟨n, hn⟩ : ∃ n, n = xs.length := ⟨_, rfl⟩
  have HN := Lib.hid hn
  rw [← hn] at hn63 ⊢
  obtain ⟨i0, hi, hz0, hz1, hz2⟩ := info_parts infoH4
  clear h0 h2 he hn
  by_cases hlt1 : n < 1
  · go_enter Tryd.func6, Tryd.ntmps6
    go_wp2_with fail
    refine (awake14_any _ HE.out).mono ?_
    rintro e w1 ⟨rfl, hb⟩
    have HBZ : Hid (Below w.heap.size w w1) := hb
    clear hb
    go_wp2
    go_ret
    exact ⟨rfl, HBZ.out⟩
  by_cases hgt : 30 < n
  · go_enter Tryd.func6, Tryd.ntmps6
    go_wp2_with fail
    refine (awake14_any _ HE.out).mono ?_
    rintro e w1 ⟨rfl, hb⟩
    have HBZ : Hid (Below w.heap.size w w1) := hb
    clear hb
    go_wp2
    go_ret
    exact ⟨rfl, HBZ.out⟩
  go_enter Tryd.func6, Tryd.ntmps6
  go_wp2_with fail
  go_loopw [7, 8] (fun v i wr => ∃ (k : Nat) (H : List Hd), k ≤ n ∧ i = .int .i64 k ∧ HdRow wr w.heap.size v H ∧ Nm (datB (xs.take k)) H ∧ tokAll (datB (xs.take k)) = true ∧ Below w.heap.size w wr) (fun _ i _ => n - (intOf i).toNat)
  case atStart => exact ⟨0, [], Nat.zero_le _, rfl, HdRow.nil _ _, Nm.nil, rfl, Below.refl _ _⟩
  case round =>
    obtain ⟨k, H, hk, rfl, hr, hnm, htk, hb⟩ := hrel
    have HR := Lib.hid hr
    have HNM := Lib.hid hnm
    have HTK := Lib.hid htk
    have HB := Lib.hid hb
    clear hr hnm htk hb
    by_cases hlt : k < n
    · have hlt2 : k < xs.length := by rw [← HN.out]; exact hlt
      obtain ⟨ad, hA, hadb, hc⟩ := (HX0.out.below HB.out) k xs[k] (List.getElem?_eq_getElem hlt2)
      have HD := Lib.hid (datB_more hlt2)
      generalize xs[k] = x at *
      have HLE : Hid (x.data.toList.length = x.size) := by show _ = _; simp
      clear hlt2
      subst hA
      by_cases hz : 30 < x.size
      · have h30 : (30 : Int) < (x.size : Int) := by omega
        go_wp2_with fail
        refine (awake14_any _ (HE.out.below HB.out)).mono ?_
        rintro e w1 ⟨rfl, hb⟩
        have HBZ : Hid (Below w.heap.size w w1) := HB.out.trans (hb.mono HB.out.size)
        clear hb
        go_wp2
        go_ret
        exact ⟨rfl, HBZ.out⟩
      have h30 : ¬ (30 : Int) < (x.size : Int) := by omega
      cases ht : Lk.tokL x.data.toList
      · have HT := Lib.hid ht
        clear ht
        go_wp2_with fail
        refine (Token_any x _ (by unfold maxLen; omega)).mono ?_
        rintro e w' ⟨rfl, rfl⟩
        rw [HT.out]
        go_wp2_with fail
        refine (awake14_any _ (HE.out.below HB.out)).mono ?_
        rintro e w1 ⟨rfl, hb⟩
        have HBZ : Hid (Below w.heap.size w w1) := HB.out.trans (hb.mono HB.out.size)
        clear hb
        go_wp2
        go_ret
        exact ⟨rfl, HBZ.out⟩
      have HT := Lib.hid ht
      clear ht
      go_wp2_with fail
      refine (Token_any x _ (by unfold maxLen; omega)).mono ?_
      rintro e w' ⟨rfl, rfl⟩
      rw [HT.out]
      have HLH : Hid (H.length ≤ 60) := by
        show _ ≤ _
        have h1 := HNM.out.len
        have h2 : (datB (xs.take k)).length ≤ k := by unfold datB; simp; omega
        omega
      have HAB := Lib.hid hadb
      obtain ⟨wd, hwd⟩ : ∃ wd, wd = wr.drew := ⟨_, rfl⟩
      have HBD : Hid (Below wr.heap.size wr wd) := by show Below _ _ _; rw [hwd]; exact (Below.refl _ _).drew
      have HFD : Hid (wd.cell? (ad.add k) = some (.string x)) := by show _ = _; rw [hwd]; exact hc
      have HFB : Hid (∀ W, Below wr.heap.size wr W → W.cell? (ad.add k) = some (.string x)) := by
        show ∀ W, _
        intro W hb
        exact (hb.cell (block_of_cell hc)).trans hc
      go_wp2_with fail
      refine mix_start (fun W => W.cell? (ad.add k) = some (.string x)) (by kernel_rfl) ?_
      rw [← hwd]
      clear hwd hc
      have hne : Nonempty (Held (fun W => W.cell? (ad.add k) = some (.string x))) := ⟨⟨wd, HFD.out⟩⟩
      have hx1 : ∀ p : Held (fun W => W.cell? (ad.add k) = some (.string x)), p.w.cell? (ad.add k) = some (.string x) := fun p => p.h
      refine mix_seg [0, 1, 2, 3, 4, 6, 7, 8, 9, 11, 12, 13, 14, 16, 17, 18, 19] (by kernel_rfl) HFD.out ?_
      simp only [segOf, pickOps, pickOp]
      repeat (go_big_quiet_step (fail))
      refine wpQuiet_nil ?_
      clear hx1
      refine mix_run 5 (by kernel_rfl) ?_
      simp only [segOf, pickOps, pickOp]
      go_wp2_with fail
      refine (FlipE_any _ _ _ (by unfold maxLen; decide) ?_).mono ?_
      · exact wrap_bd _
      rintro e w4 ⟨t1, rfl, ht1, hs1, hb⟩
      have HT1 : Hid (Lk.lower t1.data.toList = metN) := by show _ = _; rw [ht1]; decide
      have HB4 : Hid (Below wr.heap.size wr w4) := HBD.out.trans (hb.mono HBD.out.size)
      clear hb ht1
      go_wp2_with fail
      refine MixPost.normal (HFB.out _ HB4.out) ?_
      have hne : Nonempty (Held (fun W => W.cell? (ad.add k) = some (.string x))) := ⟨⟨wd, HFD.out⟩⟩
      refine mix_seg [10] (by kernel_rfl) (HFB.out _ HB4.out) ?_
      simp only [segOf, pickOps, pickOp]
      repeat (go_big_quiet_step (fail))
      refine wpQuiet_nil ?_
      refine mix_run 15 (by kernel_rfl) ?_
      simp only [segOf, pickOps, pickOp]
      go_wp2_with fail
      refine (FlipE_any _ _ _ (by unfold maxLen; decide) ?_).mono ?_
      · exact xor_bd _ _
      rintro e w5 ⟨t2, rfl, ht2, hs2, hb⟩
      have HT2 : Hid (Lk.lower t2.data.toList = hdrN) := by show _ = _; rw [ht2]; decide
      have HB5 : Hid (Below wr.heap.size wr w5) := HB4.out.trans (hb.mono HB4.out.size)
      clear hb ht2
      go_wp2_with fail
      refine MixPost.normal (HFB.out _ HB5.out) ?_
      refine mix_seg [20] (by kernel_rfl) (HFB.out _ HB5.out) ?_
      simp only [segOf, pickOps, pickOp]
      repeat (go_big_quiet_step (fail))
      refine wpQuiet_nil ?_
      obtain ⟨gb, hgb⟩ : ∃ gb, gb = w5.heap.size := ⟨_, rfl⟩
      obtain ⟨W6, hW6⟩ : ∃ W6, W6 = w5.alloc (.cells #[.string t1, .string x, .string t2, .string x] 45) := ⟨_, rfl⟩
      have HB6 : Hid (Below wr.heap.size wr W6) := by show Below _ _ _; rw [hW6]; exact HB5.out.alloc HB5.out.size _
      have HC6 : Hid (∀ j u, [Value.string t1, .string x, .string t2, .string x][j]? = some u → W6.cell? ((⟨gb, 0, none⟩ : Addr).add j) = some u) := by
        show ∀ j u, _
        intro j u hj
        rw [hW6, hgb]
        match j, hj with
        | 0, hj => simp at hj; subst hj; simp [Addr.add]
        | 1, hj => simp at hj; subst hj; simp [Addr.add]
        | 2, hj => simp at hj; subst hj; simp [Addr.add]
        | 3, hj => simp at hj; subst hj; simp [Addr.add]
      have HR6 : Hid (W6.ownsRow w.heap.size 45 2 u7 H.length (hcs H)) := HR.out.below HB6.out
      refine mix_run 21 (by kernel_rfl) ?_
      simp only [segOf, pickOps, pickOp]
      go_wp2_with fail
      rw [← hW6, ← hgb]
      clear hW6 hgb
      refine MixPost.normal (HFB.out _ HB6.out) ?_
      refine mix_run 22 (by kernel_rfl) ?_
      simp only [segOf, pickOps, pickOp]
      refine wpList_append_lies W6 rfl (.tmp 42) (.tmp 63) 22 rfl w.heap.size 45 i0 (.agg #[.string ⟨#[]⟩, .string ⟨#[]⟩]) 2 32 Tryd.underlying22 hi hz0 hz1 hz2 rfl (by decide) u7 _ _ rfl HR6.out ⟨gb, 0, none⟩ 2 2 [.string t1, .string x, .string t2, .string x] rfl rfl HC6.out ?_ (by decide) (by have := HLH.out; unfold maxLen; omega) (by have := HLH.out; omega) (by have := HB.out.size; have := HB6.out.size; omega) _ rfl ?_
      · intro uu hu; simp at hu; rcases hu with rfl | rfl | rfl | rfl <;> rfl
      intro g3 cap3 w7 hown hgrow hat hlt3
      have HB7 : Hid (Below w.heap.size w w7) := (HB.out.trans (HB6.out.mono HB.out.size)).grown hgrow (by have := HB.out.size; have := HB6.out.size; omega) (fun b hb => (World.ownsRow.lt HR6.out b hb).1)
      have HR7 : Hid (HdRow w7 w.heap.size (.slice (some ⟨g3, 0, none⟩) (H.length + 2) cap3) (H ++ [(t1.data.toList, x.data.toList), (t2.data.toList, x.data.toList)])) := by
        show World.ownsRow _ _ _ _ _ _ _
        have e : hcs (H ++ [(t1.data.toList, x.data.toList), (t2.data.toList, x.data.toList)]) = hcs H ++ [.string t1, .string x, .string t2, .string x] := by
          rw [hcs_append]
          have e1 : ∀ b : ByteArray, sv b.data.toList = .string b := fun b => by rw [sv_mk, mk_eq]
          simp only [hcs, List.flatMap_cons, List.flatMap_nil, e1]
          rfl
        rw [e, List.length_append]
        exact hown
      have HF7 : Hid (w7.cell? (ad.add k) = some (.string x)) := by
        show _ = _
        have h1 := (HB7.out.cell (p := ad.add k) (by rw [block_add]; exact HAB.out)).symm
        have h2 := HB.out.cell (p := ad.add k) (by rw [block_add]; exact HAB.out)
        have h3 := HBD.out.cell (p := ad.add k) (by rw [block_add]; have := HAB.out; have := HB.out.size; omega)
        rw [← h1, ← h2, ← h3]; exact HFD.out
      clear hown hgrow hat hlt3
      go_wp2_with fail
      refine MixPost.normal HF7.out ?_
      refine mix_seg [23] (by kernel_rfl) HF7.out ?_
      simp only [segOf, pickOps, pickOp]
      repeat (go_big_quiet_step (fail))
      refine wpQuiet_nil ?_
      refine mix_done (by kernel_rfl) ?_
      go_wp2
      go_roundw
      case rel => exact ⟨k + 1, _, by omega, by go_num, HR7.out, by rw [HD.out]; exact HNM.out.more HT1.out HT2.out HT.out (by have := HLE.out; omega), by rw [HD.out]; exact tokAll_snoc HTK.out HT.out, HB7.out⟩
      case measure => simp [intOf]; omega
    · obtain rfl : k = n := by omega
      obtain ⟨Av0, capv, hv, _, _, hpr⟩ := HR.out.prow
      subst hv
      have hl30 : (datB xs).length ≤ 30 := by rw [show (datB xs).length = xs.length by simp [datB], ← HN.out]; omega
      have htake : xs.take k = xs := by rw [HN.out]; exact List.take_length
      rw [htake] at HNM HTK
      obtain ⟨l, hl⟩ : ∃ l, l = datB xs := ⟨_, rfl⟩
      rw [← hl] at HNM HTK hl30
      have HLX : Hid (l.map mk = xs) := by show _ = _; rw [hl]; exact datB_back2 xs
      have HLN : Hid (l.length = k) := by show _ = _; rw [hl, HN.out]; simp [datB]
      have HSM := Lib.hid (HNM.out.sm hl30)
      obtain ⟨HRI, HRA⟩ := HNM.out.read HTK.out
      have HRI := Lib.hid HRI
      have HRA := Lib.hid HRA
      have HPR : Hid (PRow wr wr.heap.size Av0 (H.map mkp)) := hpr
      have HHM : Hid ((H.map mkp).map hd = H) := by
        show _ = _
        rw [List.map_map]
        conv => rhs; rw [← List.map_id H]
        exact List.map_congr_left fun y _ => hd_mkp y
      have HSM2 : Hid (Sm ((H.map mkp).map hd)) := by rw [HHM.out]; exact HSM.out
      obtain ⟨ag, hag⟩ : ∃ ag, ag = ageH H := ⟨_, rfl⟩
      rw [← hag] at HRA
      clear hag hpr hl htake HR hl30
      go_wp2_with fail
      refine (ARead_any Av0 _ capv wr.heap.size (H.map mkp) _ (by simp) (Nat.le_refl _) HPR.out HSM2.out).mono ?_
      rintro e w2 ⟨a, rfl, ha, hb⟩
      rw [HHM.out, HRA.out] at ha
      rw [HHM.out, HRI.out]
      have HB2 : Hid (Below w.heap.size w w2) := HB.out.trans (hb.mono HB.out.size)
      clear hb
      have hlo := lowV_bd at_ (n := (k : Int)) (by omega)
      obtain ⟨q, hq⟩ := Int.eq_ofNat_of_zero_le hlo.1
      have hqk : q < k := by omega
      have HQ := Lib.hid hq
      clear hlo hq
      have hqx : q < xs.length := by rw [← HN.out]; exact hqk
      have hql : q < l.length := by rw [HLN.out]; exact hqk
      obtain ⟨A1, n1, d1, A2, n2, d2, gg⟩ := a
      obtain rfl : n1 = k := by have h := ha.e1; simp only at h; rw [h]; exact HLN.out
      obtain rfl : n2 = n1 := by have h := ha.e2; simp only [List.length_map] at h; rw [h]; exact HLN.out
      obtain ⟨x, hx⟩ : ∃ x, x = xs[q] := ⟨_, rfl⟩
      obtain ⟨y, hy⟩ := lower_ba x
      have hlq : l[q] = x.data.toList := by
        have h1 : (l.map mk)[q]? = some x := by rw [HLX.out, hx]; exact List.getElem?_eq_getElem hqx
        rw [List.getElem?_map, List.getElem?_eq_getElem hql] at h1
        simp at h1
        rw [← h1, mk_data]
      obtain ⟨ad1, hA1, _, hm1⟩ := ha.r1 q x (by show (l.map mk)[q]? = _; rw [HLX.out, hx]; exact List.getElem?_eq_getElem hqx)
      obtain ⟨ad2, hA2, _, hm2⟩ := ha.r2 q y (by
        show ((l.map Lk.lower).map mk)[q]? = _
        rw [List.getElem?_map, List.getElem?_map, List.getElem?_eq_getElem hql, hlq]
        show some (mk (Lk.lower x.data.toList)) = some y
        rw [← hy, mk_eq])
      obtain ⟨ad0, hA0, hb0, hm0⟩ := (HX0.out.below HB2.out) q x (by rw [hx]; exact List.getElem?_eq_getElem hqx)
      have hA1 : A1 = some ad1 := hA1
      have hA2 : A2 = some ad2 := hA2
      subst hA1 hA2 hA0
      obtain ⟨av, hav⟩ : ∃ av : Av, av = ⟨some ad1, n2, d1, some ad2, n2, d2, gg⟩ := ⟨_, rfl⟩
      obtain ⟨z, hz⟩ : ∃ z : Al, z = ⟨l, l.map Lk.lower, ag⟩ := ⟨_, rfl⟩
      rw [← hav, ← hz] at ha
      obtain ⟨W3, hW3⟩ : ∃ W3, W3 = w2.alloc (.cells #[.slice (some ad1) n2 d1, .slice (some ad2) n2 d2, .int .u64 gg] 26) := ⟨_, rfl⟩
      obtain ⟨g9, hg9⟩ : ∃ g9, g9 = w2.heap.size := ⟨_, rfl⟩
      have hb3 : Below w2.heap.size w2 W3 := by rw [hW3]; exact (Below.refl _ _).alloc (Nat.le_refl _) _
      have hst : StF w W3 g9 av z := by
        have h := StF.new HB2.out HE.out ha 26
        rw [hav] at h
        dsimp only at h
        rw [← hW3, ← hg9, ← hav] at h
        exact h
      have HF3 : Hid (NmF w W3 g9 av z ad1 ad2 ad0 q x y) := ⟨hst, (hb3.cell (block_of_cell hm1)).trans hm1, (hb3.cell (block_of_cell hm2)).trans hm2, (hb3.cell (block_of_cell hm0)).trans hm0⟩
      have HAV := Lib.hid hav
      have HVV : Hid (av.v = .agg #[.slice (some ad1) n2 d1, .slice (some ad2) n2 d2, .int .u64 gg]) := by rw [hav]; exact rfl
      have HY := Lib.hid hy
      have HHAS : Hid (hasA z.ms x.data.toList true = true) := by
        show _ = _
        have h := mem_at hql
        rw [hlq] at h
        unfold hasA
        rw [hz]
        show (_ || (memT l x.data.toList || _)) = true
        rw [h]; simp
      have HCOV : Hid (∀ t : ByteArray, Lk.lower t.data.toList = Lk.lower x.data.toList → covA z.hs t.data.toList true = true) := by
        intro t ht
        have h := mem_at (l := l.map Lk.lower) (k := q) (by rw [List.length_map]; exact hql)
        rw [List.getElem_map, hlq, ← ht] at h
        unfold covA
        rw [hz]
        show (memT (l.map Lk.lower) (Lk.lower t.data.toList) || _) = true
        rw [h]; rfl
      have HXZ : Hid (x.size ≤ maxLen) := by rw [hx]; exact HSZ.out _ (List.getElem_mem hqx)
      clear hst hb3 hm1 hm2 hm0 ha hav hz hx hy hlq hql hqx hb0 HPR
      unfold Av.v
      dsimp only
      go_wp2_with fail
      rw [← hW3, ← hg9]
      clear hW3 hg9
      refine (Low_any _ _ _ (by omega) (by omega)).mono ?_
      rintro e w' ⟨rfl, rfl⟩
      rw [HQ.out]
      obtain ⟨wd, hwd⟩ : ∃ wd, wd = W3.drew := ⟨_, rfl⟩
      have HFD : Hid (NmF w wd g9 av z ad1 ad2 ad0 q x y) := by rw [hwd]; exact HF3.out.next ((Below.refl _ _).drew)
      obtain ⟨F, hF⟩ : ∃ F : World → Prop, ∀ W, F W ↔ (AlAt W g9 av ∧ W.cell? (ad1.add q) = some (.string x) ∧ W.cell? (ad2.add q) = some (.string y) ∧ W.cell? (ad0.add q) = some (.string x)) := ⟨_, fun _ => Iff.rfl⟩
      have HFF : Hid (∀ W, NmF w W g9 av z ad1 ad2 ad0 q x y → F W) := fun W h => (hF W).2 ⟨h.st.at_, h.m, h.h, h.l⟩
      have hk1 : ∀ p : Held F, p.w.cell? (ad1.add q) = some (.string x) := fun p => ((hF _).1 p.h).2.1
      have hk2 : ∀ p : Held F, p.w.cell? (ad2.add q) = some (.string y) := fun p => ((hF _).1 p.h).2.2.1
      have hk3 : ∀ p : Held F, p.w.cell? (ad0.add q) = some (.string x) := fun p => ((hF _).1 p.h).2.2.2
      have hp0 : ∀ p : Held F, p.w.cell? ⟨g9, 0, none⟩ = some (.slice (some ad1) n2 d1) := fun p => by have h := ((hF _).1 p.h).1.c0; rw [HAV.out] at h; exact h
      have hp1 : ∀ p : Held F, p.w.cell? ⟨g9, 1, none⟩ = some (.slice (some ad2) n2 d2) := fun p => by have h := ((hF _).1 p.h).1.c1; rw [HAV.out] at h; exact h
      have hp2 : ∀ p : Held F, p.w.cell? ⟨g9, 2, none⟩ = some (.int .u64 gg) := fun p => by have h := ((hF _).1 p.h).1.c2; rw [HAV.out] at h; exact h
      have hqI : (q : Int) < (n2 : Int) := by omega
      clear hF HF3
      go_wp2_with fail
      refine mix_start F (by kernel_rfl) ?_
      rw [← hwd]
      clear hwd
      simp only [List.append_eq, List.cons_append, List.nil_append]
      have hne : Nonempty (Held F) := ⟨⟨wd, HFF.out _ HFD.out⟩⟩
      refine mix_seg [0, 1, 2, 3, 4, 5, 6, 7, 8, 9, 10, 11, 12, 13, 14, 15, 16, 17, 18, 19, 20, 21, 22, 23, 24, 25, 26, 27, 28, 29, 30, 31, 32, 33, 34, 35, 36, 37, 38, 39] (by kernel_rfl) (HFF.out _ HFD.out) ?_
      simp only [segOf, pickOps, pickOp]
      repeat (go_big_quiet_step (fail))
      refine wpQuiet_nil ?_
      refine mix_run 40 (by kernel_rfl) ?_
      simp only [segOf, pickOps, pickOp]
      go_wp2_with fail
      refine (HFD.out.low HXZ.out HY.out).mono ?_
      rintro e w4 ⟨rfl, h1⟩
      have HF4 := Lib.hid h1
      clear h1
      go_wp2_with fail
      refine MixPost.normal (HFF.out _ HF4.out) ?_
      refine mix_seg [41, 42, 43, 44, 45, 46, 47, 48] (by kernel_rfl) (HFF.out _ HF4.out) ?_
      simp only [segOf, pickOps, pickOp]
      repeat (go_big_quiet_step (fail))
      refine wpQuiet_nil ?_
      refine mix_run 49 (by kernel_rfl) ?_
      simp only [segOf, pickOps, pickOp]
      go_wp2_with fail
      rw [← HVV.out]
      refine (HF4.out.has HXZ.out HHAS.out).mono ?_
      rintro e w5 ⟨rfl, h1⟩
      have HF5 := Lib.hid h1
      clear h1
      go_wp2_with fail
      refine MixPost.normal (HFF.out _ HF5.out) ?_
      refine mix_seg [50, 51, 52, 53, 54, 55, 56, 57] (by kernel_rfl) (HFF.out _ HF5.out) ?_
      simp only [segOf, pickOps, pickOp]
      repeat (go_big_quiet_step (fail))
      refine wpQuiet_nil ?_
      refine mix_run 58 (by kernel_rfl) ?_
      simp only [segOf, pickOps, pickOp]
      go_wp2_with fail
      refine (HF5.out.flip bits HXZ.out b2).mono ?_
      rintro e w6 ⟨t, rfl, ht, hts, h1⟩
      have HT := Lib.hid ht
      have HTZ : Hid (t.size ≤ maxLen) := by show _ ≤ _; rw [hts]; exact HXZ.out
      clear ht hts
      have HF6 := Lib.hid h1
      clear h1
      go_wp2_with fail
      refine MixPost.normal (HFF.out _ HF6.out) ?_
      refine mix_run 59 (by kernel_rfl) ?_
      simp only [segOf, pickOps, pickOp]
      go_wp2_with fail
      rw [← HVV.out]
      refine (HF6.out.cov t HTZ.out (HCOV.out t HT.out)).mono ?_
      rintro e w7 ⟨rfl, h1⟩
      have HF7 := Lib.hid h1
      clear h1
      go_wp2_with fail
      refine MixPost.normal (HFF.out _ HF7.out) ?_
      refine mix_seg [60, 61] (by kernel_rfl) (HFF.out _ HF7.out) ?_
      simp only [segOf, pickOps, pickOp]
      repeat (go_big_quiet_step (fail))
      refine wpQuiet_nil ?_
      refine mix_run 62 (by kernel_rfl) ?_
      simp only [segOf, pickOps, pickOp]
      go_wp2_with fail
      refine (HF7.out.awake).mono ?_
      rintro e w8 ⟨rfl, h1⟩
      have HF8 := Lib.hid h1
      clear h1
      go_wp2_with fail
      refine MixPost.normal (HFF.out _ HF8.out) ?_
      refine mix_seg [63, 64] (by kernel_rfl) (HFF.out _ HF8.out) ?_
      simp only [segOf, pickOps, pickOp]
      repeat (go_big_quiet_step (fail))
      refine wpQuiet_nil ?_
      refine mix_done (by kernel_rfl) ?_
      go_wp2
      go_ret
      exact ⟨rfl, HF8.out.st.bel⟩
end Go.Proofs.YtnoiciakbbkngaaDoor
