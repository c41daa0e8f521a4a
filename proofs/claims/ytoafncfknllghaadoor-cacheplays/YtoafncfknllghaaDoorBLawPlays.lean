/-
  The walk of the law CachePlays: whatever is put, swept and cleared, it returns true, and nothing that was there has turned. Conditions: the calls and the names lie where the slices say; the table of methods lies there.
-/
import Derived.Test.YtoafncfknllghaaDoorBPair
import Derived.Test.YtoafncfknllghaaDoorBDeed
import Derived.Test.YtoafncfknllghaaDoorBRef3
import Derived.Test.YtoafncfknllghaaDoorBRef4
import Derived.Deep.CutRange
import Derived.Deep.CutBlock
namespace Go.Proofs.YtoafncfknllghaaDoor
open Go.RowKit

/-- a call in a box -/
structure DeAt (W : World) (b : Nat) (x : Dd) : Prop where
  c0 : W.cell? ⟨b, 0, none⟩ = some (.int .i64 x.op)
  c1 : W.cell? ⟨b, 1, none⟩ = some (.string x.e.k.o)
  c2 : W.cell? ⟨b, 2, none⟩ = some (.string x.e.k.u)
  c3 : W.cell? ⟨b, 3, none⟩ = some (.bool x.e.k.c)
  c4 : W.cell? ⟨b, 4, none⟩ = some (.string x.e.m)
  c5 : W.cell? ⟨b, 5, none⟩ = some (.string x.e.h)
  c6 : W.cell? ⟨b, 6, none⟩ = some (.int .u64 (x.e.t : Int))
  c7 : W.cell? ⟨b, 7, none⟩ = some (.int .u64 (x.t : Int))
theorem DeAt.lt {W : World} {b : Nat} {x : Dd} (h : DeAt W b x) : b < W.heap.size := block_of_cell (a := ⟨b, 0, none⟩) h.c0
theorem DeAt.only {W W' : World} {b : Nat} {x : Dd} {s : List Nat} (h : DeAt W b x) (o : Only s W W') (hs : b ∉ s) : DeAt W' b x :=
  ⟨(o.cell (p := ⟨b, 0, none⟩) h.lt hs).trans h.c0, (o.cell (p := ⟨b, 1, none⟩) h.lt hs).trans h.c1, (o.cell (p := ⟨b, 2, none⟩) h.lt hs).trans h.c2, (o.cell (p := ⟨b, 3, none⟩) h.lt hs).trans h.c3,
   (o.cell (p := ⟨b, 4, none⟩) h.lt hs).trans h.c4, (o.cell (p := ⟨b, 5, none⟩) h.lt hs).trans h.c5, (o.cell (p := ⟨b, 6, none⟩) h.lt hs).trans h.c6, (o.cell (p := ⟨b, 7, none⟩) h.lt hs).trans h.c7⟩
theorem DeAt.new (W : World) (x : Dd) (t : TypeId) : DeAt (W.alloc (.cells #[.int .i64 x.op, .string x.e.k.o, .string x.e.k.u, .bool x.e.k.c, .string x.e.m, .string x.e.h, .int .u64 (x.e.t : Int), .int .u64 (x.t : Int)] t)) W.heap.size x := ⟨by simp, by simp, by simp, by simp, by simp, by simp, by simp, by simp⟩
/-- both caches, a cell in a box, a call in a box -/
structure PlayC (w W : World) (g h n : Nat) (v u : Value) (l l2 : List En) (B : Nat) (k : Cl) (b : Nat) (x : Dd) : Prop where
  p : PairC w W g h n v u l l2 B k
  c : DeAt W b x
  n1 : b ∉ g :: ownL v
  n2 : b ∉ h :: ownL u
section
variable {w W W' : World} {g h n B b : Nat} {v u : Value} {l l2 l' : List En} {k : Cl} {x : Dd}
theorem PlayC.old (h' : PlayC w W g h n v u l l2 B k b x) (o : Only [] W W') : PlayC w W' g h n v u l l2 B k b x := ⟨h'.p.old o, h'.c.only o (by simp), h'.n1, h'.n2⟩
theorem PlayC.stepP (h' : PlayC w W g h n v u l l2 B k b x) (s : CaStep W W' g n v l') : ∃ v', PlayC w W' g h n v' u l' l2 B k b x := by
  obtain ⟨v', h1, h2, h3⟩ := h'.p.stepP s
  refine ⟨v', h1, h'.c.only h2 h'.n1, fun hm => ?_, h'.n2⟩
  rcases h3.mem hm with h4 | h4
  · exact h'.n1 h4
  · have := h'.c.lt; omega
theorem PlayC.stepM (h' : PlayC w W g h n v u l l2 B k b x) (s : CaStep W W' h n u l') : ∃ u', PlayC w W' g h n v u' l l' B k b x := by
  obtain ⟨u', h1, h2, h3⟩ := h'.p.stepM s
  refine ⟨u', h1, h'.c.only h2 h'.n2, h'.n1, fun hm => ?_⟩
  rcases h3.mem hm with h4 | h4
  · exact h'.n2 h4
  · have := h'.c.lt; omega
end
/-- the names that came in -/
theorem SArg.at_ {w W : World} {a : Option Addr} {c : Nat} {xs : List ByteArray} (h : SArg w a c xs) (hb : Below w.heap.size w W) : SRow W w.heap.size a xs := h.1.below hb

set_option maxRecDepth 40000 in
set_option maxHeartbeats 16000000 in
theorem walk_CachePlays (a0 : Int) (a1 : Option Addr) (c1 : Nat) (x1 : List Dd) (o u : ByteArray) (c : Bool) (mt : ByteArray) (a4 : Option Addr) (c4 : Nat) (x4 : List ByteArray) (t5 : Int) (w : World) (_h0 : (Lit.int .i64 a0).wf = true) (h1 : DArg w a1 c1 x1)
    (h2a : o.size ≤ maxLen) (h2b : u.size ≤ maxLen) (h3 : mt.size ≤ maxLen) (h4 : SArg w a4 c4 x4) (h5 : (Lit.int .u64 t5).wf = true) (he : MEnv w) :
    Calls Tryd.prog 3 #[.int .i64 a0, .slice a1 x1.length c1, .agg #[.string o, .string u, .bool c], .string mt, .slice a4 x4.length c4, .int .u64 t5] w fun e w' => e = .returned (.bool true) ∧ Below w.heap.size w w' := by
  have H1 := Lib.hid h1
  have H4 := Lib.hid h4
  have HM := Lib.hid he
  have HMT := Lib.hid h3
  have hl1 := h1.2.2.1
  have hm1 := h1.2.2.2
  have hl4 := h4.2.2.1
  have hm4 := h4.2.2.2
  have HL4 : Hid (x4.length ≤ maxLen) := by show _ ≤ _; omega
  unfold maxLen at hm1 hm4
  have hw5 := wfU h5
  obtain ⟨t5, rfl⟩ : ∃ y : Nat, t5 = (y : Int) := ⟨t5.toNat, by omega⟩
  clear h1 h4 he h5 hw5 _h0
  obtain ⟨W1, hW1⟩ : ∃ W1, W1 = w.alloc (.cells #[.string o, .string u, .bool c] 24) := ⟨_, rfl⟩
  obtain ⟨B0, hB0⟩ : ∃ B0, B0 = w.heap.size := ⟨_, rfl⟩
  have HO1 : Hid (Only [] w W1) := by show Only _ _ _; rw [hW1]; exact (Only.refl _ _).alloc _
  have HX1 : Hid (ClBox W1 B0 ⟨o, u, c⟩) := by show ClBox _ _ _; rw [hW1, hB0]; exact ClBox.new w ⟨o, u, c⟩ _
  have HB1 : Hid (Below w.heap.size w W1) := HO1.out.to_below (by simp)
  by_cases hb1 : 150 < x1.length
  · go_enter Tryd.func3, Tryd.ntmps3
    go_wp2_with fail
    rw [← hW1]
    clear hW1
    go_wp2_with fail
    refine (awake16_any _).mono ?_
    rintro e w' ⟨rfl, hb⟩
    have HE := Lib.hid (HB1.out.trans (hb.mono HB1.out.size))
    clear hb
    go_wp2
    go_ret
    exact ⟨rfl, HE.out⟩
  obtain ⟨W2, hW2⟩ : ∃ W2, W2 = W1.alloc (.cells #[.string o, .string u, .string mt] 9) := ⟨_, rfl⟩
  obtain ⟨B2, hB2⟩ : ∃ B2, B2 = W1.heap.size := ⟨_, rfl⟩
  have hB2s : B2 = w.heap.size + 1 := by rw [hB2, hW1]; simp
  have HO2 : Hid (Only [] W1 W2) := by show Only _ _ _; rw [hW2]; exact (Only.refl _ _).alloc _
  have HB2 : Hid (Below w.heap.size w W2) := (HO1.out.trans HO2.out).to_below (by simp)
  have HX2 := Lib.hid (HX1.out.old HO2.out)
  have HR2 : Hid (SRow W2 (W1.heap.size + 1) (some ⟨B2, 0, none⟩) [o, u, mt]) := by show SRow _ _ _ _; rw [hW2, hB2]; exact SRow.new _ _ _ _ rfl
  have hlong := Long_any 400 (some ⟨B2, 0, none⟩) 3 3 [o, u, mt] W2 (W1.heap.size + 1) (by omega) (by omega) rfl HR2.out (long_fits (by simp)) (by simp only [List.mem_cons, List.not_mem_nil, or_false]; rintro x (rfl | rfl | rfl) <;> assumption)
  generalize Lk.longL (400 : Int).toNat ([o, u, mt].map ByteArray.size) = q1 at *
  have hlong2 := Long_any 1200 a4 x4.length c4 x4 W2 w.heap.size (by omega) (by omega) rfl (H4.out.at_ HB2.out) HL4.out H4.out.2.1
  generalize Lk.longL (1200 : Int).toNat (x4.map ByteArray.size) = q2 at *
  have hd1 : decide (150 < x1.length) = false := decide_eq_false hb1
  go_enter Tryd.func3, Tryd.ntmps3
  go_wp2_with fail
  rw [← hB2s, ← hB0, ← hW1, ← hW2]
  clear hW1 hB0 hW2 hB2 hB2s
  refine hlong.mono ?_
  rintro e w' ⟨rfl, rfl⟩
  clear hlong
  cases q1 with
  | true =>
    clear hlong2
    go_wp2_with fail
    refine (awake16_any _).mono ?_
    rintro e w' ⟨rfl, hb⟩
    have HE := Lib.hid (HB2.out.trans (hb.mono HB2.out.size))
    clear hb
    go_wp2
    go_ret
    exact ⟨rfl, HE.out⟩
  | false =>
    go_wp2_with fail
    refine hlong2.mono ?_
    rintro e w' ⟨rfl, rfl⟩
    clear hlong2
    cases q2 with
    | true =>
      go_wp2_with fail
      refine (awake16_any _).mono ?_
      rintro e w' ⟨rfl, hb⟩
      have HE := Lib.hid (HB2.out.trans (hb.mono HB2.out.size))
      clear hb
      go_wp2
      go_ret
      exact ⟨rfl, HE.out⟩
    | false =>
      clear h2a h2b h3 hd1
      obtain ⟨n, hn⟩ : ∃ n, n = clampE a0 := ⟨_, rfl⟩
      have HN := Lib.hid hn
      clear hn
      go_wp2_with fail
      refine (cNew_any a0 W2).mono ?_
      rintro e W3 ⟨g, rfl, hc3, ho3, hg3⟩
      rw [← HN.out] at hc3
      have HC3 := Lib.hid (CaNew.made HB2.out hc3 ho3 hg3)
      have HX3 := Lib.hid (HX2.out.old ho3)
      have HG3 : Hid (B0 ≠ g) := by show _ ≠ _; have := HX2.out.lt; omega
      clear hc3 ho3 hg3
      go_wp2_with fail
      refine (mNew_any a0 W3).mono ?_
      rintro e W4 ⟨h, rfl, hc4, ho4, hg4⟩
      rw [← HN.out] at hc4
      have HC4 := Lib.hid (CaNew.made HC3.out.b hc4 ho4 hg4)
      have HX4 := Lib.hid (HX3.out.old ho4)
      have HG4 : Hid (B0 ≠ h ∧ g ≠ h) := by show _ ∧ _; have := HX3.out.lt; have := HC3.out.c.lt; omega
      have HP4 : Hid (PairC w W4 g h n (.slice none 0 0) (.slice none 0 0) [] [] B0 ⟨o, u, c⟩) := by
        show PairC _ _ _ _ _ _ _ _ _ _ _
        refine ⟨HC3.out.old ho4, HC4.out, ?_, HX4.out, ?_, ?_⟩
        · intro x hx hm; simp [ownL, Value.ownBlock] at hx hm; subst hx; exact HG4.out.2 hm
        · simpa [ownL, Value.ownBlock] using HG3.out
        · simpa [ownL, Value.ownBlock] using HG4.out.1
      clear hc4 ho4 hg4 HC3 HX3 HC4 HX4 HX2
      go_wp2_with fail
      go_loopw [15] (fun i wr => ∃ (j : Nat) (v s : Value) (l : List En), j ≤ x1.length ∧ i = .int .i64 j ∧ PairC w wr g h n v s l l B0 ⟨o, u, c⟩) (fun i _ => x1.length - (intOf i).toNat)
      case atStart => exact ⟨0, _, _, [], Nat.zero_le _, rfl, HP4.out⟩
      case round =>
        obtain ⟨j, v, s, l, hj, rfl, hp⟩ := hrel
        rename World => W0
        have HP := Lib.hid hp
        clear hp HP4
        by_cases hlt : j < x1.length
        · obtain ⟨ad, ea, hda⟩ := H1.out.1 j x1[j] (List.getElem?_eq_getElem hlt)
          have HWF := Lib.hid (H1.out.2.1 x1[j] (List.getElem_mem hlt))
          have HDA := Lib.hid (hda.below HP.out.p.b)
          clear hda
          generalize x1[j] = x at *
          obtain ⟨W9, hW9⟩ : ∃ W9, W9 = W0.alloc (.cells #[.int .i64 x.op, .string x.e.k.o, .string x.e.k.u, .bool x.e.k.c, .string x.e.m, .string x.e.h, .int .u64 (x.e.t : Int), .int .u64 (x.t : Int)] 36) := ⟨_, rfl⟩
          obtain ⟨gc, hgc⟩ : ∃ gc, gc = W0.heap.size := ⟨_, rfl⟩
          have HX9 : Hid (PlayC w W9 g h n v s l l B0 ⟨o, u, c⟩ gc x) := by
            show PlayC _ _ _ _ _ _ _ _ _ _ _ _ _
            rw [hW9, hgc]
            refine ⟨HP.out.old ((Only.refl _ _).alloc _), DeAt.new _ _ _, fun hm => ?_, fun hm => ?_⟩
            · have := HP.out.p.c.own hm; omega
            · have := HP.out.m.c.own hm; omega
          obtain ⟨d0, d1, d2, d3, d4, d5, d6, d7⟩ := HDA.out
          subst ea
          go_wp2_with fail
          rw [← hW9, ← hgc]
          clear hW9 hgc d0 d1 d2 d3 d4 d5 d6 d7
          obtain ⟨d0, d1, d2, d3, d4, d5, d6, d7⟩ := HX9.out.c
          have hgr := great_any x.e W9 HWF.out.2.1
          simp only [entV] at hgr
          go_wp2_with fail
          refine hgr.mono ?_
          rintro e W10 ⟨b, rfl, ho⟩
          have HXD := Lib.hid (HX9.out.old ho)
          clear hgr ho d0 d1 d2 d3 d4 d5 d6 d7
          cases b with
          | true =>
            go_wp2_with fail
            refine (awake16_any _).mono ?_
            rintro e w' ⟨rfl, hb⟩
            have HE := Lib.hid (HXD.out.p.p.b.trans (hb.mono HXD.out.p.p.b.size))
            clear hb
            go_wp2
            go_ret
            exact ⟨rfl, HE.out⟩
          | false =>
            obtain ⟨z, hz⟩ : ∃ z : Int, z = lowV x.op 4 := ⟨_, rfl⟩
            have HZ : Hid (lowV x.op 4 = z) := hz.symm
            have HZB : Hid (z = 0 ∨ z = 1 ∨ z = 2 ∨ z = 3) := by show _ ∨ _; have := lowV_bd x.op (n := 4) (by omega); omega
            clear hz
            have d0 := HXD.out.c.c0
            go_wp2_with fail
            refine (Low_any x.op 4 W10 (by omega) (by omega)).mono ?_
            rintro e w' ⟨rfl, rfl⟩
            rw [HZ.out]
            clear d0 HZ HX9 HDA
            go_upto_block 2 with fail
            go_cut [] from 58 to 95 (fun W => ∃ (v s : Value) (l : List En), PlayC w W g h n v s l l B0 ⟨o, u, c⟩ gc x)
            case first =>
              rcases HZB.out with rfl | rfl | rfl | rfl
              · obtain ⟨W3, hW3⟩ : ∃ W3, W3 = W10.drew := ⟨_, rfl⟩
                have HX3 : Hid (PlayC w W3 g h n v s l l B0 ⟨o, u, c⟩ gc x) := by show PlayC _ _ _ _ _ _ _ _ _ _ _ _ _; rw [hW3]; exact HXD.out.old ((Only.refl _ _).drew)
                go_wp2_with fail
                refine mix_start (fun W => DeAt W gc x) (by kernel_rfl) ?_
                rw [← hW3]
                clear hW3
                have hne : Nonempty (Held (fun W => DeAt W gc x)) := ⟨⟨W3, HX3.out.c⟩⟩
                have hx0 : ∀ p : Held (fun W => DeAt W gc x), p.w.cell? ⟨gc, 0, none⟩ = some (.int .i64 x.op) := fun p => p.h.c0
                have hx1 : ∀ p : Held (fun W => DeAt W gc x), p.w.cell? ⟨gc, 1, none⟩ = some (.string x.e.k.o) := fun p => p.h.c1
                have hx2 : ∀ p : Held (fun W => DeAt W gc x), p.w.cell? ⟨gc, 2, none⟩ = some (.string x.e.k.u) := fun p => p.h.c2
                have hx3 : ∀ p : Held (fun W => DeAt W gc x), p.w.cell? ⟨gc, 3, none⟩ = some (.bool x.e.k.c) := fun p => p.h.c3
                have hx4 : ∀ p : Held (fun W => DeAt W gc x), p.w.cell? ⟨gc, 4, none⟩ = some (.string x.e.m) := fun p => p.h.c4
                have hx5 : ∀ p : Held (fun W => DeAt W gc x), p.w.cell? ⟨gc, 5, none⟩ = some (.string x.e.h) := fun p => p.h.c5
                have hx6 : ∀ p : Held (fun W => DeAt W gc x), p.w.cell? ⟨gc, 6, none⟩ = some (.int .u64 (x.e.t : Int)) := fun p => p.h.c6
                have hx7 : ∀ p : Held (fun W => DeAt W gc x), p.w.cell? ⟨gc, 7, none⟩ = some (.int .u64 (x.t : Int)) := fun p => p.h.c7
                refine mix_seg [0, 1, 2, 3, 4, 6, 7, 8, 9, 10] (by kernel_rfl) HX3.out.c ?_
                simp only [segOf, pickOps, pickOp]
                repeat (go_big_quiet_step (rfl))
                refine wpQuiet_nil ?_
                clear hx0 hx1 hx2 hx3 hx4 hx5 hx6 hx7
                refine mix_run 5 (by kernel_rfl) ?_
                simp only [segOf, pickOps, pickOp]
                go_wp2_with fail
                have hc1 := cPut_any g n v l x.e x.t W3 HX3.out.p.p.c
                refine hc1.mono ?_
                rintro e W4 ⟨rfl, hs⟩
                obtain ⟨v4, h4⟩ := HX3.out.stepP hs
                have HX4 := Lib.hid h4
                clear hc1 hs h4
                go_wp2_with fail
                refine MixPost.normal HX4.out.c ?_
                refine mix_run 11 (by kernel_rfl) ?_
                simp only [segOf, pickOps, pickOp]
                go_wp2_with fail
                have hc1 := mPut_any h n s l x.e x.t W4 HX4.out.p.m.c
                refine hc1.mono ?_
                rintro e W5 ⟨rfl, hs⟩
                obtain ⟨s5, h5⟩ := HX4.out.stepM hs
                have HX5 := Lib.hid h5
                clear hc1 hs h5
                go_wp2_with fail
                refine MixPost.normal HX5.out.c ?_
                refine mix_seg [12] (by kernel_rfl) HX5.out.c ?_
                simp only [segOf, pickOps, pickOp]
                repeat (go_big_quiet_step (rfl))
                refine wpQuiet_nil ?_
                refine mix_done (by kernel_rfl) ?_
                clear hne
                go_wp2_with fail
                go_meet
                case rel => exact ⟨_, _, _, HX5.out⟩
              · obtain ⟨W3, hW3⟩ : ∃ W3, W3 = W10.drew := ⟨_, rfl⟩
                have HX3 : Hid (PlayC w W3 g h n v s l l B0 ⟨o, u, c⟩ gc x) := by show PlayC _ _ _ _ _ _ _ _ _ _ _ _ _; rw [hW3]; exact HXD.out.old ((Only.refl _ _).drew)
                go_wp2_with fail
                refine mix_start (fun W => DeAt W gc x) (by kernel_rfl) ?_
                rw [← hW3]
                clear hW3
                have hne : Nonempty (Held (fun W => DeAt W gc x)) := ⟨⟨W3, HX3.out.c⟩⟩
                have hx0 : ∀ p : Held (fun W => DeAt W gc x), p.w.cell? ⟨gc, 0, none⟩ = some (.int .i64 x.op) := fun p => p.h.c0
                have hx1 : ∀ p : Held (fun W => DeAt W gc x), p.w.cell? ⟨gc, 1, none⟩ = some (.string x.e.k.o) := fun p => p.h.c1
                have hx2 : ∀ p : Held (fun W => DeAt W gc x), p.w.cell? ⟨gc, 2, none⟩ = some (.string x.e.k.u) := fun p => p.h.c2
                have hx3 : ∀ p : Held (fun W => DeAt W gc x), p.w.cell? ⟨gc, 3, none⟩ = some (.bool x.e.k.c) := fun p => p.h.c3
                have hx4 : ∀ p : Held (fun W => DeAt W gc x), p.w.cell? ⟨gc, 4, none⟩ = some (.string x.e.m) := fun p => p.h.c4
                have hx5 : ∀ p : Held (fun W => DeAt W gc x), p.w.cell? ⟨gc, 5, none⟩ = some (.string x.e.h) := fun p => p.h.c5
                have hx6 : ∀ p : Held (fun W => DeAt W gc x), p.w.cell? ⟨gc, 6, none⟩ = some (.int .u64 (x.e.t : Int)) := fun p => p.h.c6
                have hx7 : ∀ p : Held (fun W => DeAt W gc x), p.w.cell? ⟨gc, 7, none⟩ = some (.int .u64 (x.t : Int)) := fun p => p.h.c7
                refine mix_seg [0, 1, 2, 3, 4, 6, 7, 8, 9, 10] (by kernel_rfl) HX3.out.c ?_
                simp only [segOf, pickOps, pickOp]
                repeat (go_big_quiet_step (rfl))
                refine wpQuiet_nil ?_
                clear hx0 hx1 hx2 hx3 hx4 hx5 hx6 hx7
                refine mix_run 5 (by kernel_rfl) ?_
                simp only [segOf, pickOps, pickOp]
                go_wp2_with fail
                have hc1 := cPut_any g n v l x.e x.t W3 HX3.out.p.p.c
                refine hc1.mono ?_
                rintro e W4 ⟨rfl, hs⟩
                obtain ⟨v4, h4⟩ := HX3.out.stepP hs
                have HX4 := Lib.hid h4
                clear hc1 hs h4
                go_wp2_with fail
                refine MixPost.normal HX4.out.c ?_
                refine mix_run 11 (by kernel_rfl) ?_
                simp only [segOf, pickOps, pickOp]
                go_wp2_with fail
                have hc1 := mPut_any h n s l x.e x.t W4 HX4.out.p.m.c
                refine hc1.mono ?_
                rintro e W5 ⟨rfl, hs⟩
                obtain ⟨s5, h5⟩ := HX4.out.stepM hs
                have HX5 := Lib.hid h5
                clear hc1 hs h5
                go_wp2_with fail
                refine MixPost.normal HX5.out.c ?_
                refine mix_seg [12] (by kernel_rfl) HX5.out.c ?_
                simp only [segOf, pickOps, pickOp]
                repeat (go_big_quiet_step (rfl))
                refine wpQuiet_nil ?_
                refine mix_done (by kernel_rfl) ?_
                clear hne
                go_wp2_with fail
                go_meet
                case rel => exact ⟨_, _, _, HX5.out⟩
              · obtain ⟨W3, hW3⟩ : ∃ W3, W3 = W10.drew := ⟨_, rfl⟩
                have HX3 : Hid (PlayC w W3 g h n v s l l B0 ⟨o, u, c⟩ gc x) := by show PlayC _ _ _ _ _ _ _ _ _ _ _ _ _; rw [hW3]; exact HXD.out.old ((Only.refl _ _).drew)
                go_wp2_with fail
                refine mix_start (fun W => DeAt W gc x) (by kernel_rfl) ?_
                rw [← hW3]
                clear hW3
                have hne : Nonempty (Held (fun W => DeAt W gc x)) := ⟨⟨W3, HX3.out.c⟩⟩
                have hx0 : ∀ p : Held (fun W => DeAt W gc x), p.w.cell? ⟨gc, 0, none⟩ = some (.int .i64 x.op) := fun p => p.h.c0
                have hx1 : ∀ p : Held (fun W => DeAt W gc x), p.w.cell? ⟨gc, 1, none⟩ = some (.string x.e.k.o) := fun p => p.h.c1
                have hx2 : ∀ p : Held (fun W => DeAt W gc x), p.w.cell? ⟨gc, 2, none⟩ = some (.string x.e.k.u) := fun p => p.h.c2
                have hx3 : ∀ p : Held (fun W => DeAt W gc x), p.w.cell? ⟨gc, 3, none⟩ = some (.bool x.e.k.c) := fun p => p.h.c3
                have hx4 : ∀ p : Held (fun W => DeAt W gc x), p.w.cell? ⟨gc, 4, none⟩ = some (.string x.e.m) := fun p => p.h.c4
                have hx5 : ∀ p : Held (fun W => DeAt W gc x), p.w.cell? ⟨gc, 5, none⟩ = some (.string x.e.h) := fun p => p.h.c5
                have hx6 : ∀ p : Held (fun W => DeAt W gc x), p.w.cell? ⟨gc, 6, none⟩ = some (.int .u64 (x.e.t : Int)) := fun p => p.h.c6
                have hx7 : ∀ p : Held (fun W => DeAt W gc x), p.w.cell? ⟨gc, 7, none⟩ = some (.int .u64 (x.t : Int)) := fun p => p.h.c7
                refine mix_seg [0, 1, 2, 4, 5, 6] (by kernel_rfl) HX3.out.c ?_
                simp only [segOf, pickOps, pickOp]
                repeat (go_big_quiet_step (rfl))
                refine wpQuiet_nil ?_
                clear hx0 hx1 hx2 hx3 hx4 hx5 hx6 hx7
                refine mix_run 3 (by kernel_rfl) ?_
                simp only [segOf, pickOps, pickOp]
                go_wp2_with fail
                have hc1 := cSweep_any g n v l x.t W3 HX3.out.p.p.c
                refine hc1.mono ?_
                rintro e W4 ⟨rfl, hs⟩
                obtain ⟨v4, h4⟩ := HX3.out.stepP hs
                have HX4 := Lib.hid h4
                clear hc1 hs h4
                go_wp2_with fail
                refine MixPost.normal HX4.out.c ?_
                refine mix_run 7 (by kernel_rfl) ?_
                simp only [segOf, pickOps, pickOp]
                go_wp2_with fail
                have hc1 := mSweep_any h n s l x.t W4 HX4.out.p.m.c
                refine hc1.mono ?_
                rintro e W5 ⟨rfl, hs⟩
                obtain ⟨s5, h5⟩ := HX4.out.stepM hs
                have HX5 := Lib.hid h5
                clear hc1 hs h5
                go_wp2_with fail
                refine MixPost.normal HX5.out.c ?_
                refine mix_seg [8] (by kernel_rfl) HX5.out.c ?_
                simp only [segOf, pickOps, pickOp]
                repeat (go_big_quiet_step (rfl))
                refine wpQuiet_nil ?_
                refine mix_done (by kernel_rfl) ?_
                clear hne
                go_wp2_with fail
                go_meet
                case rel => exact ⟨_, _, _, HX5.out⟩
              · obtain ⟨W3, hW3⟩ : ∃ W3, W3 = W10.drew := ⟨_, rfl⟩
                have HX3 : Hid (PlayC w W3 g h n v s l l B0 ⟨o, u, c⟩ gc x) := by show PlayC _ _ _ _ _ _ _ _ _ _ _ _ _; rw [hW3]; exact HXD.out.old ((Only.refl _ _).drew)
                go_wp2_with fail
                refine mix_start (fun W => DeAt W gc x) (by kernel_rfl) ?_
                rw [← hW3]
                clear hW3
                have hne : Nonempty (Held (fun W => DeAt W gc x)) := ⟨⟨W3, HX3.out.c⟩⟩
                have hx0 : ∀ p : Held (fun W => DeAt W gc x), p.w.cell? ⟨gc, 0, none⟩ = some (.int .i64 x.op) := fun p => p.h.c0
                have hx1 : ∀ p : Held (fun W => DeAt W gc x), p.w.cell? ⟨gc, 1, none⟩ = some (.string x.e.k.o) := fun p => p.h.c1
                have hx2 : ∀ p : Held (fun W => DeAt W gc x), p.w.cell? ⟨gc, 2, none⟩ = some (.string x.e.k.u) := fun p => p.h.c2
                have hx3 : ∀ p : Held (fun W => DeAt W gc x), p.w.cell? ⟨gc, 3, none⟩ = some (.bool x.e.k.c) := fun p => p.h.c3
                have hx4 : ∀ p : Held (fun W => DeAt W gc x), p.w.cell? ⟨gc, 4, none⟩ = some (.string x.e.m) := fun p => p.h.c4
                have hx5 : ∀ p : Held (fun W => DeAt W gc x), p.w.cell? ⟨gc, 5, none⟩ = some (.string x.e.h) := fun p => p.h.c5
                have hx6 : ∀ p : Held (fun W => DeAt W gc x), p.w.cell? ⟨gc, 6, none⟩ = some (.int .u64 (x.e.t : Int)) := fun p => p.h.c6
                have hx7 : ∀ p : Held (fun W => DeAt W gc x), p.w.cell? ⟨gc, 7, none⟩ = some (.int .u64 (x.t : Int)) := fun p => p.h.c7
                refine mix_seg [0, 1, 2, 3, 5, 6, 7, 8] (by kernel_rfl) HX3.out.c ?_
                simp only [segOf, pickOps, pickOp]
                repeat (go_big_quiet_step (rfl))
                refine wpQuiet_nil ?_
                clear hx0 hx1 hx2 hx3 hx4 hx5 hx6 hx7
                refine mix_run 4 (by kernel_rfl) ?_
                simp only [segOf, pickOps, pickOp]
                go_wp2_with fail
                have hc1 := cClear_any g n v l x.e.k W3 HX3.out.p.p.c
                refine hc1.mono ?_
                rintro e W4 ⟨rfl, hs⟩
                obtain ⟨v4, h4⟩ := HX3.out.stepP hs
                have HX4 := Lib.hid h4
                clear hc1 hs h4
                go_wp2_with fail
                refine MixPost.normal HX4.out.c ?_
                refine mix_run 9 (by kernel_rfl) ?_
                simp only [segOf, pickOps, pickOp]
                go_wp2_with fail
                have hc1 := mClear_any h n s l x.e.k W4 HX4.out.p.m.c
                refine hc1.mono ?_
                rintro e W5 ⟨rfl, hs⟩
                obtain ⟨s5, h5⟩ := HX4.out.stepM hs
                have HX5 := Lib.hid h5
                clear hc1 hs h5
                go_wp2_with fail
                refine MixPost.normal HX5.out.c ?_
                refine mix_seg [10] (by kernel_rfl) HX5.out.c ?_
                simp only [segOf, pickOps, pickOp]
                repeat (go_big_quiet_step (rfl))
                refine wpQuiet_nil ?_
                refine mix_done (by kernel_rfl) ?_
                clear hne
                go_wp2_with fail
                go_meet
                case rel => exact ⟨_, _, _, HX5.out⟩
            case rest =>
              obtain ⟨v, s, l, hx⟩ := hcut
              obtain ⟨W11, hW11⟩ : ∃ W11, W11 = wc := ⟨_, rfl⟩
              rw [← hW11] at hx ⊢
              clear hW11
              have HX := Lib.hid hx
              clear hx HXD
              obtain ⟨As, cs, hs, _, hcs⟩ := HX.out.p.m.c.row.slice
              unfold maxLen at hcs
              obtain ⟨nl, hnl⟩ : ∃ nl, nl = l.length := ⟨_, rfl⟩
              rw [← hnl] at hs
              clear hnl
              subst hs
              obtain ⟨qm, hqm⟩ : ∃ qm, qm = methL x.e.k mt t5 l := ⟨_, rfl⟩
              obtain ⟨qc, hqc⟩ : ∃ qc, qc = covL x.e.k x.e.m x4 x.t l := ⟨_, rfl⟩
              have HQM : Hid (methL x.e.k mt t5 l = qm) := hqm.symm
              have HQC : Hid (covL x.e.k x.e.m x4 x.t l = qc) := hqc.symm
              clear hqm hqc
              obtain ⟨F, hF⟩ : ∃ F : World → Prop, ∀ W, F W ↔ (DeAt W gc x ∧ W.cell? ⟨h, 1, none⟩ = some (.slice As nl cs)) := ⟨_, fun _ => Iff.rfl⟩
              have hx0 : ∀ p : Held F, p.w.cell? ⟨gc, 0, none⟩ = some (.int .i64 x.op) := fun p => ((hF _).1 p.h).1.c0
              have hx1 : ∀ p : Held F, p.w.cell? ⟨gc, 1, none⟩ = some (.string x.e.k.o) := fun p => ((hF _).1 p.h).1.c1
              have hx2 : ∀ p : Held F, p.w.cell? ⟨gc, 2, none⟩ = some (.string x.e.k.u) := fun p => ((hF _).1 p.h).1.c2
              have hx3 : ∀ p : Held F, p.w.cell? ⟨gc, 3, none⟩ = some (.bool x.e.k.c) := fun p => ((hF _).1 p.h).1.c3
              have hx4 : ∀ p : Held F, p.w.cell? ⟨gc, 4, none⟩ = some (.string x.e.m) := fun p => ((hF _).1 p.h).1.c4
              have hx5 : ∀ p : Held F, p.w.cell? ⟨gc, 5, none⟩ = some (.string x.e.h) := fun p => ((hF _).1 p.h).1.c5
              have hx6 : ∀ p : Held F, p.w.cell? ⟨gc, 6, none⟩ = some (.int .u64 (x.e.t : Int)) := fun p => ((hF _).1 p.h).1.c6
              have hx7 : ∀ p : Held F, p.w.cell? ⟨gc, 7, none⟩ = some (.int .u64 (x.t : Int)) := fun p => ((hF _).1 p.h).1.c7
              have hxm : ∀ p : Held F, p.w.cell? ⟨h, 1, none⟩ = some (.slice As nl cs) := fun p => ((hF _).1 p.h).2
              have HFO : Hid (∀ W, Only [] W11 W → F W) := by
                show ∀ W, _
                intro W ho
                exact (hF _).2 ⟨(HX.out.old ho).c, (HX.out.old ho).p.m.c.c1⟩
              clear hF
              obtain ⟨W12, hW12⟩ : ∃ W12, W12 = W11.drew := ⟨_, rfl⟩
              have HO12 : Hid (Only [] W11 W12) := by show Only _ _ _; rw [hW12]; exact (Only.refl _ _).drew
              have hne : Nonempty (Held F) := ⟨⟨W12, HFO.out _ HO12.out⟩⟩
              go_wp2_with fail
              refine mix_start F (by kernel_rfl) ?_
              rw [← hW12]
              clear hW12
              refine mix_seg [0, 2, 3, 4, 5] (by kernel_rfl) (HFO.out _ HO12.out) ?_
              simp only [segOf, pickOps, pickOp]
              repeat (go_big_quiet_step (rfl))
              refine wpQuiet_nil ?_
              refine mix_run 1 (by kernel_rfl) ?_
              simp only [segOf, pickOps, pickOp]
              go_wp2_with fail
              refine (cEntries_any g n v l W12 (HX.out.old HO12.out).p.p.c).mono ?_
              rintro e W13 ⟨r1, rfl, hr1, hn1, ho⟩
              have HO13 := Lib.hid (HO12.out.trans ho)
              have HR1 := Lib.hid hr1
              clear hr1 hn1 ho
              go_wp2_with fail
              refine MixPost.normal (HFO.out _ HO13.out) ?_
              refine mix_run 6 (by kernel_rfl) ?_
              simp only [segOf, pickOps, pickOp]
              go_wp2_with fail
              refine (Ents_any r1 _ l W13 HR1.out (HX.out.old HO13.out).p.m.c.row).mono ?_
              rintro e W14 ⟨rfl, ho⟩
              have HO14 := Lib.hid (HO13.out.trans ho)
              clear ho
              go_wp2_with fail
              refine MixPost.normal (HFO.out _ HO14.out) ?_
              refine mix_seg [7, 8, 9, 10, 11, 12, 13, 14, 16, 17, 18, 19, 20, 21] (by kernel_rfl) (HFO.out _ HO14.out) ?_
              simp only [segOf, pickOps, pickOp]
              repeat (go_big_quiet_step (rfl))
              refine wpQuiet_nil ?_
              refine mix_run 15 (by kernel_rfl) ?_
              simp only [segOf, pickOps, pickOp]
              go_wp2_with fail
              have hc1 := cMethod_any g n v l x.e.k mt t5 W14 (HX.out.old HO14.out).p.p.c
              rw [HQM.out] at hc1
              refine hc1.mono ?_
              rintro e W15 ⟨rfl, ho⟩
              have HO15 := Lib.hid (HO14.out.trans ho)
              clear hc1 ho
              go_wp2_with fail
              refine MixPost.normal (HFO.out _ HO15.out) ?_
              refine mix_run 22 (by kernel_rfl) ?_
              simp only [segOf, pickOps, pickOp]
              go_wp2_with fail
              have hc1 := mMethod_any h n _ l x.e.k mt t5 W15 (HX.out.old HO15.out).p.m.c
              rw [HQM.out] at hc1
              refine hc1.mono ?_
              rintro e W16 ⟨rfl, ho⟩
              have HO16 := Lib.hid (HO15.out.trans ho)
              clear hc1 ho
              go_wp2_with fail
              refine MixPost.normal (HFO.out _ HO16.out) ?_
              refine mix_seg [23, 24, 25, 26, 27, 28, 29, 30, 31, 32, 33, 34, 35, 37, 38, 39, 40, 41, 42, 43, 44, 45, 46] (by kernel_rfl) (HFO.out _ HO16.out) ?_
              simp only [segOf, pickOps, pickOp]
              repeat (go_big_quiet_step (rfl))
              refine wpQuiet_nil ?_
              clear hx0 hx1 hx2 hx3 hx4 hx5 hx6 hx7 hxm
              refine mix_run 36 (by kernel_rfl) ?_
              simp only [segOf, pickOps, pickOp]
              go_wp2_with fail
              have hc1 := cCovers_any g n v l x.e.k x.e.m a4 c4 w.heap.size x4 x.t W16 (HX.out.old HO16.out).p.p.c (HM.out.below (HX.out.old HO16.out).p.p.b) HWF.out.2.1.m (H4.out.at_ (HX.out.old HO16.out).p.p.b) (HX.out.old HO16.out).p.p.b.size H4.out.2.1 HL4.out
              rw [HQC.out] at hc1
              refine hc1.mono ?_
              rintro e W17 ⟨rfl, ho⟩
              have HO17 := Lib.hid (HO16.out.trans ho)
              clear hc1 ho
              go_wp2_with fail
              refine MixPost.normal (HFO.out _ HO17.out) ?_
              refine mix_run 47 (by kernel_rfl) ?_
              simp only [segOf, pickOps, pickOp]
              go_wp2_with fail
              have hc1 := mCovers_any h n _ l x.e.k x.e.m a4 c4 w.heap.size x4 x.t W17 (HX.out.old HO17.out).p.m.c HWF.out.2.1.m (H4.out.at_ (HX.out.old HO17.out).p.p.b) (HX.out.old HO17.out).p.p.b.size H4.out.2.1 HL4.out
              rw [HQC.out] at hc1
              refine hc1.mono ?_
              rintro e W18 ⟨rfl, ho⟩
              have HO18 := Lib.hid (HO17.out.trans ho)
              clear hc1 ho
              go_wp2_with fail
              refine MixPost.normal (HFO.out _ HO18.out) ?_
              refine mix_seg [48, 49] (by kernel_rfl) (HFO.out _ HO18.out) ?_
              simp only [segOf, pickOps, pickOp]
              repeat (go_big_quiet_step (rfl))
              refine wpQuiet_nil ?_
              refine mix_done (by kernel_rfl) ?_
              clear hne
              have HXE := Lib.hid (HX.out.old HO18.out)
              go_wp2_with fail
              go_loopw [17] (fun i wr => ∃ k : Nat, k ≤ x4.length ∧ i = .int .i64 k ∧ Only [] W18 wr) (fun i _ => x4.length - (intOf i).toNat)
              case atStart => exact ⟨0, Nat.zero_le _, rfl, Only.refl _ _⟩
              case round =>
                obtain ⟨k, hk, rfl, ho⟩ := hrel
                rename World => W19
                have HO19 := Lib.hid ho
                clear ho
                have HX19 := Lib.hid (HXE.out.old HO19.out)
                by_cases hltk : k < x4.length
                · obtain ⟨a6, ea, _, hca⟩ := (H4.out.at_ HX19.out.p.p.b) k x4[k] (List.getElem?_eq_getElem hltk)
                  have HSZ := Lib.hid (H4.out.2.1 _ (List.getElem_mem hltk))
                  generalize x4[k] = nm at *
                  have HCA := Lib.hid hca
                  clear hca
                  obtain ⟨qh, hqh⟩ : ∃ qh, qh = hdrL x.e.k nm t5 l := ⟨_, rfl⟩
                  have HQH : Hid (hdrL x.e.k nm t5 l = qh) := hqh.symm
                  clear hqh
                  subst ea
                  obtain ⟨F, hF⟩ : ∃ F : World → Prop, ∀ W, F W ↔ (DeAt W gc x ∧ W.cell? (a6.add k) = some (.string nm)) := ⟨_, fun _ => Iff.rfl⟩
                  have hx0 : ∀ p : Held F, p.w.cell? ⟨gc, 0, none⟩ = some (.int .i64 x.op) := fun p => ((hF _).1 p.h).1.c0
                  have hx1 : ∀ p : Held F, p.w.cell? ⟨gc, 1, none⟩ = some (.string x.e.k.o) := fun p => ((hF _).1 p.h).1.c1
                  have hx2 : ∀ p : Held F, p.w.cell? ⟨gc, 2, none⟩ = some (.string x.e.k.u) := fun p => ((hF _).1 p.h).1.c2
                  have hx3 : ∀ p : Held F, p.w.cell? ⟨gc, 3, none⟩ = some (.bool x.e.k.c) := fun p => ((hF _).1 p.h).1.c3
                  have hx4 : ∀ p : Held F, p.w.cell? ⟨gc, 4, none⟩ = some (.string x.e.m) := fun p => ((hF _).1 p.h).1.c4
                  have hx5 : ∀ p : Held F, p.w.cell? ⟨gc, 5, none⟩ = some (.string x.e.h) := fun p => ((hF _).1 p.h).1.c5
                  have hx6 : ∀ p : Held F, p.w.cell? ⟨gc, 6, none⟩ = some (.int .u64 (x.e.t : Int)) := fun p => ((hF _).1 p.h).1.c6
                  have hx7 : ∀ p : Held F, p.w.cell? ⟨gc, 7, none⟩ = some (.int .u64 (x.t : Int)) := fun p => ((hF _).1 p.h).1.c7
                  have hxm : ∀ p : Held F, p.w.cell? (a6.add k) = some (.string nm) := fun p => ((hF _).1 p.h).2
                  have HFO2 : Hid (∀ W, Only [] W19 W → F W) := by
                    show ∀ W, _
                    intro W ho
                    exact (hF _).2 ⟨(HX19.out.old ho).c, (ho.cell (p := a6.add k) (block_of_cell HCA.out) (by simp)).trans HCA.out⟩
                  clear hF
                  obtain ⟨W20, hW20⟩ : ∃ W20, W20 = W19.drew := ⟨_, rfl⟩
                  have HO20 : Hid (Only [] W19 W20) := by show Only _ _ _; rw [hW20]; exact (Only.refl _ _).drew
                  have hne : Nonempty (Held F) := ⟨⟨W20, HFO2.out _ HO20.out⟩⟩
                  go_wp2_with fail
                  refine mix_start F (by kernel_rfl) ?_
                  rw [← hW20]
                  clear hW20
                  refine mix_seg [0, 1, 2, 3, 4, 5, 6, 7, 8, 10, 11, 12, 13, 14, 15, 16, 17, 18] (by kernel_rfl) (HFO2.out _ HO20.out) ?_
                  simp only [segOf, pickOps, pickOp]
                  repeat (go_big_quiet_step (rfl))
                  refine wpQuiet_nil ?_
                  clear hx0 hx1 hx2 hx3 hx4 hx5 hx6 hx7 hxm
                  refine mix_run 9 (by kernel_rfl) ?_
                  simp only [segOf, pickOps, pickOp]
                  go_wp2_with fail
                  have hc1 := cHeader_any g n v l x.e.k nm t5 W20 (HX19.out.old HO20.out).p.p.c HSZ.out
                  rw [HQH.out] at hc1
                  refine hc1.mono ?_
                  rintro e W21 ⟨rfl, ho⟩
                  have HO21 := Lib.hid (HO20.out.trans ho)
                  clear hc1 ho
                  go_wp2_with fail
                  refine MixPost.normal (HFO2.out _ HO21.out) ?_
                  refine mix_run 19 (by kernel_rfl) ?_
                  simp only [segOf, pickOps, pickOp]
                  go_wp2_with fail
                  have hc1 := mHeader_any h n _ l x.e.k nm t5 W21 (HX19.out.old HO21.out).p.m.c HSZ.out
                  rw [HQH.out] at hc1
                  refine hc1.mono ?_
                  rintro e W22 ⟨rfl, ho⟩
                  have HO22 := Lib.hid (HO21.out.trans ho)
                  clear hc1 ho
                  go_wp2_with fail
                  refine MixPost.normal (HFO2.out _ HO22.out) ?_
                  refine mix_seg [20] (by kernel_rfl) (HFO2.out _ HO22.out) ?_
                  simp only [segOf, pickOps, pickOp]
                  repeat (go_big_quiet_step (rfl))
                  refine wpQuiet_nil ?_
                  refine mix_done (by kernel_rfl) ?_
                  clear hne
                  go_wp2
                  go_roundw
                  case rel => exact ⟨k + 1, by omega, by go_num, HO19.out.trans HO22.out⟩
                  case measure => simp [intOf]; omega
                · go_wp2_with fail
                  go_roundw
                  case rel => exact ⟨j + 1, v, _, l, by omega, by go_num, HX19.out.p⟩
                  case measure => simp [intOf]; omega
        · obtain rfl : j = x1.length := by omega
          obtain ⟨qc, hqc⟩ : ∃ qc, qc = covL ⟨o, u, c⟩ mt x4 t5 l := ⟨_, rfl⟩
          have HQC : Hid (covL ⟨o, u, c⟩ mt x4 t5 l = qc) := hqc.symm
          clear hqc
          obtain ⟨F, hF⟩ : ∃ F : World → Prop, ∀ W, F W ↔ ClBox W B0 ⟨o, u, c⟩ := ⟨_, fun _ => Iff.rfl⟩
          have hx0 : ∀ p : Held F, p.w.cell? ⟨B0, 0, none⟩ = some (.string o) := fun p => ((hF _).1 p.h).c0
          have hx1 : ∀ p : Held F, p.w.cell? ⟨B0, 1, none⟩ = some (.string u) := fun p => ((hF _).1 p.h).c1
          have hx2 : ∀ p : Held F, p.w.cell? ⟨B0, 2, none⟩ = some (.bool c) := fun p => ((hF _).1 p.h).c2
          have HFO : Hid (∀ W, Only [] W0 W → F W) := by
            show ∀ W, _
            intro W ho
            exact (hF _).2 (HP.out.k.old ho)
          clear hF
          obtain ⟨W12, hW12⟩ : ∃ W12, W12 = W0.drew := ⟨_, rfl⟩
          have HO12 : Hid (Only [] W0 W12) := by show Only _ _ _; rw [hW12]; exact (Only.refl _ _).drew
          have hne : Nonempty (Held F) := ⟨⟨W12, HFO.out _ HO12.out⟩⟩
          go_wp2_with fail
          refine mix_start F (by kernel_rfl) ?_
          rw [← hW12]
          clear hW12
          refine mix_seg [0, 1, 2, 3, 4, 6, 7, 8, 9, 10] (by kernel_rfl) (HFO.out _ HO12.out) ?_
          simp only [segOf, pickOps, pickOp]
          repeat (go_big_quiet_step (rfl))
          refine wpQuiet_nil ?_
          clear hx0 hx1 hx2
          refine mix_run 5 (by kernel_rfl) ?_
          simp only [segOf, pickOps, pickOp]
          go_wp2_with fail
          have hc1 := cCovers_any g n v l ⟨o, u, c⟩ mt a4 c4 w.heap.size x4 t5 W12 (HP.out.old HO12.out).p.c (HM.out.below (HP.out.old HO12.out).p.b) HMT.out (H4.out.at_ (HP.out.old HO12.out).p.b) (HP.out.old HO12.out).p.b.size H4.out.2.1 HL4.out
          rw [HQC.out] at hc1
          refine hc1.mono ?_
          rintro e W13 ⟨rfl, ho⟩
          have HO13 := Lib.hid (HO12.out.trans ho)
          clear hc1 ho
          go_wp2_with fail
          refine MixPost.normal (HFO.out _ HO13.out) ?_
          refine mix_run 11 (by kernel_rfl) ?_
          simp only [segOf, pickOps, pickOp]
          go_wp2_with fail
          have hc1 := mCovers_any h n s l ⟨o, u, c⟩ mt a4 c4 w.heap.size x4 t5 W13 (HP.out.old HO13.out).m.c HMT.out (H4.out.at_ (HP.out.old HO13.out).p.b) (HP.out.old HO13.out).p.b.size H4.out.2.1 HL4.out
          rw [HQC.out] at hc1
          refine hc1.mono ?_
          rintro e W14 ⟨rfl, ho⟩
          have HO14 := Lib.hid (HO13.out.trans ho)
          clear hc1 ho
          go_wp2_with fail
          refine MixPost.normal (HFO.out _ HO14.out) ?_
          refine mix_seg [12, 13] (by kernel_rfl) (HFO.out _ HO14.out) ?_
          simp only [segOf, pickOps, pickOp]
          repeat (go_big_quiet_step (rfl))
          refine wpQuiet_nil ?_
          refine mix_run 14 (by kernel_rfl) ?_
          simp only [segOf, pickOps, pickOp]
          go_wp2_with fail
          refine (awake16_any _).mono ?_
          rintro e W15 ⟨rfl, hb⟩
          have HO15 := Lib.hid (HO14.out.trans (Only.of_below hb []))
          clear hb
          go_wp2_with fail
          refine MixPost.normal (HFO.out _ HO15.out) ?_
          refine mix_seg [15, 16] (by kernel_rfl) (HFO.out _ HO15.out) ?_
          simp only [segOf, pickOps, pickOp]
          repeat (go_big_quiet_step (rfl))
          refine wpQuiet_nil ?_
          refine mix_done (by kernel_rfl) ?_
          clear hne
          have HE := Lib.hid (HP.out.old HO15.out).p.b
          go_wp2
          go_ret
          exact ⟨by simp, HE.out⟩
end Go.Proofs.YtoafncfknllghaaDoor
