/-
  The walk of the law CacheApart: whatever is put, it returns true, and nothing that was there has turned. Conditions: the entries and the names lie where the slices say; the table of methods lies there.
-/
import Derived.Test.YtoafncfknllghaaDoorBPair
import Derived.Test.YtoafncfknllghaaDoorBDeed2
import Derived.Test.YtoafncfknllghaaDoorBMath3
import Derived.Deep.CutRange
import Derived.Deep.MidRow
namespace Go.Proofs.YtoafncfknllghaaDoor
open Go.RowKit

/-- an entry in a box that may be turned -/
structure EzAt (W : World) (b : Nat) (e : En) : Prop where
  e : EnBox W b e
  z : ∀ j, W.frozen? ⟨b, j, none⟩ = false
theorem EzAt.only {W W' : World} {b : Nat} {e : En} {s : List Nat} (h : EzAt W b e) (o : Only s W W') (hs : b ∉ s) : EzAt W' b e := ⟨h.e.only o hs, fun j => (o.frozen (p := ⟨b, j, none⟩) h.e.lt hs).trans (h.z j)⟩
theorem EzAt.new (W : World) (e : En) (t : TypeId) : EzAt (W.alloc (.cells #[.string e.k.o, .string e.k.u, .bool e.k.c, .string e.m, .string e.h, .int .u64 (e.t : Int)] t)) W.heap.size e := ⟨EnBox.new _ _ _, fun j => by simp⟩
/-- its cell is laid anew -/
theorem EzAt.cell {W : World} {b : Nat} {e : En} (h : EzAt W b e) (k : Cl) : EzAt (W.setCells b 0 [.string k.o, .string k.u, .bool k.c]) b { e with k := k } := by
  have e1 : W.setCells b 0 [.string k.o, .string k.u, .bool k.c] = ((W.setCell ⟨b, 0, none⟩ (.string k.o)).setCell ⟨b, 1, none⟩ (.string k.u)).setCell ⟨b, 2, none⟩ (.bool k.c) := rfl
  rw [e1]
  obtain ⟨⟨c0, c1, c2, c3, c4, c5⟩, z⟩ := h
  have s0 : (W.setCell ⟨b, 0, none⟩ (.string k.o)).cell? ⟨b, 0, none⟩ = some (.string k.o) := World.cell?_setCell_same _ _ _ c0
  have s1 : ((W.setCell ⟨b, 0, none⟩ (.string k.o)).setCell ⟨b, 1, none⟩ (.string k.u)).cell? ⟨b, 1, none⟩ = some (.string k.u) := World.cell?_setCell_same _ _ _ (by rw [World.cell?_setCell_other _ _ _ _ (by simp)]; exact c1)
  refine ⟨⟨?_, ?_, ?_, ?_, ?_, ?_⟩, fun j => ?_⟩
  · rw [World.cell?_setCell_other _ _ _ _ (by simp), World.cell?_setCell_other _ _ _ _ (by simp)]; exact s0
  · rw [World.cell?_setCell_other _ _ _ _ (by simp)]; exact s1
  · exact World.cell?_setCell_same _ _ _ (by rw [World.cell?_setCell_other _ _ _ _ (by simp), World.cell?_setCell_other _ _ _ _ (by simp)]; exact c2)
  · rw [World.cell?_setCell_other _ _ _ _ (by simp), World.cell?_setCell_other _ _ _ _ (by simp), World.cell?_setCell_other _ _ _ _ (by simp)]; exact c3
  · rw [World.cell?_setCell_other _ _ _ _ (by simp), World.cell?_setCell_other _ _ _ _ (by simp), World.cell?_setCell_other _ _ _ _ (by simp)]; exact c4
  · rw [World.cell?_setCell_other _ _ _ _ (by simp), World.cell?_setCell_other _ _ _ _ (by simp), World.cell?_setCell_other _ _ _ _ (by simp)]; exact c5
  · rw [World.frozen?_setCell, World.frozen?_setCell, World.frozen?_setCell]; exact z j
/-- both caches, a cell in a box, an entry in a box -/
structure PlayA (w W : World) (g h n : Nat) (v u : Value) (l l2 : List En) (B : Nat) (k : Cl) (b : Nat) (x : En) : Prop where
  p : PairC w W g h n v u l l2 B k
  c : EzAt W b x
  n1 : b ∉ g :: ownL v
  n2 : b ∉ h :: ownL u
  n3 : b ≠ B
  up : w.heap.size ≤ b
section
variable {w W W' : World} {g h n B b : Nat} {v u : Value} {l l2 l' : List En} {k : Cl} {x : En}
theorem PlayA.old (h' : PlayA w W g h n v u l l2 B k b x) (o : Only [] W W') : PlayA w W' g h n v u l l2 B k b x := ⟨h'.p.old o, h'.c.only o (by simp), h'.n1, h'.n2, h'.n3, h'.up⟩
theorem PlayA.stepP (h' : PlayA w W g h n v u l l2 B k b x) (s : CaStep W W' g n v l') : ∃ v', PlayA w W' g h n v' u l' l2 B k b x := by
  obtain ⟨v', h1, h2, h3⟩ := h'.p.stepP s
  refine ⟨v', h1, h'.c.only h2 h'.n1, fun hm => ?_, h'.n2, h'.n3, h'.up⟩
  rcases h3.mem hm with h4 | h4
  · exact h'.n1 h4
  · have := h'.c.e.lt; omega
theorem PlayA.stepM (h' : PlayA w W g h n v u l l2 B k b x) (s : CaStep W W' h n u l') : ∃ u', PlayA w W' g h n v u' l l' B k b x := by
  obtain ⟨u', h1, h2, h3⟩ := h'.p.stepM s
  refine ⟨u', h1, h'.c.only h2 h'.n2, h'.n1, fun hm => ?_, h'.n3, h'.up⟩
  rcases h3.mem hm with h4 | h4
  · exact h'.n2 h4
  · have := h'.c.e.lt; omega
theorem PlayA.cell (h' : PlayA w W g h n v u l l2 B k b x) : PlayA w (W.setCells b 0 [.string k.o, .string k.u, .bool k.c]) g h n v u l l2 B k b { x with k := k } := by
  have o : Only [b] W (W.setCells b 0 [.string k.o, .string k.u, .bool k.c]) := Only.cells (by simp) _ _ _ (Only.refl _ _)
  have hu : ∀ y ∈ [b], w.heap.size ≤ y := by intro y hy; simp at hy; subst hy; exact h'.up
  refine ⟨⟨h'.p.p.only o ?_ hu, h'.p.m.only o ?_ hu, h'.p.d, h'.p.k.only o (by have := h'.n3; simp; exact fun h => this h.symm), h'.p.b1, h'.p.b2⟩, h'.c.cell k, h'.n1, h'.n2, h'.n3, h'.up⟩
  · intro y hy hm; simp at hm; subst hm; exact h'.n1 hy
  · intro y hy hm; simp at hm; subst hm; exact h'.n2 hy
end
theorem SArg.at_ {w W : World} {a : Option Addr} {c : Nat} {xs : List ByteArray} (h : SArg w a c xs) (hb : Below w.heap.size w W) : SRow W w.heap.size a xs := h.1.below hb

set_option maxRecDepth 40000 in
set_option maxHeartbeats 16000000 in
theorem walk_CacheApart (a1 : Option Addr) (c1 : Nat) (x1 : List Dd) (o u : ByteArray) (c : Bool) (mt : ByteArray) (a4 : Option Addr) (c4 : Nat) (x4 : List ByteArray) (t5 : Int) (w : World) (h1 : DArg w a1 c1 x1)
    (h2a : o.size ≤ maxLen) (h2b : u.size ≤ maxLen) (h3 : mt.size ≤ maxLen) (h4 : SArg w a4 c4 x4) (h5 : (Lit.int .u64 t5).wf = true) (he : MEnv w) :
    Calls Tryd.prog 4 #[.slice a1 x1.length c1, .agg #[.string o, .string u, .bool c], .string mt, .slice a4 x4.length c4, .int .u64 t5] w fun e w' => e = .returned (.bool true) ∧ Below w.heap.size w w' := by
  have H1 := Lib.hid h1
  have H4 := Lib.hid h4
  have HM := Lib.hid he
  have HMT := Lib.hid h3
  have hl1 := h1.2.2.1
  have hm1 := h1.2.2.2
  have hl4 := h4.2.2.1
  have hm4 := h4.2.2.2
  have HL4 : Hid (x4.length ≤ maxLen) := by show _ ≤ _; omega
  unfold maxLen at hm1 hm4
  have hw5 := wfU h5
  obtain ⟨t5, rfl⟩ : ∃ y : Nat, t5 = (y : Int) := ⟨t5.toNat, by omega⟩
  clear h1 h4 he h5 hw5
  obtain ⟨W1, hW1⟩ : ∃ W1, W1 = w.alloc (.cells #[.string o, .string u, .bool c] 24) := ⟨_, rfl⟩
  obtain ⟨B0, hB0⟩ : ∃ B0, B0 = w.heap.size := ⟨_, rfl⟩
  have HO1 : Hid (Only [] w W1) := by show Only _ _ _; rw [hW1]; exact (Only.refl _ _).alloc _
  have HX1 : Hid (ClBox W1 B0 ⟨o, u, c⟩) := by show ClBox _ _ _; rw [hW1, hB0]; exact ClBox.new w ⟨o, u, c⟩ _
  have HB1 : Hid (Below w.heap.size w W1) := HO1.out.to_below (by simp)
  by_cases hb1 : 30 < x1.length
  · go_enter Tryd.func4, Tryd.ntmps4
    go_wp2_with fail
    rw [← hW1]
    clear hW1
    go_wp2_with fail
    refine (awake16_any _).mono ?_
    rintro e w' ⟨rfl, hb⟩
    have HE := Lib.hid (HB1.out.trans (hb.mono HB1.out.size))
    clear hb
    go_wp2
    go_ret
    exact ⟨rfl, HE.out⟩
  obtain ⟨W2, hW2⟩ : ∃ W2, W2 = W1.alloc (.cells #[.string o, .string u, .string mt] 9) := ⟨_, rfl⟩
  obtain ⟨B2, hB2⟩ : ∃ B2, B2 = W1.heap.size := ⟨_, rfl⟩
  have hB2s : B2 = w.heap.size + 1 := by rw [hB2, hW1]; simp
  have HO2 : Hid (Only [] W1 W2) := by show Only _ _ _; rw [hW2]; exact (Only.refl _ _).alloc _
  have HB2 : Hid (Below w.heap.size w W2) := (HO1.out.trans HO2.out).to_below (by simp)
  have HX2 := Lib.hid (HX1.out.old HO2.out)
  have HR2 : Hid (SRow W2 (W1.heap.size + 1) (some ⟨B2, 0, none⟩) [o, u, mt]) := by show SRow _ _ _ _; rw [hW2, hB2]; exact SRow.new _ _ _ _ rfl
  have hlong := Long_any 400 (some ⟨B2, 0, none⟩) 3 3 [o, u, mt] W2 (W1.heap.size + 1) (by omega) (by omega) rfl HR2.out (long_fits (by simp)) (by simp only [List.mem_cons, List.not_mem_nil, or_false]; rintro x (rfl | rfl | rfl) <;> assumption)
  generalize Lk.longL (400 : Int).toNat ([o, u, mt].map ByteArray.size) = q1 at *
  have hlong2 := Long_any 1200 a4 x4.length c4 x4 W2 w.heap.size (by omega) (by omega) rfl (H4.out.at_ HB2.out) HL4.out H4.out.2.1
  generalize Lk.longL (1200 : Int).toNat (x4.map ByteArray.size) = q2 at *
  have hd1 : decide (30 < x1.length) = false := decide_eq_false hb1
  go_enter Tryd.func4, Tryd.ntmps4
  go_wp2_with fail
  rw [← hB2s, ← hB0, ← hW1, ← hW2]
  clear hW1 hB0 hW2 hB2 hB2s
  refine hlong.mono ?_
  rintro e w' ⟨rfl, rfl⟩
  clear hlong
  cases q1 with
  | true =>
    clear hlong2
    go_wp2_with fail
    refine (awake16_any _).mono ?_
    rintro e w' ⟨rfl, hb⟩
    have HE := Lib.hid (HB2.out.trans (hb.mono HB2.out.size))
    clear hb
    go_wp2
    go_ret
    exact ⟨rfl, HE.out⟩
  | false =>
    go_wp2_with fail
    refine hlong2.mono ?_
    rintro e w' ⟨rfl, rfl⟩
    clear hlong2
    cases q2 with
    | true =>
      go_wp2_with fail
      refine (awake16_any _).mono ?_
      rintro e w' ⟨rfl, hb⟩
      have HE := Lib.hid (HB2.out.trans (hb.mono HB2.out.size))
      clear hb
      go_wp2
      go_ret
      exact ⟨rfl, HE.out⟩
    | false =>
      clear h2a h2b h3 hd1
      go_wp2_with fail
      refine (cNew_any 64 W2).mono ?_
      rintro e W3 ⟨g, rfl, hc3, ho3, hg3⟩
      rw [show clampE 64 = 64 by rfl] at hc3
      have HC3 := Lib.hid (CaNew.made HB2.out hc3 ho3 hg3)
      have HX3 := Lib.hid (HX2.out.old ho3)
      have HG3 : Hid (B0 ≠ g) := by show _ ≠ _; have := HX2.out.lt; omega
      clear hc3 ho3 hg3
      go_wp2_with fail
      refine (cNew_any 64 W3).mono ?_
      rintro e W4 ⟨h, rfl, hc4, ho4, hg4⟩
      rw [show clampE 64 = 64 by rfl] at hc4
      have HC4 := Lib.hid (CaNew.made HC3.out.b hc4 ho4 hg4)
      have HX4 := Lib.hid (HX3.out.old ho4)
      have HG4 : Hid (B0 ≠ h ∧ g ≠ h) := by show _ ∧ _; have := HX3.out.lt; have := HC3.out.c.lt; omega
      have HP4 : Hid (PairC w W4 g h 64 (.slice none 0 0) (.slice none 0 0) [] [] B0 ⟨o, u, c⟩) := by
        show PairC _ _ _ _ _ _ _ _ _ _ _
        refine ⟨HC3.out.old ho4, HC4.out, ?_, HX4.out, ?_, ?_⟩
        · intro x hx hm; simp [ownL, Value.ownBlock] at hx hm; subst hx; exact HG4.out.2 hm
        · simpa [ownL, Value.ownBlock] using HG3.out
        · simpa [ownL, Value.ownBlock] using HG4.out.1
      clear hc4 ho4 hg4 HC3 HX3 HC4 HX4 HX2
      go_wp2_with fail
      go_loopw [13, 14] (fun cn i wr => ∃ (j nn : Nat) (v s : Value) (l l2 : List En), j ≤ x1.length ∧ nn ≤ j ∧ i = .int .i64 j ∧ cn = .int .i64 nn ∧ PairC w wr g h 64 v s l l2 B0 ⟨o, u, c⟩ ∧ ApOk ⟨o, u, c⟩ l l2 nn j) (fun _ i _ => x1.length - (intOf i).toNat)
      case atStart => exact ⟨0, 0, _, _, [], [], Nat.zero_le _, Nat.le_refl _, rfl, rfl, HP4.out, ApOk.start _⟩
      case round =>
        obtain ⟨j, nn, v, s, l, l2, hj, hnj, rfl, rfl, hp, hok⟩ := hrel
        rename World => W0
        have HP := Lib.hid hp
        have HK := Lib.hid hok
        clear hp hok HP4
        by_cases hlt : j < x1.length
        · have hj30 : j < 30 := by omega
          obtain ⟨ad, ea, hda⟩ := H1.out.1 j x1[j] (List.getElem?_eq_getElem hlt)
          have HWF := Lib.hid (H1.out.2.1 x1[j] (List.getElem_mem hlt))
          have HDA := Lib.hid (hda.below HP.out.p.b)
          clear hda
          generalize x1[j] = x at *
          obtain ⟨W9, hW9⟩ : ∃ W9, W9 = W0.alloc (.cells #[.string x.k.o, .string x.k.u, .bool x.k.c, .string x.m, .string x.h, .int .u64 (x.t : Int)] 34) := ⟨_, rfl⟩
          obtain ⟨gc, hgc⟩ : ∃ gc, gc = W0.heap.size := ⟨_, rfl⟩
          have HX9 : Hid (PlayA w W9 g h 64 v s l l2 B0 ⟨o, u, c⟩ gc x) := by
            show PlayA _ _ _ _ _ _ _ _ _ _ _ _ _
            rw [hW9, hgc]
            refine ⟨HP.out.old ((Only.refl _ _).alloc _), EzAt.new _ _ _, fun hm => ?_, fun hm => ?_, ?_, HP.out.p.b.size⟩
            · have := HP.out.p.c.own hm; omega
            · have := HP.out.m.c.own hm; omega
            · have := HP.out.k.lt; omega
          obtain ⟨d0, d1, d2, d3, d4, d5⟩ := HDA.out
          subst ea
          go_wp2_with fail
          rw [← hW9, ← hgc]
          clear hW9 hgc d0 d1 d2 d3 d4 d5
          obtain ⟨d0, d1, d2, d3, d4, d5⟩ := HX9.out.c.e
          have hgr := great_any x W9 HWF.out
          simp only [entV] at hgr
          go_wp2_with fail
          refine hgr.mono ?_
          rintro e W10 ⟨b, rfl, ho⟩
          have HXD := Lib.hid (HX9.out.old ho)
          clear hgr ho d0 d1 d2 d3 d4 d5
          cases b with
          | true =>
            go_wp2_with fail
            refine (awake16_any _).mono ?_
            rintro e w' ⟨rfl, hb⟩
            have HE := Lib.hid (HXD.out.p.p.b.trans (hb.mono HXD.out.p.p.b.size))
            clear hb
            go_wp2
            go_ret
            exact ⟨rfl, HE.out⟩
          | false =>
            obtain ⟨z, hz⟩ : ∃ z : Bool, z = ((j : Int) % 2 == 0) := ⟨_, rfl⟩
            have HZ : Hid (((j : Int) % 2 == 0) = z) := hz.symm
            have hzz := HZ.out
            clear hz HX9 HDA
            go_upto_if 57 with fail
            go_cut [] from 58 to 59 (fun W => ∃ x' : En, PlayA w W g h 64 v s l l2 B0 ⟨o, u, c⟩ gc x')
            case first =>
              clear hzz
              cases z with
              | true =>
                obtain ⟨d0, d1, d2⟩ := HXD.out.p.k
                simp only at d0 d1 d2
                have HT : Hid (W10.there gc 0 3) := by
                  show World.there _ _ _ _
                  intro t ht
                  have hq := HXD.out.c
                  match t, ht with
                  | 0, _ => exact ⟨by rw [hq.e.c0]; rfl, hq.z 0⟩
                  | 1, _ => exact ⟨by rw [show (0 + 1) = 1 from rfl, hq.e.c1]; rfl, hq.z 1⟩
                  | 2, _ => exact ⟨by rw [show (0 + 2) = 2 from rfl, hq.e.c2]; rfl, hq.z 2⟩
                obtain ⟨W11, hW11⟩ : ∃ W11, W11 = W10.setCells gc 0 [.string o, .string u, .bool c] := ⟨_, rfl⟩
                have HW11 : Hid (W10.setCells gc 0 [.string o, .string u, .bool c] = W11) := hW11.symm
                have HX11 : Hid (PlayA w W11 g h 64 v s l l2 B0 ⟨o, u, c⟩ gc { x with k := ⟨o, u, c⟩ }) := by show PlayA _ _ _ _ _ _ _ _ _ _ _ _ _; rw [hW11]; exact HXD.out.cell
                clear hW11
                go_wp2_with (refine wpList_store_mid (by rfl) 24 (.tmp 59) (.tmp 58) (by rfl) gc 0 #[.string o, .string u, .bool c] (by simp [Act.eval]) (by simp [Act.eval]) HT.out (by kernel_rfl) (by simp [Value.oneCell']) ?_; rw [HW11.out])
                go_meet
                case rel => exact ⟨_, HX11.out⟩
              | false =>
                go_wp2_with fail
                go_meet
                case rel => exact ⟨_, HXD.out⟩
            case rest =>
            obtain ⟨x', hx⟩ := hcut
            obtain ⟨W11, hW11⟩ : ∃ W11, W11 = wc := ⟨_, rfl⟩
            rw [← hW11] at hx ⊢
            clear hW11 hzz
            have HX := Lib.hid hx
            clear hx HXD HWF
            generalize hxx : x' = y at *
            clear hxx
            obtain ⟨d0, d1, d2, d3, d4, d5⟩ := HX.out.c.e
            obtain ⟨p, hpp⟩ : ∃ p, p = putB y 0 := ⟨_, rfl⟩
            have HPB := Lib.hid hpp
            have hput := cPut_any g 64 v l y 0 W11 HX.out.p.p.c
            rw [← hpp] at hput
            clear hpp
            simp only [entV] at hput
            go_wp2_with fail
            refine hput.mono ?_
            rintro e W12 ⟨rfl, hs⟩
            obtain ⟨v2, h2⟩ := HX.out.stepP hs
            have HX2 := Lib.hid h2
            clear hput hs h2 d0 d1 d2 d3 d4 d5
            obtain ⟨d0, d1, d2, d3, d4, d5⟩ := HX2.out.c.e
            obtain ⟨f0, f1, f2⟩ := HX2.out.p.k
            simp only at f0 f1 f2
            obtain ⟨q, hq⟩ : ∃ q, q = ofB ⟨o, u, c⟩ y := ⟨_, rfl⟩
            have HQ := Lib.hid hq
            have hcmp : ∀ W, (binOp .eql 24 (.agg #[.string y.k.o, .string y.k.u, .bool y.k.c]) (.agg #[.string o, .string u, .bool c])).run Tryd.prog W = .ok (.bool q) W := fun W => by rw [eqlE_cell, hq]; rfl
            clear hq
            cases q with
            | true =>
              have hput := cPut_any h 64 s l2 y 0 W12 HX2.out.p.m.c
              rw [← HPB.out] at hput
              simp only [entV] at hput
              go_wp2_with fail
              refine hput.mono ?_
              rintro e W13 ⟨rfl, hs⟩
              obtain ⟨s3, h3⟩ := HX2.out.stepM hs
              have HX3 := Lib.hid h3
              clear hput hs h3 d0 d1 d2 d3 d4 d5 f0 f1 f2 hcmp
              go_wp2_with fail
              go_roundw
              case rel =>
                refine ⟨j + 1, nn, v2, s3, _, _, by omega, by omega, by go_num, rfl, HX3.out.p, ?_⟩
                cases p with
                | true => exact HK.out.same (by omega) HQ.out.symm HPB.out.symm
                | false => rw [putL_no HPB.out.symm, putL_no HPB.out.symm]; exact HK.out.no
              case measure => simp [intOf]; omega
            | false =>
              cases p with
              | true =>
                go_wp2_with fail
                go_roundw
                case rel => exact ⟨j + 1, nn + 1, v2, s, _, _, by omega, by omega, by go_num, by go_num, HX2.out.p, HK.out.other (by omega) HQ.out.symm HPB.out.symm⟩
                case measure => simp [intOf]; omega
              | false =>
                go_wp2_with fail
                go_roundw
                case rel => exact ⟨j + 1, nn, v2, s, _, _, by omega, by omega, by go_num, rfl, HX2.out.p, by rw [putL_no HPB.out.symm]; exact HK.out.no⟩
                case measure => simp [intOf]; omega
        · obtain rfl : j = x1.length := by omega
          obtain ⟨qc, hqc⟩ : ∃ qc, qc = covL ⟨o, u, c⟩ mt x4 t5 l := ⟨_, rfl⟩
          have HQC : Hid (covL ⟨o, u, c⟩ mt x4 t5 l = qc) := hqc.symm
          have HQC2 : Hid (covL ⟨o, u, c⟩ mt x4 t5 l2 = qc) := by show _ = _; rw [HK.out.f, cov_filter, hqc]
          obtain ⟨qm, hqm⟩ : ∃ qm, qm = methL ⟨o, u, c⟩ mt t5 l := ⟨_, rfl⟩
          have HQM : Hid (methL ⟨o, u, c⟩ mt t5 l = qm) := hqm.symm
          have HQM2 : Hid (methL ⟨o, u, c⟩ mt t5 l2 = qm) := by show _ = _; rw [HK.out.f, meth_filter, hqm]
          clear hqc hqm
          obtain ⟨L, hL⟩ : ∃ L, L = l.length := ⟨_, rfl⟩
          obtain ⟨M, hM⟩ : ∃ M, M = l2.length := ⟨_, rfl⟩
          have HLL := Lib.hid hL
          have HMM := Lib.hid hM
          have hroom : decide ((L : Int) ≤ (M : Int) + (nn : Int)) = true := decide_eq_true (by have := HK.out.room; omega)
          have hM64 : M ≤ 64 := by rw [hM]; exact HP.out.m.c.len
          have HCL : Hid (l.length - (clearL ⟨o, u, c⟩ l).length = M) := by show _ = _; rw [HK.out.clear, hM]
          clear hL hM
          obtain ⟨F, hF⟩ : ∃ F : World → Prop, ∀ W, F W ↔ ClBox W B0 ⟨o, u, c⟩ := ⟨_, fun _ => Iff.rfl⟩
          have hx0 : ∀ p : Held F, p.w.cell? ⟨B0, 0, none⟩ = some (.string o) := fun p => ((hF _).1 p.h).c0
          have hx1 : ∀ p : Held F, p.w.cell? ⟨B0, 1, none⟩ = some (.string u) := fun p => ((hF _).1 p.h).c1
          have hx2 : ∀ p : Held F, p.w.cell? ⟨B0, 2, none⟩ = some (.bool c) := fun p => ((hF _).1 p.h).c2
          have HFO : Hid (∀ W, Only [] W0 W → F W) := by
            show ∀ W, _
            intro W ho
            exact (hF _).2 (HP.out.k.old ho)
          have HFK : Hid (∀ W, ClBox W B0 ⟨o, u, c⟩ → F W) := by
            show ∀ W, _
            intro W ho
            exact (hF _).2 ho
          clear hF
          obtain ⟨W12, hW12⟩ : ∃ W12, W12 = W0.drew := ⟨_, rfl⟩
          have HO12 : Hid (Only [] W0 W12) := by show Only _ _ _; rw [hW12]; exact (Only.refl _ _).drew
          have hne : Nonempty (Held F) := ⟨⟨W12, HFO.out _ HO12.out⟩⟩
          go_wp2_with fail
          refine mix_start F (by kernel_rfl) ?_
          rw [← hW12]
          clear hW12
          refine mix_seg [0, 1, 2, 3, 4, 6, 7, 8, 9, 10] (by kernel_rfl) (HFO.out _ HO12.out) ?_
          simp only [segOf, pickOps, pickOp]
          repeat (go_big_quiet_step (rfl))
          refine wpQuiet_nil ?_
          refine mix_run 5 (by kernel_rfl) ?_
          simp only [segOf, pickOps, pickOp]
          go_wp2_with fail
          have hc1 := cCovers_any g 64 v l ⟨o, u, c⟩ mt a4 c4 w.heap.size x4 t5 W12 (HP.out.old HO12.out).p.c (HM.out.below (HP.out.old HO12.out).p.b) HMT.out (H4.out.at_ (HP.out.old HO12.out).p.b) (HP.out.old HO12.out).p.b.size H4.out.2.1 HL4.out
          rw [HQC.out] at hc1
          refine hc1.mono ?_
          rintro e W13 ⟨rfl, ho⟩
          have HO13 := Lib.hid (HO12.out.trans ho)
          clear hc1 ho
          go_wp2_with fail
          refine MixPost.normal (HFO.out _ HO13.out) ?_
          refine mix_run 11 (by kernel_rfl) ?_
          simp only [segOf, pickOps, pickOp]
          go_wp2_with fail
          have hc1 := cCovers_any h 64 s l2 ⟨o, u, c⟩ mt a4 c4 w.heap.size x4 t5 W13 (HP.out.old HO13.out).m.c (HM.out.below (HP.out.old HO13.out).p.b) HMT.out (H4.out.at_ (HP.out.old HO13.out).p.b) (HP.out.old HO13.out).p.b.size H4.out.2.1 HL4.out
          rw [HQC2.out] at hc1
          refine hc1.mono ?_
          rintro e W14 ⟨rfl, ho⟩
          have HO14 := Lib.hid (HO13.out.trans ho)
          clear hc1 ho
          go_wp2_with fail
          refine MixPost.normal (HFO.out _ HO14.out) ?_
          refine mix_seg [12, 13, 14, 15, 16, 17, 19, 20, 21, 22] (by kernel_rfl) (HFO.out _ HO14.out) ?_
          simp only [segOf, pickOps, pickOp]
          repeat (go_big_quiet_step (rfl))
          refine wpQuiet_nil ?_
          refine mix_run 18 (by kernel_rfl) ?_
          simp only [segOf, pickOps, pickOp]
          go_wp2_with fail
          have hc1 := cMethod_any g 64 v l ⟨o, u, c⟩ mt t5 W14 (HP.out.old HO14.out).p.c
          rw [HQM.out] at hc1
          refine hc1.mono ?_
          rintro e W15 ⟨rfl, ho⟩
          have HO15 := Lib.hid (HO14.out.trans ho)
          clear hc1 ho
          go_wp2_with fail
          refine MixPost.normal (HFO.out _ HO15.out) ?_
          refine mix_run 23 (by kernel_rfl) ?_
          simp only [segOf, pickOps, pickOp]
          go_wp2_with fail
          have hc1 := cMethod_any h 64 s l2 ⟨o, u, c⟩ mt t5 W15 (HP.out.old HO15.out).m.c
          rw [HQM2.out] at hc1
          refine hc1.mono ?_
          rintro e W16 ⟨rfl, ho⟩
          have HO16 := Lib.hid (HO15.out.trans ho)
          clear hc1 ho
          go_wp2_with fail
          refine MixPost.normal (HFO.out _ HO16.out) ?_
          refine mix_seg [24, 25, 26, 27, 30, 33] (by kernel_rfl) (HFO.out _ HO16.out) ?_
          simp only [segOf, pickOps, pickOp]
          repeat (go_big_quiet_step (rfl))
          refine wpQuiet_nil ?_
          refine mix_run 28 (by kernel_rfl) ?_
          simp only [segOf, pickOps, pickOp]
          go_wp2_with fail
          refine (cEntries_any g 64 v l W16 (HP.out.old HO16.out).p.c).mono ?_
          rintro e W17 ⟨r, rfl, hr, hn, ho⟩
          have HO17 := Lib.hid (HO16.out.trans ho)
          obtain ⟨Ar, cr, hr', _, _⟩ := hr.slice
          rw [← HLL.out] at hr'
          clear hr hn ho
          subst hr'
          go_wp2_with fail
          refine MixPost.normal (HFO.out _ HO17.out) ?_
          refine mix_seg [29] (by kernel_rfl) (HFO.out _ HO17.out) ?_
          simp only [segOf, pickOps, pickOp]
          repeat (go_big_quiet_step (rfl))
          refine wpQuiet_nil ?_
          refine mix_run 31 (by kernel_rfl) ?_
          simp only [segOf, pickOps, pickOp]
          go_wp2_with fail
          refine (cEntries_any h 64 s l2 W17 (HP.out.old HO17.out).m.c).mono ?_
          rintro e W18 ⟨r, rfl, hr, hn, ho⟩
          have HO18 := Lib.hid (HO17.out.trans ho)
          obtain ⟨Ar, cr, hr', _, _⟩ := hr.slice
          rw [← HMM.out] at hr'
          clear hr hn ho
          subst hr'
          go_wp2_with fail
          refine MixPost.normal (HFO.out _ HO18.out) ?_
          refine mix_seg [32, 34, 35, 36, 37, 38, 39, 41] (by kernel_rfl) (HFO.out _ HO18.out) ?_
          simp only [segOf, pickOps, pickOp]
          repeat (go_big_quiet_step (rfl))
          refine wpQuiet_nil ?_
          clear hx0 hx1 hx2
          refine mix_run 40 (by kernel_rfl) ?_
          simp only [segOf, pickOps, pickOp]
          go_wp2_with fail
          have hcl := cClear_any g 64 v l ⟨o, u, c⟩ W18 (HP.out.old HO18.out).p.c
          rw [HCL.out] at hcl
          refine hcl.mono ?_
          rintro e W19 ⟨rfl, hs⟩
          obtain ⟨v3, hp3, _, _⟩ := (HP.out.old HO18.out).stepP hs
          have HP3 := Lib.hid hp3
          clear hcl hs hp3
          go_wp2_with fail
          refine MixPost.normal (HFK.out _ HP3.out.k) ?_
          refine mix_run 42 (by kernel_rfl) ?_
          simp only [segOf, pickOps, pickOp]
          go_wp2_with fail
          refine (cEntries_any h 64 s l2 W19 HP3.out.m.c).mono ?_
          rintro e W20 ⟨r, rfl, hr, hn, ho⟩
          have HP4 := Lib.hid (HP3.out.old ho)
          obtain ⟨Ar, cr, hr', _, _⟩ := hr.slice
          rw [← HMM.out] at hr'
          clear hr hn ho
          subst hr'
          go_wp2_with fail
          refine MixPost.normal (HFK.out _ HP4.out.k) ?_
          refine mix_seg [43, 44, 45, 46] (by kernel_rfl) (HFK.out _ HP4.out.k) ?_
          simp only [segOf, pickOps, pickOp]
          repeat (go_big_quiet_step (rfl))
          refine wpQuiet_nil ?_
          refine mix_run 47 (by kernel_rfl) ?_
          simp only [segOf, pickOps, pickOp]
          go_wp2_with fail
          refine (awake16_any _).mono ?_
          rintro e W21 ⟨rfl, hb⟩
          have HE := Lib.hid (HP4.out.p.b.trans (hb.mono HP4.out.p.b.size))
          have HK5 := Lib.hid (HP4.out.k.old (Only.of_below hb []))
          clear hb
          go_wp2_with fail
          refine MixPost.normal (HFK.out _ HK5.out) ?_
          refine mix_seg [48, 49] (by kernel_rfl) (HFK.out _ HK5.out) ?_
          simp only [segOf, pickOps, pickOp]
          repeat (go_big_quiet_step (rfl))
          refine wpQuiet_nil ?_
          refine mix_done (by kernel_rfl) ?_
          clear hne
          go_wp2
          go_ret
          exact ⟨by simp, HE.out⟩
end Go.Proofs.YtoafncfknllghaaDoor
