/-
  The walk of the law CacheAnew: whatever the input, it returns true, and nothing that was there has turned. Conditions: the arguments are such as any that come in.
-/
import Derived.Test.YtoafncfknllghaaBAwake
import Derived.Test.YtoafncfknllghaaBMath2
namespace Go.Proofs.Ytoafncfknllghaa
open Go.RowKit

/-- entries of a cell: of a header, of a method -/
abbrev eH (k : Cl) (m : ByteArray) (t : Nat) : En := ⟨k, noT, m, t⟩
abbrev eM (k : Cl) (m : ByteArray) (t : Nat) : En := ⟨k, m, noT, t⟩
section
variable {k f : Cl} {m : ByteArray} {a b : Nat}
theorem an_1 (hm : m ≠ noT) (ha : 1 ≤ a) : putB (eH k m a) 0 = true := by rw [putB_h hm]; exact decide_eq_true (by omega)
theorem an_2 (hm : m ≠ noT) (ha : 1 ≤ a) : putB (eM k m a) 0 = true := by rw [putB_m hm]; exact decide_eq_true (by omega)
theorem an_put1 (hm : m ≠ noT) (ha : 1 ≤ a) : putL 9 (eH k m a) 0 [] = [eH k m a] := putL_grow (an_1 hm ha) (by simp) (by simp) (by simp)
theorem an_put2 (hm : m ≠ noT) (ha : 1 ≤ a) (hkf : cellB k f = false) : putL 9 (eH f m a) 0 [eH k m a] = [eH k m a, eH f m a] :=
  putL_grow (an_1 hm ha) (by intro x hx; simp at hx; subst hx; exact ha) (by intro x hx; simp at hx; subst hx; unfold sameB; simp [hkf]) (by simp)
theorem an_put3 (hm : m ≠ noT) (ha : 1 ≤ a) : putL 9 (eM k m a) 0 [eH k m a, eH f m a] = [eH k m a, eH f m a, eM k m a] :=
  putL_grow (an_2 hm ha) (by intro x hx; simp at hx; rcases hx with rfl | rfl <;> exact ha)
    (by intro x hx; simp at hx; have := tB_no.2 (Ne.symm hm); rcases hx with rfl | rfl <;> (unfold sameB; simp [this])) (by simp)
theorem an_put4 (hm : m ≠ noT) (ha : 1 ≤ a) (hb : 1 ≤ b) : putL 9 (eH k m b) 0 [eH k m a, eH f m a, eM k m a] = [eH k m b, eH f m a, eM k m a] :=
  putL_first (an_1 hm hb) (by intro x hx; simp at hx; rcases hx with rfl | rfl | rfl <;> exact ha) (by unfold sameB; simp [cellB_self, tB_self])
theorem an_clear (hkf : cellB k f = false) : clearL k [eH k m b, eH f m a, eM k m a] = [eH f m a] := by
  rw [cellB_comm] at hkf
  unfold clearL ofB
  simp [cellB_self, hkf]
theorem an_clear2 (hkf : cellB k f = false) : clearL k [eH f m a] = [eH f m a] := by
  rw [cellB_comm] at hkf
  unfold clearL ofB
  simp [hkf]
end
theorem far_ne (o u : ByteArray) (c : Bool) : cellB ⟨o, u, c⟩ ⟨o, u, !c⟩ = false := by rw [cellB_no]; intro h; injection h with _ _ h; cases c <;> simp at h

structure Bx (W : World) (B C : Nat) (k k2 : Cl) : Prop where
  a : ClBox W B k
  b : ClBox W C k2
theorem Bx.old {W W' : World} {B C : Nat} {k k2 : Cl} (h : Bx W B C k k2) (o : Only [] W W') : Bx W' B C k k2 := ⟨h.a.old o, h.b.old o⟩
theorem Bx.only {W W' : World} {B C : Nat} {k k2 : Cl} {s : List Nat} (h : Bx W B C k k2) (o : Only s W W') (h1 : B ∉ s) (h2 : C ∉ s) : Bx W' B C k k2 := ⟨h.a.only o h1, h.b.only o h2⟩
theorem off1 {B g n : Nat} {v v' : Value} (h : B ∉ g :: ownL v) (hg : Grow n v v') (hb : B < n) : B ∉ g :: ownL v' := by
  intro hm
  rcases List.mem_cons.1 hm with h1 | h1
  · exact h (by simp [h1])
  · rcases hg _ h1 with h2 | h2
    · exact h (by simp [h2])
    · omega
theorem off2 {B C g n : Nat} {v v' : Value} (h : B ∉ g :: ownL v ∧ C ∉ g :: ownL v) (hg : Grow n v v') (hb : B < n) (hc : C < n) : B ∉ g :: ownL v' ∧ C ∉ g :: ownL v' := ⟨off1 h.1 hg hb, off1 h.2 hg hc⟩

set_option maxRecDepth 20000 in
set_option maxHeartbeats 8000000 in
theorem walk_CacheAnew (o u : ByteArray) (c : Bool) (m : ByteArray) (a b : Int) (w : World) (h0a : o.size ≤ maxLen) (h0b : u.size ≤ maxLen) (h1 : m.size ≤ maxLen) (h2 : (Lit.int .u64 a).wf = true) (h3 : (Lit.int .u64 b).wf = true) :
    Calls Try.prog 5 #[.agg #[.string o, .string u, .bool c], .string m, .int .u64 a, .int .u64 b] w fun e w' => e = .returned (.bool true) ∧ Below w.heap.size w w' := by
  obtain ⟨W1, hW1⟩ : ∃ W1, W1 = w.alloc (.cells #[.string o, .string u, .bool c] 23) := ⟨_, rfl⟩
  obtain ⟨B1, hB1⟩ : ∃ B1, B1 = w.heap.size := ⟨_, rfl⟩
  have HO1 : Hid (Only [] w W1) := by show Only _ _ _; rw [hW1]; exact (Only.refl _ _).alloc _
  have HX1 : Hid (ClBox W1 B1 ⟨o, u, c⟩) := by show ClBox _ _ _; rw [hW1, hB1]; exact ClBox.new w ⟨o, u, c⟩ _
  have hb2 := wfU h2
  have hb3 := wfU h3
  obtain ⟨a, rfl⟩ : ∃ x : Nat, a = (x : Int) := ⟨a.toNat, by omega⟩
  obtain ⟨b, rfl⟩ : ∃ x : Nat, b = (x : Int) := ⟨b.toNat, by omega⟩
  clear h2 h3 hb2 hb3
  obtain ⟨W2, hW2⟩ : ∃ W2, W2 = W1.alloc (.cells #[.string o, .string u, .string m] 9) := ⟨_, rfl⟩
  obtain ⟨B2, hB2⟩ : ∃ B2, B2 = W1.heap.size := ⟨_, rfl⟩
  have hB2s : B2 = w.heap.size + 1 := by rw [hB2, hW1]; simp
  have HO2 : Hid (Only [] W1 W2) := by show Only _ _ _; rw [hW2]; exact (Only.refl _ _).alloc _
  have HB2 : Hid (Below w.heap.size w W2) := (HO1.out.trans HO2.out).to_below (by simp)
  have HX2 := Lib.hid (HX1.out.old HO2.out)
  have HR2 : Hid (SRow W2 (W1.heap.size + 1) (some ⟨B2, 0, none⟩) [o, u, m]) := by show SRow _ _ _ _; rw [hW2, hB2]; exact SRow.new _ _ _ _ rfl
  have hlong := Long_any 300 (some ⟨B2, 0, none⟩) 3 3 [o, u, m] W2 (W1.heap.size + 1) (by omega) (by omega) rfl HR2.out (by unfold maxLen; simp) (by simp only [List.mem_cons, List.not_mem_nil, or_false]; rintro x (rfl | rfl | rfl) <;> assumption)
  obtain ⟨q1, hq1⟩ : ∃ q1, q1 = Lk.longL (300 : Int).toNat ([o, u, m].map ByteArray.size) := ⟨_, rfl⟩
  rw [← hq1] at hlong
  clear hq1
  go_enter Try.func5, Try.ntmps5
  go_wp2_with fail
  rw [← hB2s, ← hB1, ← hW1, ← hW2]
  clear hW1 hB1 hW2 hB2 hB2s
  refine hlong.mono ?_
  rintro e w' ⟨rfl, rfl⟩
  clear hlong
  cases q1 with
  | true =>
    go_wp2_with fail
    refine (awake16_any _).mono ?_
    rintro e w' ⟨rfl, hb⟩
    have HE := Lib.hid (HB2.out.trans (hb.mono HB2.out.size))
    clear hb
    go_wp2
    go_ret
    exact ⟨rfl, HE.out⟩
  | false =>
    have hnb := noB_lit m
    by_cases hm0 : m = noT
    · have HN : Hid (noB m = true) := tB_iff.2 hm0
      rw [HN.out] at hnb
      clear hm0
      go_wp2_with fail
      refine (awake16_any _).mono ?_
      rintro e w' ⟨rfl, hb⟩
      have HE := Lib.hid (HB2.out.trans (hb.mono HB2.out.size))
      clear hb
      go_wp2
      go_ret
      exact ⟨rfl, HE.out⟩
    · have HN : Hid (noB m = false) := tB_no.2 hm0
      rw [HN.out] at hnb
      have HM0 := Lib.hid hm0
      clear hm0
      by_cases ha : a < 1
      · have hd : decide ((a : Int) < 1) = true := decide_eq_true (by omega)
        go_wp2_with fail
        refine (awake16_any _).mono ?_
        rintro e w' ⟨rfl, hb⟩
        have HE := Lib.hid (HB2.out.trans (hb.mono HB2.out.size))
        clear hb
        go_wp2
        go_ret
        exact ⟨rfl, HE.out⟩
      · have hda : decide ((a : Int) < 1) = false := decide_eq_false (by omega)
        have HA : Hid (1 ≤ a) := by show _ ≤ _; omega
        by_cases hb : b < 1
        · have hd : decide ((b : Int) < 1) = true := decide_eq_true (by omega)
          go_wp2_with fail
          refine (awake16_any _).mono ?_
          rintro e w' ⟨rfl, hbb⟩
          have HE := Lib.hid (HB2.out.trans (hbb.mono HB2.out.size))
          clear hbb
          go_wp2
          go_ret
          exact ⟨rfl, HE.out⟩
        · have hdb : decide ((b : Int) < 1) = false := decide_eq_false (by omega)
          have HB : Hid (1 ≤ b) := by show _ ≤ _; omega
          clear ha hb
          go_wp2_with fail
          refine (cNew_any 9 W2).mono ?_
          rintro e w3 ⟨g, rfl, hc3, ho3, hg3⟩
          rw [show clampE 9 = 9 by rfl] at hc3
          have HC3 := Lib.hid (CaNew.made HB2.out hc3 ho3 hg3)
          have HX3 := Lib.hid (HX2.out.old ho3)
          have HNB : Hid (B1 ∉ g :: ownL (.slice none 0 0)) := by
            show _ ∉ _
            have h1 := HX2.out.lt
            simp [ownL, Value.ownBlock]
            omega
          clear hc3 ho3 hg3 hnb
          obtain ⟨d0, d1, d2⟩ := HX3.out
          simp only at d0 d1 d2
          -- the far cell
          obtain ⟨w4, hw4⟩ : ∃ w4, w4 = w3.alloc (.cells #[.string o, .string u, .bool (!c)] 23) := ⟨_, rfl⟩
          obtain ⟨C1, hC1⟩ : ∃ C1, C1 = w3.heap.size := ⟨_, rfl⟩
          have HO4 : Hid (Only [] w3 w4) := by show Only _ _ _; rw [hw4]; exact (Only.refl _ _).alloc _
          have HC4 := Lib.hid (HC3.out.old HO4.out)
          have HX4 : Hid (Bx w4 B1 C1 ⟨o, u, c⟩ ⟨o, u, !c⟩) := by
            show Bx _ _ _ _ _
            refine ⟨HX3.out.old HO4.out, ?_⟩
            rw [hw4, hC1]
            exact ClBox.new w3 ⟨o, u, !c⟩ _
          have HN4 : Hid (B1 ∉ g :: ownL (.slice none 0 0) ∧ C1 ∉ g :: ownL (.slice none 0 0)) := by
            show _ ∧ _
            refine ⟨HNB.out, ?_⟩
            have h1 := HC3.out.c.lt
            simp [ownL, Value.ownBlock]
            omega
          have hne : B1 ≠ w3.heap.size := by have := HX3.out.lt; omega
          have hlt1 : B1 < w3.heap.size := HX3.out.lt
          go_wp2_with fail
          rw [← hw4, ← hC1]
          clear hw4 hC1 hne hlt1 d0 d1 d2
          have HFN := Lib.hid (far_ne o u c)
          obtain ⟨⟨d0, d1, d2⟩, e0, e1, e2⟩ := HX4.out
          simp only at d0 d1 d2 e0 e1 e2
          go_wp2_with fail
          have hput := cPut_any g 9 _ [] (eH ⟨o, u, c⟩ m a) 0 w4 HC4.out.c
          rw [an_put1 HM0.out HA.out] at hput
          refine hput.mono ?_
          rintro e w5 ⟨rfl, hs⟩
          obtain ⟨v5, hc, ho, hg⟩ := HC4.out.step hs
          have HC5 := Lib.hid hc
          have HX5 := Lib.hid (HX4.out.only ho HN4.out.1 HN4.out.2)
          have HN5 := Lib.hid (off2 HN4.out hg HX4.out.a.lt HX4.out.b.lt)
          clear hput hs hc ho hg
          clear d0 d1 d2 e0 e1 e2
          obtain ⟨⟨d0, d1, d2⟩, e0, e1, e2⟩ := HX5.out
          simp only at d0 d1 d2 e0 e1 e2
          go_wp2_with fail
          have hput := cPut_any g 9 v5 [eH ⟨o, u, c⟩ m a] (eH ⟨o, u, !c⟩ m a) 0 w5 HC5.out.c
          rw [an_put2 HM0.out HA.out HFN.out] at hput
          refine hput.mono ?_
          rintro e w6 ⟨rfl, hs⟩
          obtain ⟨v6, hc, ho, hg⟩ := HC5.out.step hs
          have HC6 := Lib.hid hc
          have HX6 := Lib.hid (HX5.out.only ho HN5.out.1 HN5.out.2)
          have HN6 := Lib.hid (off2 HN5.out hg HX5.out.a.lt HX5.out.b.lt)
          clear hput hs hc ho hg
          clear d0 d1 d2 e0 e1 e2
          obtain ⟨⟨d0, d1, d2⟩, e0, e1, e2⟩ := HX6.out
          simp only at d0 d1 d2 e0 e1 e2
          go_wp2_with fail
          have hput := cPut_any g 9 v6 [eH ⟨o, u, c⟩ m a, eH ⟨o, u, !c⟩ m a] (eM ⟨o, u, c⟩ m a) 0 w6 HC6.out.c
          rw [an_put3 HM0.out HA.out] at hput
          refine hput.mono ?_
          rintro e w7 ⟨rfl, hs⟩
          obtain ⟨v7, hc, ho, hg⟩ := HC6.out.step hs
          have HC7 := Lib.hid hc
          have HX7 := Lib.hid (HX6.out.only ho HN6.out.1 HN6.out.2)
          have HN7 := Lib.hid (off2 HN6.out hg HX6.out.a.lt HX6.out.b.lt)
          clear hput hs hc ho hg
          clear d0 d1 d2 e0 e1 e2
          obtain ⟨⟨d0, d1, d2⟩, e0, e1, e2⟩ := HX7.out
          simp only at d0 d1 d2 e0 e1 e2
          go_wp2_with fail
          have hput := cPut_any g 9 v7 [eH ⟨o, u, c⟩ m a, eH ⟨o, u, !c⟩ m a, eM ⟨o, u, c⟩ m a] (eH ⟨o, u, c⟩ m b) 0 w7 HC7.out.c
          rw [an_put4 HM0.out HA.out HB.out] at hput
          refine hput.mono ?_
          rintro e w8 ⟨rfl, hs⟩
          obtain ⟨v8, hc, ho, hg⟩ := HC7.out.step hs
          have HC8 := Lib.hid hc
          have HX8 := Lib.hid (HX7.out.only ho HN7.out.1 HN7.out.2)
          have HN8 := Lib.hid (off2 HN7.out hg HX7.out.a.lt HX7.out.b.lt)
          clear hput hs hc ho hg
          clear d0 d1 d2 e0 e1 e2
          go_wp2_with fail
          refine (cEntries_any g 9 v8 _ w8 HC8.out.c).mono ?_
          rintro e w9 ⟨r, rfl, hr, hn, ho⟩
          have HC9 := Lib.hid (HC8.out.old ho)
          have HX9 := Lib.hid (HX8.out.old ho)
          obtain ⟨gr, cap, hr', _, hlc, hcm⟩ := hr.some_ (by simp)
          subst hr'
          have x0 := hr.el rfl (k := 0) (by simp)
          have x1 := hr.el rfl (k := 1) (by simp)
          have x2 := hr.el rfl (k := 2) (by simp)
          have y0 : w9.cell? ⟨gr, 4, none⟩ = some (.string m) := x0.c4
          have y1 : w9.cell? ⟨gr, 5, none⟩ = some (.int .u64 (b : Int)) := x0.c5
          have y2 : w9.cell? ⟨gr, 11, none⟩ = some (.int .u64 (a : Int)) := x1.c5
          have y3 : w9.cell? ⟨gr, 15, none⟩ = some (.string m) := x2.c3
          clear hr hn ho x0 x1 x2
          obtain ⟨⟨d0, d1, d2⟩, e0, e1, e2⟩ := HX9.out
          simp only at d0 d1 d2 e0 e1 e2
          go_wp2_with fail
          have hcl := cClear_any g 9 v8 _ ⟨o, u, c⟩ w9 HC9.out.c
          rw [an_clear HFN.out] at hcl
          change Calls _ _ _ _ (fun r w' => r = .returned (.int .i64 2) ∧ CaStep w9 w' g 9 v8 [eH ⟨o, u, !c⟩ m a]) at hcl
          refine hcl.mono ?_
          rintro e w10 ⟨rfl, hs⟩
          obtain ⟨v10, hc, ho, hg⟩ := HC9.out.step hs
          have HC10 := Lib.hid hc
          have HX10 := Lib.hid (HX9.out.only ho HN8.out.1 HN8.out.2)
          have HN10 := Lib.hid (off2 HN8.out hg HX9.out.a.lt HX9.out.b.lt)
          clear hcl hs hc ho hg d0 d1 d2 e0 e1 e2 y0 y1 y2 y3
          go_wp2_with fail
          refine (cEntries_any g 9 v10 _ w10 HC10.out.c).mono ?_
          rintro e w11 ⟨r, rfl, hr, hn, ho⟩
          have HC11 := Lib.hid (HC10.out.old ho)
          have HX11 := Lib.hid (HX10.out.old ho)
          obtain ⟨gs, cap2, hr', _, hlc2, hcm2⟩ := hr.some_ (by simp)
          subst hr'
          have HNG : Hid (gs ∉ g :: ownL v10) := by
            show _ ∉ _
            intro hm
            have h1 := hn gs (by simp [ownL, Value.ownBlock])
            have h2 := HC10.out.c.own hm
            omega
          have x0 := hr.el rfl (k := 0) (by simp)
          have HY11 : Hid (ClBox w11 gs ⟨o, u, !c⟩) := ⟨x0.c0, x0.c1, x0.c2⟩
          clear hr hn ho x0
          obtain ⟨F, hF⟩ : ∃ F : World → Prop, ∀ W, F W ↔ (Bx W B1 C1 ⟨o, u, c⟩ ⟨o, u, !c⟩ ∧ ClBox W gs ⟨o, u, !c⟩) := ⟨_, fun _ => Iff.rfl⟩
          have xa0 : ∀ p : Held F, p.w.cell? ⟨B1, 0, none⟩ = some (.string o) := fun p => ((hF _).1 p.h).1.a.c0
          have xa1 : ∀ p : Held F, p.w.cell? ⟨B1, 1, none⟩ = some (.string u) := fun p => ((hF _).1 p.h).1.a.c1
          have xa2 : ∀ p : Held F, p.w.cell? ⟨B1, 2, none⟩ = some (.bool c) := fun p => ((hF _).1 p.h).1.a.c2
          have xb0 : ∀ p : Held F, p.w.cell? ⟨C1, 0, none⟩ = some (.string o) := fun p => ((hF _).1 p.h).1.b.c0
          have xb1 : ∀ p : Held F, p.w.cell? ⟨C1, 1, none⟩ = some (.string u) := fun p => ((hF _).1 p.h).1.b.c1
          have xb2 : ∀ p : Held F, p.w.cell? ⟨C1, 2, none⟩ = some (.bool (!c)) := fun p => ((hF _).1 p.h).1.b.c2
          have xc0 : ∀ p : Held F, p.w.cell? ⟨gs, 0, none⟩ = some (.string o) := fun p => ((hF _).1 p.h).2.c0
          have xc1 : ∀ p : Held F, p.w.cell? ⟨gs, 1, none⟩ = some (.string u) := fun p => ((hF _).1 p.h).2.c1
          have xc2 : ∀ p : Held F, p.w.cell? ⟨gs, 2, none⟩ = some (.bool (!c)) := fun p => ((hF _).1 p.h).2.c2
          have HFF : Hid (∀ W', Only (g :: ownL v10) w11 W' → F W') := by
            show ∀ W', _
            intro W' ho
            exact (hF _).2 ⟨HX11.out.only ho HN10.out.1 HN10.out.2, HY11.out.only ho HNG.out⟩
          clear hF
          have hcmp : ∀ W, (binOp .eql 23 (.agg #[.string o, .string u, .bool (!c)]) (.agg #[.string o, .string u, .bool (!c)])).run Try.prog W = .ok (.bool true) W := fun W => by rw [eqlE_cell, cellB_self]
          obtain ⟨W12, hW12⟩ : ∃ W12, W12 = w11.drew := ⟨_, rfl⟩
          have HO12 : Hid (Only [] w11 W12) := by show Only _ _ _; rw [hW12]; exact (Only.refl _ _).drew
          have HC12 := Lib.hid (HC11.out.old HO12.out)
          have hne : Nonempty (Held F) := ⟨⟨W12, HFF.out _ (HO12.out.mono (by simp))⟩⟩
          go_wp2_with fail
          refine mix_start F (by kernel_rfl) ?_
          rw [← hW12]
          clear hW12
          refine mix_seg [0, 1, 2, 3, 4, 5, 6, 7, 8, 9, 10, 11, 12, 13, 14, 15, 16, 17] (by kernel_rfl) (HFF.out _ (HO12.out.mono (by simp))) ?_
          simp only [segOf, pickOps, pickOp]
          repeat (go_big_quiet_step (fail))
          refine wpQuiet_nil ?_
          clear xa0 xa1 xa2 xb0 xb1 xb2 xc0 xc1 xc2 hcmp hne
          refine mix_run 18 (by kernel_rfl) ?_
          simp only [segOf, pickOps, pickOp]
          go_wp2_with fail
          have hcl := cClear_any g 9 v10 _ ⟨o, u, c⟩ W12 HC12.out.c
          rw [an_clear2 HFN.out] at hcl
          change Calls _ _ _ _ (fun r w' => r = .returned (.int .i64 0) ∧ CaStep W12 w' g 9 v10 [eH ⟨o, u, !c⟩ m a]) at hcl
          refine hcl.mono ?_
          rintro e w13 ⟨rfl, hs⟩
          obtain ⟨v13, hc, ho, hg⟩ := HC12.out.step hs
          have HC13 := Lib.hid hc
          have HO13 : Hid (Only (g :: ownL v10) w11 w13) := (HO12.out.mono (by simp)).trans ho
          clear hcl hs hc ho hg
          go_wp2_with fail
          refine MixPost.normal (HFF.out _ HO13.out) ?_
          refine mix_seg [19, 20, 21] (by kernel_rfl) (HFF.out _ HO13.out) ?_
          simp only [segOf, pickOps, pickOp]
          repeat (go_big_quiet_step (rfl))
          refine wpQuiet_nil ?_
          refine mix_run 22 (by kernel_rfl) ?_
          simp only [segOf, pickOps, pickOp]
          go_wp2_with fail
          refine (awake16_any _).mono ?_
          rintro e w14 ⟨rfl, hb⟩
          have HE := Lib.hid (HC13.out.b.trans (hb.mono HC13.out.b.size))
          have HO14 : Hid (Only (g :: ownL v10) w11 w14) := HO13.out.trans (Only.of_below hb _)
          clear hb
          go_wp2_with fail
          refine MixPost.normal (HFF.out _ HO14.out) ?_
          refine mix_seg [23, 24] (by kernel_rfl) (HFF.out _ HO14.out) ?_
          simp only [segOf, pickOps, pickOp]
          repeat (go_big_quiet_step (rfl))
          refine wpQuiet_nil ?_
          refine mix_done (by kernel_rfl) ?_
          go_wp2
          go_ret
          exact ⟨rfl, HE.out⟩
end Go.Proofs.Ytoafncfknllghaa
