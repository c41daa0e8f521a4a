/-
  The walk of the law CacheGood: whatever the input, it returns true, and nothing that was there has turned. Conditions: the arguments are such as any that come in.
-/
import Derived.Test.YtoafncfknllghaaBAwake
import Derived.Test.YtoafncfknllghaaBMath2
namespace Go.Proofs.Ytoafncfknllghaa
open Go.RowKit

theorem good_0 {k : Cl} {m : ByteArray} {t : Nat} : methL k m t [] = false := rfl
theorem good_1 {k : Cl} {m : ByteArray} {u t : Nat} : methL k m t [⟨k, m, noT, u⟩] = decide (t < u) := by
  unfold methL hasL methE noB expB
  simp [cellB_self, tB_self, ← decide_not]
theorem good_2 {k k2 : Cl} {m s : ByteArray} {u t : Nat} (h : cellB k2 k = false) : methL k2 s t [⟨k, m, noT, u⟩] = false := by
  unfold methL hasL methE
  rw [cellB_comm] at h
  simp [h]
theorem good_3 {k : Cl} {m s : ByteArray} {u t : Nat} (h1 : tB m s = false) (h2 : tB m starT = false) : methL k s t [⟨k, m, noT, u⟩] = false := by
  unfold methL hasL methE
  simp [h1, h2]
theorem good_4 {k : Cl} {m s : ByteArray} {u t : Nat} (h : m ≠ noT) : hdrL k s t [⟨k, m, noT, u⟩] = false := by
  unfold hdrL hasL headE noB
  simp [tB_no.2 h]
theorem good_5 (m : ByteArray) : tB m (m ++ ⟨#[120]⟩) = false := by
  rw [tB_no]
  intro h
  have h2 : (m ++ ⟨#[120]⟩ : ByteArray).size = m.size + 1 := by rw [ByteArray.size_append]; rfl
  rw [← h] at h2
  omega

structure Bx (W : World) (B : Nat) (k k2 : Cl) : Prop where
  a : ClBox W B k
  b : ClBox W (B + 1) k2
theorem Bx.old {W W' : World} {B : Nat} {k k2 : Cl} (h : Bx W B k k2) (o : Only [] W W') : Bx W' B k k2 := ⟨h.a.old o, h.b.old o⟩
theorem Bx.only {W W' : World} {B : Nat} {k k2 : Cl} {s : List Nat} (h : Bx W B k k2) (o : Only s W W') (h1 : B ∉ s) (h2 : B + 1 ∉ s) : Bx W' B k k2 := ⟨h.a.only o h1, h.b.only o h2⟩
set_option maxRecDepth 20000 in
set_option maxHeartbeats 8000000 in
theorem walk_CacheGood (o u : ByteArray) (c : Bool) (o2 u2 : ByteArray) (c2 : Bool) (m : ByteArray) (nw un q : Int) (w : World) (h0a : o.size ≤ maxLen) (h0b : u.size ≤ maxLen) (h1a : o2.size ≤ maxLen) (h1b : u2.size ≤ maxLen) (h2 : m.size ≤ maxLen)
    (h3 : (Lit.int .u64 nw).wf = true) (h4 : (Lit.int .u64 un).wf = true) (h5 : (Lit.int .u64 q).wf = true) :
    Calls Try.prog 3 #[.agg #[.string o, .string u, .bool c], .agg #[.string o2, .string u2, .bool c2], .string m, .int .u64 nw, .int .u64 un, .int .u64 q] w fun e w' => e = .returned (.bool true) ∧ Below w.heap.size w w' := by
  obtain ⟨W1, hW1⟩ : ∃ W1, W1 = (w.alloc (.cells #[.string o, .string u, .bool c] 23)).alloc (.cells #[.string o2, .string u2, .bool c2] 23) := ⟨_, rfl⟩
  obtain ⟨B1, hB1⟩ : ∃ B1, B1 = w.heap.size := ⟨_, rfl⟩
  have HO1 : Hid (Only [] w W1) := by show Only _ _ _; rw [hW1]; exact ((Only.refl _ _).alloc _).alloc _
  have HX1 : Hid (Bx W1 B1 ⟨o, u, c⟩ ⟨o2, u2, c2⟩) := by
    show Bx _ _ _ _
    have h1 := ClBox.new (w.alloc (.cells #[.string o, .string u, .bool c] 23)) ⟨o2, u2, c2⟩ 23
    rw [hW1, hB1]
    exact ⟨(ClBox.new w ⟨o, u, c⟩ _).old ((Only.refl _ _).alloc _), by simpa using h1⟩
  have HB1 : Hid (Below w.heap.size w W1) := HO1.out.to_below (by simp)
  have hb3 := wfU h3
  have hb4 := wfU h4
  have hb5 := wfU h5
  obtain ⟨nw, rfl⟩ : ∃ x : Nat, nw = (x : Int) := ⟨nw.toNat, by omega⟩
  obtain ⟨un, rfl⟩ : ∃ x : Nat, un = (x : Int) := ⟨un.toNat, by omega⟩
  obtain ⟨q, rfl⟩ : ∃ x : Nat, q = (x : Int) := ⟨q.toNat, by omega⟩
  clear h3 h4 h5 hb3 hb4 hb5
  have hB1s : B1 + 1 = w.heap.size + 1 := by rw [hB1]
  obtain ⟨W2, hW2⟩ : ∃ W2, W2 = W1.alloc (.cells #[.string o, .string u, .string m] 9) := ⟨_, rfl⟩
  obtain ⟨B2, hB2⟩ : ∃ B2, B2 = W1.heap.size := ⟨_, rfl⟩
  have hB2s : B2 = w.heap.size + 1 + 1 := by rw [hB2, hW1]; simp
  have HO2 : Hid (Only [] W1 W2) := by show Only _ _ _; rw [hW2]; exact (Only.refl _ _).alloc _
  have HB2 : Hid (Below w.heap.size w W2) := (HO1.out.trans HO2.out).to_below (by simp)
  have HX2 := Lib.hid (HX1.out.old HO2.out)
  have HR2 : Hid (SRow W2 (W1.heap.size + 1) (some ⟨B2, 0, none⟩) [o, u, m]) := by show SRow _ _ _ _; rw [hW2, hB2]; exact SRow.new _ _ _ _ rfl
  have hlong := Long_any 300 (some ⟨B2, 0, none⟩) 3 3 [o, u, m] W2 (W1.heap.size + 1) (by omega) (by omega) rfl HR2.out (by unfold maxLen; simp) (by simp only [List.mem_cons, List.not_mem_nil, or_false]; rintro x (rfl | rfl | rfl) <;> assumption)
  obtain ⟨q1, hq1⟩ : ∃ q1, q1 = Lk.longL (300 : Int).toNat ([o, u, m].map ByteArray.size) := ⟨_, rfl⟩
  rw [← hq1] at hlong
  have HSZ : Hid (q1 = false → m.size ≤ 300) := by
    show _ → _
    intro h
    rw [hq1] at h
    have h1 := Lk.long_no _ _ h
    simp at h1
    omega
  clear hq1
  obtain ⟨W3, hW3⟩ : ∃ W3, W3 = W2.alloc (.cells #[.string o2, .string u2] 9) := ⟨_, rfl⟩
  obtain ⟨B3, hB3⟩ : ∃ B3, B3 = W2.heap.size := ⟨_, rfl⟩
  have HO3 : Hid (Only [] W2 W3) := by show Only _ _ _; rw [hW3]; exact (Only.refl _ _).alloc _
  have HB3 : Hid (Below w.heap.size w W3) := (HO1.out.trans (HO2.out.trans HO3.out)).to_below (by simp)
  have HX3 := Lib.hid (HX2.out.old HO3.out)
  have HR3 : Hid (SRow W3 (W2.heap.size + 1) (some ⟨B3, 0, none⟩) [o2, u2]) := by show SRow _ _ _ _; rw [hW3, hB3]; exact SRow.new _ _ _ _ rfl
  have hlong2 := Long_any 300 (some ⟨B3, 0, none⟩) 2 2 [o2, u2] W3 (W2.heap.size + 1) (by omega) (by omega) rfl HR3.out (by unfold maxLen; simp) (by simp only [List.mem_cons, List.not_mem_nil, or_false]; rintro x (rfl | rfl) <;> assumption)
  obtain ⟨q2, hq2⟩ : ∃ q2, q2 = Lk.longL (300 : Int).toNat ([o2, u2].map ByteArray.size) := ⟨_, rfl⟩
  rw [← hq2] at hlong2
  clear hq2
  go_enter Try.func3, Try.ntmps3
  go_wp2_with fail
  rw [← hB2s, ← hB1, ← hW1, ← hW2]
  clear hW1 hB1 hW2 hB2 hB1s hB2s
  refine hlong.mono ?_
  rintro e w' ⟨rfl, rfl⟩
  clear hlong
  cases q1 with
  | true =>
    clear hlong2 hW3 hB3
    go_wp2_with fail
    refine (awake16_any _).mono ?_
    rintro e w' ⟨rfl, hb⟩
    have HE := Lib.hid (HB2.out.trans (hb.mono HB2.out.size))
    clear hb
    go_wp2
    go_ret
    exact ⟨rfl, HE.out⟩
  | false =>
    have hsm := HSZ.out rfl
    obtain ⟨⟨d0, d1, d2⟩, e0, e1, e2⟩ := HX2.out
    simp only at d0 d1 d2 e0 e1 e2
    go_wp2_with fail
    rw [← hW3, ← hB3]
    clear hW3 hB3 d0 d1 d2 e0 e1 e2
    refine hlong2.mono ?_
    rintro e w' ⟨rfl, rfl⟩
    clear hlong2
    cases q2 with
    | true =>
      go_wp2_with fail
      refine (awake16_any _).mono ?_
      rintro e w' ⟨rfl, hb⟩
      have HE := Lib.hid (HB3.out.trans (hb.mono HB3.out.size))
      clear hb
      go_wp2
      go_ret
      exact ⟨rfl, HE.out⟩
    | false =>
      have hnb := noB_lit m
      by_cases hm0 : m = noT
      · have HN : Hid (noB m = true) := tB_iff.2 hm0
        rw [HN.out] at hnb
        go_wp2_with fail
        refine (awake16_any _).mono ?_
        rintro e w' ⟨rfl, hb⟩
        have HE := Lib.hid (HB3.out.trans (hb.mono HB3.out.size))
        clear hb
        go_wp2
        go_ret
        exact ⟨rfl, HE.out⟩
      · have HN : Hid (noB m = false) := tB_no.2 hm0
        rw [HN.out] at hnb
        have HM0 := Lib.hid hm0
        clear hm0
        go_wp2_with fail
        refine (cNew_any 5 W3).mono ?_
        rintro e w4 ⟨g, rfl, hc4, ho4, hg4⟩
        rw [show clampE 5 = 5 by rfl] at hc4
        have HC4 := Lib.hid (CaNew.made HB3.out hc4 ho4 hg4)
        have HX4 := Lib.hid (HX3.out.old ho4)
        have HNB : Hid (B1 ∉ g :: ownL (.slice none 0 0) ∧ B1 + 1 ∉ g :: ownL (.slice none 0 0)) := by
          show _ ∧ _
          have h1 := HX3.out.a.lt
          have h2 := HX3.out.b.lt
          simp [ownL, Value.ownBlock]
          omega
        clear hc4 ho4 hg4 hnb
        obtain ⟨p, hp⟩ : ∃ p, p = decide (nw < un) := ⟨_, rfl⟩
        have HPB : Hid (putB ⟨⟨o, u, c⟩, m, noT, un⟩ nw = p) := by show _ = _; rw [hp]; exact putB_m HM0.out
        have HPL : Hid (putL 5 ⟨⟨o, u, c⟩, m, noT, un⟩ nw [] = if p then [⟨⟨o, u, c⟩, m, noT, un⟩] else []) := by
          show _ = _
          by_cases h : p = true
          · rw [if_pos h]; rw [h] at HPB; exact putL_grow HPB.out (by simp) (by simp) (by simp)
          · rw [if_neg h]; exact putL_no (by rw [HPB.out]; simpa using h)
        have hgt : decide (nw < un) = p := hp.symm
        clear hp
        obtain ⟨⟨d0, d1, d2⟩, e0, e1, e2⟩ := HX4.out
        simp only at d0 d1 d2 e0 e1 e2
        go_wp2_with fail
        have hput := cPut_any g 5 _ [] ⟨⟨o, u, c⟩, m, noT, un⟩ nw w4 HC4.out.c
        rw [HPB.out, HPL.out] at hput
        refine hput.mono ?_
        rintro e w5 ⟨rfl, hs5⟩
        obtain ⟨v, hc5, ho5, _⟩ := HC4.out.step hs5
        have HC5 := Lib.hid hc5
        have HX5 := Lib.hid (HX4.out.only ho5 HNB.out.1 HNB.out.2)
        clear hput hs5 hc5 ho5
        clear d0 d1 d2 e0 e1 e2
        cases p with
        | false =>
          obtain ⟨⟨d0, d1, d2⟩, e0, e1, e2⟩ := HX5.out
          simp only at d0 d1 d2 e0 e1 e2
          go_wp2_with fail
          have hm := cMethod_any g 5 v [] ⟨o, u, c⟩ m q w5 HC5.out.c
          rw [good_0] at hm
          refine hm.mono ?_
          rintro e w6 ⟨rfl, ho⟩
          have HC6 := Lib.hid (HC5.out.old ho)
          have HX6 := Lib.hid (HX5.out.old ho)
          clear hm ho
          clear d0 d1 d2 e0 e1 e2
          go_wp2_with fail
          refine (cEntries_any g 5 v _ w6 HC6.out.c).mono ?_
          rintro e w7 ⟨r, rfl, hr, hn, ho⟩
          obtain ⟨A, cap, hr', _, _⟩ := hr.slice
          have HC7 := Lib.hid (HC6.out.old ho)
          have HX7 := Lib.hid (HX6.out.old ho)
          clear hr hn ho
          subst hr'
          go_wp2_with fail
          refine (awake16_any _).mono ?_
          rintro e w' ⟨rfl, hb⟩
          have HE := Lib.hid (HC7.out.b.trans (hb.mono HC7.out.b.size))
          clear hb
          go_wp2
          go_ret
          exact ⟨by simp, HE.out⟩
        | true =>
          replace HC5 : Hid (CaNew w w5 g 5 v [⟨⟨o, u, c⟩, m, noT, un⟩]) := HC5.out
          clear HPL
          obtain ⟨qa, hqa⟩ : ∃ qa, qa = decide (q < un) := ⟨_, rfl⟩
          have HA : Hid (methL ⟨o, u, c⟩ m q [⟨⟨o, u, c⟩, m, noT, un⟩] = qa) := by show _ = _; rw [hqa]; exact good_1
          have hlt : decide (q < un) = qa := hqa.symm
          have hqq : (qa == qa) = true := by cases qa <;> rfl
          clear hqa
          obtain ⟨⟨d0, d1, d2⟩, e0, e1, e2⟩ := HX5.out
          simp only at d0 d1 d2 e0 e1 e2
          go_wp2_with fail
          have hm := cMethod_any g 5 v _ ⟨o, u, c⟩ m q w5 HC5.out.c
          rw [HA.out] at hm
          refine hm.mono ?_
          rintro e w6 ⟨rfl, ho⟩
          have HC6 := Lib.hid (HC5.out.old ho)
          have HX6 := Lib.hid (HX5.out.old ho)
          clear hm ho
          clear d0 d1 d2 e0 e1 e2
          obtain ⟨z, hz⟩ : ∃ z, z = cellB ⟨o2, u2, c2⟩ ⟨o, u, c⟩ := ⟨_, rfl⟩
          have hcmp : ∀ W, (binOp .eql 23 (.agg #[.string o2, .string u2, .bool c2]) (.agg #[.string o, .string u, .bool c])).run Try.prog W = .ok (.bool z) W := fun W => by rw [eqlE_cell, hz]
          have HZ := Lib.hid hz
          clear hz
          cases z with
          | true =>
            have hst := star_lit m
            obtain ⟨y, hy⟩ : ∃ y, y = tB m starT := ⟨_, rfl⟩
            rw [← hy] at hst
            have HY := Lib.hid hy
            clear hy
            cases y with
            | true =>
              obtain ⟨⟨d0, d1, d2⟩, e0, e1, e2⟩ := HX6.out
              simp only at d0 d1 d2 e0 e1 e2
              go_wp2_with fail
              have hm := cHeader_any g 5 v _ ⟨o, u, c⟩ m q w6 HC6.out.c (by unfold maxLen; omega)
              rw [good_4 HM0.out] at hm
              refine hm.mono ?_
              rintro e wh ⟨rfl, ho⟩
              have HCh := Lib.hid (HC6.out.old ho)
              have HXh := Lib.hid (HX6.out.old ho)
              clear hm ho
              clear d0 d1 d2 e0 e1 e2
              go_wp2_with fail
              refine (awake16_any _).mono ?_
              rintro e w' ⟨rfl, hb⟩
              have HE := Lib.hid (HCh.out.b.trans (hb.mono HCh.out.b.size))
              clear hb
              go_wp2
              go_ret
              exact ⟨by simp, HE.out⟩
            | false =>
              have hsz : m.size + 1 ≤ 9223372036854775807 := by omega
              obtain ⟨⟨d0, d1, d2⟩, e0, e1, e2⟩ := HX6.out
              simp only at d0 d1 d2 e0 e1 e2
              go_wp2_with fail
              have hm := cMethod_any g 5 v _ ⟨o, u, c⟩ (m ++ ⟨#[120]⟩) q w6 HC6.out.c
              rw [good_3 (good_5 m) HY.out.symm] at hm
              refine hm.mono ?_
              rintro e wx ⟨rfl, ho⟩
              have HCx := Lib.hid (HC6.out.old ho)
              have HXx := Lib.hid (HX6.out.old ho)
              clear hm ho
              clear d0 d1 d2 e0 e1 e2
              obtain ⟨⟨d0, d1, d2⟩, e0, e1, e2⟩ := HXx.out
              simp only at d0 d1 d2 e0 e1 e2
              go_wp2_with fail
              have hm := cHeader_any g 5 v _ ⟨o, u, c⟩ m q wx HCx.out.c (by unfold maxLen; omega)
              rw [good_4 HM0.out] at hm
              refine hm.mono ?_
              rintro e wh ⟨rfl, ho⟩
              have HCh := Lib.hid (HCx.out.old ho)
              have HXh := Lib.hid (HXx.out.old ho)
              clear hm ho
              clear d0 d1 d2 e0 e1 e2
              go_wp2_with fail
              refine (awake16_any _).mono ?_
              rintro e w' ⟨rfl, hb⟩
              have HE := Lib.hid (HCh.out.b.trans (hb.mono HCh.out.b.size))
              clear hb
              go_wp2
              go_ret
              exact ⟨by simp, HE.out⟩
          | false =>
            obtain ⟨⟨d0, d1, d2⟩, e0, e1, e2⟩ := HX6.out
            simp only at d0 d1 d2 e0 e1 e2
            go_wp2_with fail
            have hm := cMethod_any g 5 v _ ⟨o2, u2, c2⟩ m q w6 HC6.out.c
            rw [good_2 HZ.out.symm] at hm
            refine hm.mono ?_
            rintro e w8 ⟨rfl, ho⟩
            have HC8 := Lib.hid (HC6.out.old ho)
            have HX8 := Lib.hid (HX6.out.old ho)
            clear hm ho
            clear d0 d1 d2 e0 e1 e2
            have hst := star_lit m
            obtain ⟨y, hy⟩ : ∃ y, y = tB m starT := ⟨_, rfl⟩
            rw [← hy] at hst
            have HY := Lib.hid hy
            clear hy
            cases y with
            | true =>
              obtain ⟨⟨d0, d1, d2⟩, e0, e1, e2⟩ := HX8.out
              simp only at d0 d1 d2 e0 e1 e2
              go_wp2_with fail
              have hm := cHeader_any g 5 v _ ⟨o, u, c⟩ m q w8 HC8.out.c (by unfold maxLen; omega)
              rw [good_4 HM0.out] at hm
              refine hm.mono ?_
              rintro e wh ⟨rfl, ho⟩
              have HCh := Lib.hid (HC8.out.old ho)
              have HXh := Lib.hid (HX8.out.old ho)
              clear hm ho
              clear d0 d1 d2 e0 e1 e2
              go_wp2_with fail
              refine (awake16_any _).mono ?_
              rintro e w' ⟨rfl, hb⟩
              have HE := Lib.hid (HCh.out.b.trans (hb.mono HCh.out.b.size))
              clear hb
              go_wp2
              go_ret
              exact ⟨by simp, HE.out⟩
            | false =>
              have hsz : m.size + 1 ≤ 9223372036854775807 := by omega
              obtain ⟨⟨d0, d1, d2⟩, e0, e1, e2⟩ := HX8.out
              simp only at d0 d1 d2 e0 e1 e2
              go_wp2_with fail
              have hm := cMethod_any g 5 v _ ⟨o, u, c⟩ (m ++ ⟨#[120]⟩) q w8 HC8.out.c
              rw [good_3 (good_5 m) HY.out.symm] at hm
              refine hm.mono ?_
              rintro e wx ⟨rfl, ho⟩
              have HCx := Lib.hid (HC8.out.old ho)
              have HXx := Lib.hid (HX8.out.old ho)
              clear hm ho
              clear d0 d1 d2 e0 e1 e2
              obtain ⟨⟨d0, d1, d2⟩, e0, e1, e2⟩ := HXx.out
              simp only at d0 d1 d2 e0 e1 e2
              go_wp2_with fail
              have hm := cHeader_any g 5 v _ ⟨o, u, c⟩ m q wx HCx.out.c (by unfold maxLen; omega)
              rw [good_4 HM0.out] at hm
              refine hm.mono ?_
              rintro e wh ⟨rfl, ho⟩
              have HCh := Lib.hid (HCx.out.old ho)
              have HXh := Lib.hid (HXx.out.old ho)
              clear hm ho
              clear d0 d1 d2 e0 e1 e2
              go_wp2_with fail
              refine (awake16_any _).mono ?_
              rintro e w' ⟨rfl, hb⟩
              have HE := Lib.hid (HCh.out.b.trans (hb.mono HCh.out.b.size))
              clear hb
              go_wp2
              go_ret
              exact ⟨by simp, HE.out⟩
end Go.Proofs.Ytoafncfknllghaa
