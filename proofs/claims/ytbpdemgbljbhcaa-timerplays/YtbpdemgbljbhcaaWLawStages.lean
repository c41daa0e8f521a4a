/-
  The walk of the law TimerStages: whatever the times, it returns true, and nothing that was there has turned. Conditions: the numbers lie where the slice says.
-/
import Derived.Test.YtbpdemgbljbhcaaWDrain
namespace Go.Proofs.Ytbpdemgbljbhcaa
open Go.RowKit

/-- two wheels have no block in common -/
structure Apart (gx gy : Nat) (vx vy : Value) : Prop where
  ne : gx ≠ gy
  x : ∀ g ∈ ownL vx, g ≠ gy ∧ g ∉ ownL vy
  y : ∀ g ∈ ownL vy, g ≠ gx
theorem Apart.off {gx gy : Nat} {vx vy : Value} (h : Apart gx gy vx vy) : gy ∉ gx :: ownL vx ∧ ∀ g ∈ ownL vy, g ∉ gx :: ownL vx := by
  constructor
  · intro hm
    rcases List.mem_cons.1 hm with h1 | h1
    · exact h.ne h1.symm
    · exact (h.x _ h1).1 rfl
  · intro g hg hm
    rcases List.mem_cons.1 hm with h1 | h1
    · exact h.y g hg h1
    · exact (h.x g h1).2 hg
theorem Apart.symm {gx gy : Nat} {vx vy : Value} (h : Apart gx gy vx vy) : Apart gy gx vy vx :=
  ⟨h.ne.symm, fun g hg => ⟨h.y g hg, fun hm => (h.x g hm).2 hg⟩, fun g hg => (h.x g hg).1⟩
theorem Apart.grow {gx gy B : Nat} {vx vy vx' : Value} (h : Apart gx gy vx vy) (hg : ∀ g ∈ ownL vx', g ∈ ownL vx ∨ B ≤ g) (hy : gy < B) (hv : ∀ g ∈ ownL vy, g < B) : Apart gx gy vx' vy := by
  refine ⟨h.ne, ?_, h.y⟩
  intro g hm
  rcases hg g hm with h1 | h1
  · exact h.x g h1
  · exact ⟨by omega, fun h2 => by have := hv g h2; omega⟩
theorem Wh.beside {w w' : World} {gx gy : Nat} {vx vy : Value} {most next : Int} {s : List Al} (h : Wh w gy most next vy s) (ha : Apart gx gy vx vy) (o : Only (gx :: ownL vx) w w') : Wh w' gy most next vy s := h.only o ha.off.1 ha.off.2

set_option maxHeartbeats 1200000 in
theorem walk_TimerStages (a0 : Option Addr) (c0 : Nat) (x0 : List Int) (a1 a2 : Int) (w : World) (h0 : IArg .u64 w a0 c0 x0) (h1 : (Lit.int .u64 a1).wf = true) (h2 : (Lit.int .u64 a2).wf = true) :
    Calls Try.prog 7 #[.slice a0 x0.length c0, .int .u64 a1, .int .u64 a2] w fun e w' => e = .returned (.bool true) ∧ Below w.heap.size w w' := by
  obtain ⟨p1, q1⟩ := wfU h1
  obtain ⟨p2, q2⟩ := wfU h2
  clear h1 h2
  have H0 := Lib.hid h0
  have hl0 := h0.2.2.1
  have hm0 := h0.2.2.2
  unfold maxLen at hm0
  clear h0
  by_cases hb1 : 100 < x0.length
  · go_enter Try.func7, Try.ntmps7
    go_wp2_with fail
    refine (awake9_any _).mono ?_
    rintro e w' ⟨rfl, hb⟩
    go_wp2
    go_ret
    exact ⟨rfl, hb⟩
  go_enter Try.func7, Try.ntmps7
  go_wp2_with fail
  refine (wheelNew_wh 100 w).mono ?_
  rintro e w1 ⟨rfl, hw1, ho1, hs1⟩
  have HX1 : Hid (Wh w1 w.heap.size 100 1 (.slice none 0 0) []) := hw1
  have HB1 : Hid (Below w.heap.size w w1) := ho1.to_below (by simp)
  obtain ⟨gy, hgy⟩ : ∃ gy, gy = w1.heap.size := ⟨_, rfl⟩
  have HGY : Hid (gy = w.heap.size + 1) := hgy.trans hs1
  have HY := Lib.hid hgy
  clear hw1 ho1 hs1 hgy
  go_wp2_with fail
  refine (wheelNew_wh 100 w1).mono ?_
  rintro e w2 ⟨rfl, hw2, ho2, _⟩
  rw [← HY.out]
  rw [← HY.out] at hw2
  have HY2 : Hid (Wh w2 gy 100 1 (.slice none 0 0) []) := hw2
  have HX2 := Lib.hid (HX1.out.old ho2)
  have HB2 : Hid (Below w.heap.size w w2) := Only.above HB1.out ho2 (Nat.le_refl _) (by simp)
  have HNE : Hid (gy ≠ w.heap.size ∧ w.heap.size < gy) := ⟨by have := HGY.out; omega, by have := HGY.out; omega⟩
  clear hw2 ho2 HY HGY
  go_wp2_with fail
  go_loopw [9] (fun i wr => ∃ (k : Nat) (vx vy : Value) (s : List Al), k ≤ x0.length ∧ i = .int .i64 k ∧ s.length = k ∧ Wh wr w.heap.size 100 ((k : Int) + 1) vx s ∧ Wh wr gy 100 ((k : Int) + 1) vy s ∧ Apart w.heap.size gy vx vy ∧ Below w.heap.size w wr) (fun i _ => x0.length - (intOf i).toNat)
  case atStart => exact ⟨0, _, _, [], by omega, rfl, rfl, HX2.out, HY2.out, ⟨HNE.out.1.symm, by simp [ownL, Value.ownBlock], by simp [ownL, Value.ownBlock]⟩, HB2.out⟩
  case round =>
    obtain ⟨k, vx, vy, s, hk, rfl, hsl, hx, hy, ha, hb⟩ := hrel
    have HSL := Lib.hid hsl
    have HX := Lib.hid hx
    have HY := Lib.hid hy
    have HA := Lib.hid ha
    have HB := Lib.hid hb
    clear hsl hx hy ha hb
    by_cases hlt : k < x0.length
    · obtain ⟨ad, e1, hB, hcell, hwf⟩ := H0.out.at_ hlt
      have hcl : wr.cell? (ad.add k) = some (.int .u64 x0[k]) := (below_add HB.out hB).trans hcell
      obtain ⟨x, hx⟩ : ∃ x, x = x0[k] := ⟨_, rfl⟩
      rw [← hx] at hcl hwf hcell
      have HC := Lib.hid hcell
      have HBk := Lib.hid hB
      clear hcell hx hB hwf
      subst e1
      go_wp2_with fail
      refine (wheelArm_room w.heap.size 100 ((k : Int) + 1) vx s x k wr HX.out (by rw [HSL.out]; omega) (by omega) (by omega) (by omega)).mono ?_
      rintro e w3 ⟨rfl, vx2, hw3, ho3, hg3⟩
      have HX3 := Lib.hid hw3
      have HY3 := Lib.hid (HY.out.beside HA.out ho3)
      have HA3 := Lib.hid (HA.out.grow hg3 HY.out.lt (fun g hg => (HY.out.own hg).2))
      have HB3 : Hid (Below w.heap.size w w3) := Only.above HB.out ho3 (Nat.le_refl _) (HX.out.up (Nat.le_refl _)).foot
      have hcl3 : w3.cell? (ad.add k) = some (.int .u64 x) := (below_add HB3.out HBk.out).trans HC.out
      clear hw3 ho3 hcl hg3
      go_wp2_with fail
      refine (wheelArm_room gy 100 ((k : Int) + 1) vy s x k w3 HY3.out (by rw [HSL.out]; omega) (by omega) (by omega) (by omega)).mono ?_
      rintro e w4 ⟨rfl, vy2, hw4, ho4, hg4⟩
      have HY4 := Lib.hid hw4
      have HX4 := Lib.hid (HX3.out.beside HA3.out.symm ho4)
      have HA4 := Lib.hid ((HA3.out.symm.grow hg4 HX3.out.lt (fun g hg => (HX3.out.own hg).2)).symm)
      have HB4 : Hid (Below w.heap.size w w4) := Only.above HB3.out ho4 (Nat.le_refl _) (HY3.out.up (Nat.le_of_lt HNE.out.2)).foot
      clear hw4 ho4 hcl3 hg4
      go_wp2_with fail
      go_roundw
      case rel =>
        exact ⟨k + 1, vx2, vy2, _, by omega, by go_num, by rw [List.length_append, HSL.out]; rfl, HX4.out, HY4.out, HA4.out, HB4.out⟩
      case measure => simp [intOf]; omega
    · obtain rfl : k = x0.length := by omega
      rcases Int.lt_trichotomy a1 a2 with h12 | h12 | h12
      · have h21 : ¬ a2 < a1 := by omega
        go_wp2_with fail
        refine (due_any w.heap.size 100 _ vx s a1 w.heap.size (.slice none 0 0) [] wr HX.out (by have := HSL.out; omega) (NRow.nil _ _) (by simp) (by simp [ownL, Value.ownBlock]) HB.out.size).mono ?_
        rintro e w5 ⟨out1, s1, vx1, r1, rfl, t1, n1, hx1, hr1, ho1, hv1, hq1⟩
        rw [List.nil_append] at hr1
        have HO5 : Hid (Only (w.heap.size :: ownL vx) wr w5) := ho1.mono (by simp [ownL, Value.ownBlock])
        have HX5 := Lib.hid hx1
        have HR5 := Lib.hid hr1
        have HY5 := Lib.hid (HY.out.beside HA.out HO5.out)
        have HA5 := Lib.hid (HA.out.grow (B := wr.heap.size) (fun g hg => .inl (hv1 g hg)) HY.out.lt (fun g hg => (HY.out.own hg).2))
        have HB5 : Hid (Below w.heap.size w w5) := Only.above HB.out HO5.out (Nat.le_refl _) (HX.out.up (Nat.le_refl _)).foot
        have HQ5 : Hid (∀ g ∈ ownL r1, wr.heap.size ≤ g) := by
          show ∀ g ∈ _, _
          intro g hg
          rcases hq1 g hg with h | h
          · simp [ownL, Value.ownBlock] at h
          · exact h
        have HV5 := Lib.hid hv1
        have HT5 : Hid (Took a2 s out1 s1) := Took.later (by omega) t1
        have HL5 : Hid (s1.length + out1.length = x0.length) := (Took.len HX.out.ids t1).trans HSL.out
        have HD5 : Hid (∀ g ∈ ownL r1, g ≠ w.heap.size ∧ g ∉ ownL vx1) := by
          show ∀ g ∈ _, _
          intro g hg
          have h1 := HQ5.out g hg
          exact ⟨by have := HX.out.lt; omega, fun h2 => by have := (HX.out.own (hv1 g h2)).2; omega⟩
        clear hx1 hr1 ho1 hv1 hq1 t1 n1
        go_wp2_with fail
        refine (due_any w.heap.size 100 _ vx1 s1 a2 w.heap.size r1 out1 w5 HX5.out (by have := HL5.out; omega) HR5.out (by have := HL5.out; omega) HD5.out HB5.out.size).mono ?_
        rintro e w6 ⟨out2, s2, vx2, r2, rfl, t2, n2, hx2, hr2, ho2, hv2, hq2⟩
        have HO6 := Lib.hid ho2
        have HX6 := Lib.hid hx2
        have HY6 : Hid (Wh w6 gy 100 ((x0.length : Int) + 1) vy s) := by
          have hf : ∀ g, g < wr.heap.size → g ∉ w.heap.size :: ownL vx1 → g ∉ w.heap.size :: (ownL vx1 ++ ownL r1) := by
            intro g hg h1 h2
            rcases List.mem_cons.1 h2 with h3 | h3
            · exact h1 (by rw [h3]; exact List.mem_cons_self)
            · rcases List.mem_append.1 h3 with h4 | h4
              · exact h1 (List.mem_cons_of_mem _ h4)
              · have := HQ5.out g h4; omega
          refine HY5.out.only ho2 (hf _ HY.out.lt HA5.out.off.1) ?_
          intro g hg
          exact hf g (HY.out.own hg).2 (HA5.out.off.2 g hg)
        have HA6 := Lib.hid (HA5.out.grow (B := wr.heap.size) (fun g hg => .inl (hv2 g hg)) HY.out.lt (fun g hg => (HY.out.own hg).2))
        have HQ6 : Hid (∀ g ∈ ownL r2, wr.heap.size ≤ g) := by
          show ∀ g ∈ _, _
          intro g hg
          rcases hq2 g hg with h | h
          · exact HQ5.out g h
          · have := HO5.out.size; omega
        have HB6 : Hid (Below w.heap.size w w6) := by
          refine Only.above HB5.out ho2 (Nat.le_refl _) ?_
          intro x hx
          rcases List.mem_cons.1 hx with h3 | h3
          · rw [h3]; exact Nat.le_refl _
          · rcases List.mem_append.1 h3 with h4 | h4
            · have := (HX5.out.own h4).1; omega
            · have := HQ5.out x h4; have := HB.out.size; omega
        obtain ⟨lt, hlt2⟩ : ∃ lt, lt = out1 ++ out2 := ⟨_, rfl⟩
        have HT6 : Hid (Took a2 s lt s2) := by show Took _ _ _ _; rw [hlt2]; exact HT5.out.append t2
        have HN6 := Lib.hid n2
        rw [← hlt2] at hr2
        have HR6 := Lib.hid hr2
        have hln : s2.length + lt.length = x0.length := (Took.len HX.out.ids HT6.out).trans HSL.out
        have hle : lt.length ≤ x0.length := by omega
        have HLN : Hid ((s2.length : Int) = (x0.length : Int) - (lt.length : Int)) := by show _ = _; omega
        clear hx2 hr2 ho2 hv2 hq2 t2 n2 hlt2 hln
        go_wp2_with fail
        refine (due_any gy 100 _ vy s a2 w.heap.size (.slice none 0 0) [] w6 HY6.out (by have := HSL.out; omega) (NRow.nil _ _) (by simp) (by simp [ownL, Value.ownBlock]) HB6.out.size).mono ?_
        rintro e w7 ⟨out3, s3, vy3, r3, rfl, t3, n3, hx3, hr3, ho3, hv3, _⟩
        rw [List.nil_append] at hr3
        have hone := Took.one HX.out.ids HT6.out HN6.out t3 n3
        obtain ⟨rfl, rfl⟩ := hone
        have HO7 : Hid (Only (gy :: ownL vy) w6 w7) := ho3.mono (by simp [ownL, Value.ownBlock])
        have HX7 := Lib.hid (HX6.out.beside HA6.out.symm HO7.out)
        have HY7 := Lib.hid hx3
        have HR7 : Hid (NRow w7 w.heap.size r2 lt) := by
          refine HR6.out.only HO7.out ?_
          intro g hg hm
          have h1 := HQ6.out g hg
          rcases List.mem_cons.1 hm with h3 | h3
          · have := HY.out.lt; omega
          · have := (HY.out.own h3).2; omega
        have HS7 := Lib.hid hr3
        have HB7 : Hid (Below w.heap.size w w7) := Only.above HB6.out HO7.out (Nat.le_refl _) (HY6.out.up (Nat.le_of_lt HNE.out.2)).foot
        obtain ⟨A, cap, hr2e, _, _⟩ := HR7.out.slice
        subst hr2e
        clear hx3 hr3 ho3 hv3 t3 n3
        go_wp2_with fail
        refine (Ints_any _ _ _ r3 lt w7 HR7.out HS7.out).mono ?_
        rintro e w8 ⟨rfl, ho8⟩
        have HX8 := Lib.hid (HX7.out.old ho8)
        have HY8 := Lib.hid (HY7.out.old ho8)
        have HB8 : Hid (Below w.heap.size w w8) := Only.above HB7.out ho8 (Nat.le_refl _) (by simp)
        clear ho8
        go_wp2_with fail
        refine (wheelLen_any w.heap.size 100 _ vx2 s2 w8 HX8.out).mono ?_
        rintro e w' ⟨rfl, rfl⟩
        rw [HLN.out]
        go_wp2_with fail
        refine (wheelLen_any gy 100 _ vy3 s2 _ HY8.out).mono ?_
        rintro e w' ⟨rfl, rfl⟩
        rw [HLN.out]
        go_wp2_with fail
        refine (wheelLen_any w.heap.size 100 _ vx2 s2 _ HX8.out).mono ?_
        rintro e w' ⟨rfl, rfl⟩
        rw [HLN.out]
        go_wp2_with fail
        refine (awake9_any _).mono ?_
        rintro e w9 ⟨rfl, hb9⟩
        go_wp2
        go_ret
        exact ⟨rfl, HB8.out.trans (hb9.mono HB8.out.size)⟩
      · subst h12
        go_wp2_with fail
        refine (due_any w.heap.size 100 _ vx s a1 w.heap.size (.slice none 0 0) [] wr HX.out (by have := HSL.out; omega) (NRow.nil _ _) (by simp) (by simp [ownL, Value.ownBlock]) HB.out.size).mono ?_
        rintro e w5 ⟨out1, s1, vx1, r1, rfl, t1, n1, hx1, hr1, ho1, hv1, hq1⟩
        rw [List.nil_append] at hr1
        have HO5 : Hid (Only (w.heap.size :: ownL vx) wr w5) := ho1.mono (by simp [ownL, Value.ownBlock])
        have HX5 := Lib.hid hx1
        have HR5 := Lib.hid hr1
        have HY5 := Lib.hid (HY.out.beside HA.out HO5.out)
        have HA5 := Lib.hid (HA.out.grow (B := wr.heap.size) (fun g hg => .inl (hv1 g hg)) HY.out.lt (fun g hg => (HY.out.own hg).2))
        have HB5 : Hid (Below w.heap.size w w5) := Only.above HB.out HO5.out (Nat.le_refl _) (HX.out.up (Nat.le_refl _)).foot
        have HQ5 : Hid (∀ g ∈ ownL r1, wr.heap.size ≤ g) := by
          show ∀ g ∈ _, _
          intro g hg
          rcases hq1 g hg with h | h
          · simp [ownL, Value.ownBlock] at h
          · exact h
        have HV5 := Lib.hid hv1
        have HT5 : Hid (Took a1 s out1 s1) := Took.later (by omega) t1
        have HL5 : Hid (s1.length + out1.length = x0.length) := (Took.len HX.out.ids t1).trans HSL.out
        have HD5 : Hid (∀ g ∈ ownL r1, g ≠ w.heap.size ∧ g ∉ ownL vx1) := by
          show ∀ g ∈ _, _
          intro g hg
          have h1 := HQ5.out g hg
          exact ⟨by have := HX.out.lt; omega, fun h2 => by have := (HX.out.own (hv1 g h2)).2; omega⟩
        clear hx1 hr1 ho1 hv1 hq1 t1 n1
        go_wp2_with fail
        refine (due_any w.heap.size 100 _ vx1 s1 a1 w.heap.size r1 out1 w5 HX5.out (by have := HL5.out; omega) HR5.out (by have := HL5.out; omega) HD5.out HB5.out.size).mono ?_
        rintro e w6 ⟨out2, s2, vx2, r2, rfl, t2, n2, hx2, hr2, ho2, hv2, hq2⟩
        have HO6 := Lib.hid ho2
        have HX6 := Lib.hid hx2
        have HY6 : Hid (Wh w6 gy 100 ((x0.length : Int) + 1) vy s) := by
          have hf : ∀ g, g < wr.heap.size → g ∉ w.heap.size :: ownL vx1 → g ∉ w.heap.size :: (ownL vx1 ++ ownL r1) := by
            intro g hg h1 h2
            rcases List.mem_cons.1 h2 with h3 | h3
            · exact h1 (by rw [h3]; exact List.mem_cons_self)
            · rcases List.mem_append.1 h3 with h4 | h4
              · exact h1 (List.mem_cons_of_mem _ h4)
              · have := HQ5.out g h4; omega
          refine HY5.out.only ho2 (hf _ HY.out.lt HA5.out.off.1) ?_
          intro g hg
          exact hf g (HY.out.own hg).2 (HA5.out.off.2 g hg)
        have HA6 := Lib.hid (HA5.out.grow (B := wr.heap.size) (fun g hg => .inl (hv2 g hg)) HY.out.lt (fun g hg => (HY.out.own hg).2))
        have HQ6 : Hid (∀ g ∈ ownL r2, wr.heap.size ≤ g) := by
          show ∀ g ∈ _, _
          intro g hg
          rcases hq2 g hg with h | h
          · exact HQ5.out g h
          · have := HO5.out.size; omega
        have HB6 : Hid (Below w.heap.size w w6) := by
          refine Only.above HB5.out ho2 (Nat.le_refl _) ?_
          intro x hx
          rcases List.mem_cons.1 hx with h3 | h3
          · rw [h3]; exact Nat.le_refl _
          · rcases List.mem_append.1 h3 with h4 | h4
            · have := (HX5.out.own h4).1; omega
            · have := HQ5.out x h4; have := HB.out.size; omega
        obtain ⟨lt, hlt2⟩ : ∃ lt, lt = out1 ++ out2 := ⟨_, rfl⟩
        have HT6 : Hid (Took a1 s lt s2) := by show Took _ _ _ _; rw [hlt2]; exact HT5.out.append t2
        have HN6 := Lib.hid n2
        rw [← hlt2] at hr2
        have HR6 := Lib.hid hr2
        have hln : s2.length + lt.length = x0.length := (Took.len HX.out.ids HT6.out).trans HSL.out
        have hle : lt.length ≤ x0.length := by omega
        have HLN : Hid ((s2.length : Int) = (x0.length : Int) - (lt.length : Int)) := by show _ = _; omega
        clear hx2 hr2 ho2 hv2 hq2 t2 n2 hlt2 hln
        go_wp2_with fail
        refine (due_any gy 100 _ vy s a1 w.heap.size (.slice none 0 0) [] w6 HY6.out (by have := HSL.out; omega) (NRow.nil _ _) (by simp) (by simp [ownL, Value.ownBlock]) HB6.out.size).mono ?_
        rintro e w7 ⟨out3, s3, vy3, r3, rfl, t3, n3, hx3, hr3, ho3, hv3, _⟩
        rw [List.nil_append] at hr3
        have hone := Took.one HX.out.ids HT6.out HN6.out t3 n3
        obtain ⟨rfl, rfl⟩ := hone
        have HO7 : Hid (Only (gy :: ownL vy) w6 w7) := ho3.mono (by simp [ownL, Value.ownBlock])
        have HX7 := Lib.hid (HX6.out.beside HA6.out.symm HO7.out)
        have HY7 := Lib.hid hx3
        have HR7 : Hid (NRow w7 w.heap.size r2 lt) := by
          refine HR6.out.only HO7.out ?_
          intro g hg hm
          have h1 := HQ6.out g hg
          rcases List.mem_cons.1 hm with h3 | h3
          · have := HY.out.lt; omega
          · have := (HY.out.own h3).2; omega
        have HS7 := Lib.hid hr3
        have HB7 : Hid (Below w.heap.size w w7) := Only.above HB6.out HO7.out (Nat.le_refl _) (HY6.out.up (Nat.le_of_lt HNE.out.2)).foot
        obtain ⟨A, cap, hr2e, _, _⟩ := HR7.out.slice
        subst hr2e
        clear hx3 hr3 ho3 hv3 t3 n3
        go_wp2_with fail
        refine (Ints_any _ _ _ r3 lt w7 HR7.out HS7.out).mono ?_
        rintro e w8 ⟨rfl, ho8⟩
        have HX8 := Lib.hid (HX7.out.old ho8)
        have HY8 := Lib.hid (HY7.out.old ho8)
        have HB8 : Hid (Below w.heap.size w w8) := Only.above HB7.out ho8 (Nat.le_refl _) (by simp)
        clear ho8
        go_wp2_with fail
        refine (wheelLen_any w.heap.size 100 _ vx2 s2 w8 HX8.out).mono ?_
        rintro e w' ⟨rfl, rfl⟩
        rw [HLN.out]
        go_wp2_with fail
        refine (wheelLen_any gy 100 _ vy3 s2 _ HY8.out).mono ?_
        rintro e w' ⟨rfl, rfl⟩
        rw [HLN.out]
        go_wp2_with fail
        refine (wheelLen_any w.heap.size 100 _ vx2 s2 _ HX8.out).mono ?_
        rintro e w' ⟨rfl, rfl⟩
        rw [HLN.out]
        go_wp2_with fail
        refine (awake9_any _).mono ?_
        rintro e w9 ⟨rfl, hb9⟩
        go_wp2
        go_ret
        exact ⟨rfl, HB8.out.trans (hb9.mono HB8.out.size)⟩
      · have h21 : ¬ a1 < a2 := by omega
        go_wp2_with fail
        refine (due_any w.heap.size 100 _ vx s a2 w.heap.size (.slice none 0 0) [] wr HX.out (by have := HSL.out; omega) (NRow.nil _ _) (by simp) (by simp [ownL, Value.ownBlock]) HB.out.size).mono ?_
        rintro e w5 ⟨out1, s1, vx1, r1, rfl, t1, n1, hx1, hr1, ho1, hv1, hq1⟩
        rw [List.nil_append] at hr1
        have HO5 : Hid (Only (w.heap.size :: ownL vx) wr w5) := ho1.mono (by simp [ownL, Value.ownBlock])
        have HX5 := Lib.hid hx1
        have HR5 := Lib.hid hr1
        have HY5 := Lib.hid (HY.out.beside HA.out HO5.out)
        have HA5 := Lib.hid (HA.out.grow (B := wr.heap.size) (fun g hg => .inl (hv1 g hg)) HY.out.lt (fun g hg => (HY.out.own hg).2))
        have HB5 : Hid (Below w.heap.size w w5) := Only.above HB.out HO5.out (Nat.le_refl _) (HX.out.up (Nat.le_refl _)).foot
        have HQ5 : Hid (∀ g ∈ ownL r1, wr.heap.size ≤ g) := by
          show ∀ g ∈ _, _
          intro g hg
          rcases hq1 g hg with h | h
          · simp [ownL, Value.ownBlock] at h
          · exact h
        have HV5 := Lib.hid hv1
        have HT5 : Hid (Took a1 s out1 s1) := Took.later (by omega) t1
        have HL5 : Hid (s1.length + out1.length = x0.length) := (Took.len HX.out.ids t1).trans HSL.out
        have HD5 : Hid (∀ g ∈ ownL r1, g ≠ w.heap.size ∧ g ∉ ownL vx1) := by
          show ∀ g ∈ _, _
          intro g hg
          have h1 := HQ5.out g hg
          exact ⟨by have := HX.out.lt; omega, fun h2 => by have := (HX.out.own (hv1 g h2)).2; omega⟩
        clear hx1 hr1 ho1 hv1 hq1 t1 n1
        go_wp2_with fail
        refine (due_any w.heap.size 100 _ vx1 s1 a1 w.heap.size r1 out1 w5 HX5.out (by have := HL5.out; omega) HR5.out (by have := HL5.out; omega) HD5.out HB5.out.size).mono ?_
        rintro e w6 ⟨out2, s2, vx2, r2, rfl, t2, n2, hx2, hr2, ho2, hv2, hq2⟩
        have HO6 := Lib.hid ho2
        have HX6 := Lib.hid hx2
        have HY6 : Hid (Wh w6 gy 100 ((x0.length : Int) + 1) vy s) := by
          have hf : ∀ g, g < wr.heap.size → g ∉ w.heap.size :: ownL vx1 → g ∉ w.heap.size :: (ownL vx1 ++ ownL r1) := by
            intro g hg h1 h2
            rcases List.mem_cons.1 h2 with h3 | h3
            · exact h1 (by rw [h3]; exact List.mem_cons_self)
            · rcases List.mem_append.1 h3 with h4 | h4
              · exact h1 (List.mem_cons_of_mem _ h4)
              · have := HQ5.out g h4; omega
          refine HY5.out.only ho2 (hf _ HY.out.lt HA5.out.off.1) ?_
          intro g hg
          exact hf g (HY.out.own hg).2 (HA5.out.off.2 g hg)
        have HA6 := Lib.hid (HA5.out.grow (B := wr.heap.size) (fun g hg => .inl (hv2 g hg)) HY.out.lt (fun g hg => (HY.out.own hg).2))
        have HQ6 : Hid (∀ g ∈ ownL r2, wr.heap.size ≤ g) := by
          show ∀ g ∈ _, _
          intro g hg
          rcases hq2 g hg with h | h
          · exact HQ5.out g h
          · have := HO5.out.size; omega
        have HB6 : Hid (Below w.heap.size w w6) := by
          refine Only.above HB5.out ho2 (Nat.le_refl _) ?_
          intro x hx
          rcases List.mem_cons.1 hx with h3 | h3
          · rw [h3]; exact Nat.le_refl _
          · rcases List.mem_append.1 h3 with h4 | h4
            · have := (HX5.out.own h4).1; omega
            · have := HQ5.out x h4; have := HB.out.size; omega
        obtain ⟨lt, hlt2⟩ : ∃ lt, lt = out1 ++ out2 := ⟨_, rfl⟩
        have HT6 : Hid (Took a1 s lt s2) := by show Took _ _ _ _; rw [hlt2]; exact HT5.out.append t2
        have HN6 := Lib.hid n2
        rw [← hlt2] at hr2
        have HR6 := Lib.hid hr2
        have hln : s2.length + lt.length = x0.length := (Took.len HX.out.ids HT6.out).trans HSL.out
        have hle : lt.length ≤ x0.length := by omega
        have HLN : Hid ((s2.length : Int) = (x0.length : Int) - (lt.length : Int)) := by show _ = _; omega
        clear hx2 hr2 ho2 hv2 hq2 t2 n2 hlt2 hln
        go_wp2_with fail
        refine (due_any gy 100 _ vy s a1 w.heap.size (.slice none 0 0) [] w6 HY6.out (by have := HSL.out; omega) (NRow.nil _ _) (by simp) (by simp [ownL, Value.ownBlock]) HB6.out.size).mono ?_
        rintro e w7 ⟨out3, s3, vy3, r3, rfl, t3, n3, hx3, hr3, ho3, hv3, _⟩
        rw [List.nil_append] at hr3
        have hone := Took.one HX.out.ids HT6.out HN6.out t3 n3
        obtain ⟨rfl, rfl⟩ := hone
        have HO7 : Hid (Only (gy :: ownL vy) w6 w7) := ho3.mono (by simp [ownL, Value.ownBlock])
        have HX7 := Lib.hid (HX6.out.beside HA6.out.symm HO7.out)
        have HY7 := Lib.hid hx3
        have HR7 : Hid (NRow w7 w.heap.size r2 lt) := by
          refine HR6.out.only HO7.out ?_
          intro g hg hm
          have h1 := HQ6.out g hg
          rcases List.mem_cons.1 hm with h3 | h3
          · have := HY.out.lt; omega
          · have := (HY.out.own h3).2; omega
        have HS7 := Lib.hid hr3
        have HB7 : Hid (Below w.heap.size w w7) := Only.above HB6.out HO7.out (Nat.le_refl _) (HY6.out.up (Nat.le_of_lt HNE.out.2)).foot
        obtain ⟨A, cap, hr2e, _, _⟩ := HR7.out.slice
        subst hr2e
        clear hx3 hr3 ho3 hv3 t3 n3
        go_wp2_with fail
        refine (Ints_any _ _ _ r3 lt w7 HR7.out HS7.out).mono ?_
        rintro e w8 ⟨rfl, ho8⟩
        have HX8 := Lib.hid (HX7.out.old ho8)
        have HY8 := Lib.hid (HY7.out.old ho8)
        have HB8 : Hid (Below w.heap.size w w8) := Only.above HB7.out ho8 (Nat.le_refl _) (by simp)
        clear ho8
        go_wp2_with fail
        refine (wheelLen_any w.heap.size 100 _ vx2 s2 w8 HX8.out).mono ?_
        rintro e w' ⟨rfl, rfl⟩
        rw [HLN.out]
        go_wp2_with fail
        refine (wheelLen_any gy 100 _ vy3 s2 _ HY8.out).mono ?_
        rintro e w' ⟨rfl, rfl⟩
        rw [HLN.out]
        go_wp2_with fail
        refine (wheelLen_any w.heap.size 100 _ vx2 s2 _ HX8.out).mono ?_
        rintro e w' ⟨rfl, rfl⟩
        rw [HLN.out]
        go_wp2_with fail
        refine (awake9_any _).mono ?_
        rintro e w9 ⟨rfl, hb9⟩
        go_wp2
        go_ret
        exact ⟨rfl, HB8.out.trans (hb9.mono HB8.out.size)⟩
end Go.Proofs.Ytbpdemgbljbhcaa
