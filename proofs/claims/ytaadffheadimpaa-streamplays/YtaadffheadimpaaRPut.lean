/-
  The contract of Ring.Put over this seat's program. Conditions: the bytes put lie in no block of the ring.
-/
import Derived.Test.YtaadffheadimpaaROps
namespace Go.Proofs.Ytaadffheadimpaa
open Go.RowKit

theorem add_plus (a : Addr) (i j : Nat) : (a.add i).add j = a.add (i + j) := by
  unfold Addr.add
  by_cases h1 : i = 0
  · subst h1; simp
  · by_cases h2 : j = 0
    · subst h2; simp [h1]
    · simp [h1, h2, Nat.add_assoc]
/-- how many of b there is room for -/
def roomed (N : Nat) (l b : List UInt8) : Nat := min b.length (N - l.length)

set_option maxHeartbeats 3200000 in
theorem ringPut_any (g gd N : Nat) (l : List UInt8) (A : Option Addr) (bl cap : Nat) (b : List UInt8) (w : World) (hw : RgAt w g gd N l) (hbl : bl = b.length) (hb : BArg w [gd] A b) (hcap : b.length ≤ cap) (_hcm : cap ≤ maxLen) :
    Calls Try.prog 25 #[.pointer (some ⟨g, 0, none⟩), .slice A bl cap] w fun e w' => e = .returned (.int .i64 (roomed N l b : Nat)) ∧ RgAt w' g gd N (l ++ b.take (roomed N l b)) ∧ Only [g, gd] w w' := by
  unfold maxLen at _hcm
  have hq := ringRoom_any g gd N l w hw
  obtain ⟨k, hk⟩ : ∃ k, k = roomed N l b := ⟨_, rfl⟩
  have hke : k = min b.length (N - l.length) := hk
  rw [← hk]
  have hfit := hw.lt.2.2.2.1
  have hN := hw.lt.2.2.2.2
  obtain ⟨r, hr⟩ : ∃ r : Nat, r = N - l.length := ⟨_, rfl⟩
  have hr2 : ((N : Int) - l.length) = (r : Int) := by omega
  rw [hr2] at hq
  rw [← hr] at hke
  have HQ := Lib.hid hq
  have HW := Lib.hid hw
  have HB := Lib.hid hb
  have HR := Lib.hid hr
  have HBL := Lib.hid hbl
  rw [← hbl] at hke hcap
  have HKL : Hid (k ≤ bl ∧ k ≤ r ∧ l.length ≤ N ∧ N ≤ 4096) := by show _ ∧ _; omega
  clear hq hk hw hb hr hr2 hbl hfit hN
  have hcase : (bl ≤ r ∧ k = bl) ∨ (¬ bl ≤ r ∧ k = r) := by omega
  clear hke
  by_cases hk0 : k = 0
  · subst hk0
    have HW0 : Hid (RgAt w g gd N (l ++ b.take 0)) := by show RgAt _ _ _ _ _; rw [List.take_zero, List.append_nil]; exact HW.out
    rcases hcase with ⟨h1, h2⟩ | ⟨h1, h2⟩
    · subst h2
      go_enter Try.func25, Try.ntmps25
      go_wp2_with fail
      refine HQ.out.mono ?_
      rintro e w' ⟨rfl, q, hq⟩
      have HW1 : Hid (RgAt w' g gd N (l ++ b.take 0)) := by show RgAt _ _ _ _ _; rw [hq]; exact HW0.out.old ((Only.refl [] _).drewN q)
      have HO1 : Hid (Only [g, gd] w w') := by show Only _ _ _; rw [hq]; exact (Only.refl _ _).drewN q
      clear hq
      go_wp2
      go_ret
      exact ⟨rfl, HW1.out, HO1.out⟩
    · subst h2
      go_enter Try.func25, Try.ntmps25
      go_wp2_with fail
      refine HQ.out.mono ?_
      rintro e w' ⟨rfl, q, hq⟩
      have HW1 : Hid (RgAt w' g gd N (l ++ b.take 0)) := by show RgAt _ _ _ _ _; rw [hq]; exact HW0.out.old ((Only.refl [] _).drewN q)
      have HO1 : Hid (Only [g, gd] w w') := by show Only _ _ _; rw [hq]; exact (Only.refl _ _).drewN q
      clear hq
      go_wp2
      go_ret
      exact ⟨rfl, HW1.out, HO1.out⟩
  obtain ⟨ad, rfl, hx⟩ := HB.out 0 (by have := HBL.out; omega)
  clear hx
  have HBC : Hid (∀ j (hj : j < b.length), ad.block < w.heap.size ∧ ad.block ≠ gd ∧ w.cell? (ad.add j) = some (bv b[j])) := by
    show ∀ j hj, _
    intro j hj
    obtain ⟨ad', e, h1, h2, h3⟩ := HB.out j hj
    injection e with e
    subst e
    exact ⟨h1, by simpa using h2, h3⟩
  obtain ⟨D, s, i1, i2, i3, i4, i5⟩ := HW.out
  have hlt := i2.lt
  rw [i1] at hlt
  obtain ⟨p, hp⟩ : ∃ p, p = wrapN N (s + l.length) := ⟨_, rfl⟩
  obtain ⟨u, hu⟩ : ∃ u, u = min k (N - p) := ⟨_, rfl⟩
  have hpl : p < N := by rw [hp]; exact wrapN_lt (by have := HKL.out; omega)
  obtain ⟨X1, hX1⟩ : ∃ X1, X1 = (b.take k).take u := ⟨_, rfl⟩
  obtain ⟨X2, hX2⟩ : ∃ X2, X2 = (b.take k).drop u := ⟨_, rfl⟩
  have hbk : (b.take k).length = k := by have := HKL.out; have := HBL.out; simp; omega
  have HX : Hid (X1.length = u ∧ X2.length = k - u ∧ u ≤ k ∧ u ≤ N - p ∧ (u = k ∨ u = N - p)) := by
    show _ ∧ _
    rw [hX1, hX2, List.length_take, List.length_drop, hbk]
    omega
  have HLA : Hid (Laid (splice (splice D p X1) 0 X2) s (l ++ b.take k)) := by
    show Laid _ _ _
    rw [hX1, hX2]
    exact i2.put (b := b.take k) (by omega) (by rw [hbk, i1]; have := HKL.out; have := HR.out; omega) (by rw [i1]; exact hp) (by rw [hbk, i1]; exact hu)
  have HXC : Hid ((∀ j (hj : j < X1.length), w.cell? (ad.add j) = some (bv X1[j])) ∧ ∀ j (hj : j < X2.length), w.cell? (ad.add (u + j)) = some (bv X2[j])) := by
    subst hX1 hX2
    refine ⟨fun j hj => ?_, fun j hj => ?_⟩
    · rw [List.length_take, hbk] at hj
      rw [(HBC.out j (by have := HKL.out; have := HBL.out; omega)).2.2]
      simp
    · rw [List.length_drop, hbk] at hj
      rw [(HBC.out (u + j) (by have := HKL.out; have := HBL.out; omega)).2.2]
      simp
  have HNB : Hid (ad.block < w.heap.size ∧ ad.block ≠ gd) := by
    have := HBC.out 0 (by have := HBL.out; have := HKL.out; omega)
    exact ⟨this.1, this.2.1⟩
  have H1 := Lib.hid i1
  have H3 := Lib.hid i3
  have H4 := Lib.hid i4
  have HP := Lib.hid hp
  have HPL : Hid (p < N ∧ s < N) := ⟨hpl, hlt⟩
  obtain ⟨c, hc⟩ : ∃ c, c = l.length := ⟨_, rfl⟩
  rw [← hc] at H3 HKL HR HP
  have HCE : Hid ((l ++ b.take k).length = c + k) := by show _ = _; rw [List.length_append, hbk, hc]
  clear hX1 hX2 hu hp i1 i2 i3 i4 i5 hbk hc HBC hlt
  rcases hcase with ⟨h1, h2⟩ | ⟨h1, h2⟩
  case' inl =>
    subst h2
    have h3 : ¬ (k : Int) < 1 := by omega
    go_enter Try.func25, Try.ntmps25
    go_wp2_with fail
    refine HQ.out.mono ?_
    rintro e w1 ⟨rfl, q, hq⟩
    have HO1 : Hid (Only [] w w1) := by show Only _ _ _; rw [hq]; exact (Only.refl _ _).drewN q
    clear hq
    go_wp2_with fail
  case' inr =>
    subst h2
    have h3 : ¬ (k : Int) < 1 := by omega
    go_enter Try.func25, Try.ntmps25
    go_wp2_with fail
    refine HQ.out.mono ?_
    rintro e w1 ⟨rfl, q, hq⟩
    have HO1 : Hid (Only [] w w1) := by show Only _ _ _; rw [hq]; exact (Only.refl _ _).drewN q
    clear hq
    go_wp2_with fail
  all_goals
    clear h1
    have H31 := Lib.hid (H3.out.only HO1.out (by simp))
    have H41 := Lib.hid (H4.out.only HO1.out (by simp))
    have hd0 := H31.out.c0
    have hd2 := H31.out.c2
    have hkc : k ≤ cap := by have := HKL.out.1; omega
    clear hcap
    have hpN := HPL.out.1
    have hN := HKL.out.2.2.2
    obtain ⟨F, hF⟩ : ∃ F : World → Prop, ∀ W, F W ↔ (W.cell? ⟨g, 0, none⟩ = some (.slice (some ⟨gd, 0, none⟩) N N) ∧ W.cell? ⟨g, 2, none⟩ = some (.int .i64 (c : Int))) := ⟨_, fun _ => Iff.rfl⟩
    have HF1 : Hid (F w1.drew) := (hF _).2 ⟨hd0, hd2⟩
    refine mix_start F (by kernel_rfl) ?_
    have hne : Nonempty (Held F) := ⟨⟨w1.drew, HF1.out⟩⟩
    have hx0 : ∀ p : Held F, p.w.cell? ⟨g, 0, none⟩ = some (.slice (some ⟨gd, 0, none⟩) N N) := fun p => ((hF _).1 p.h).1
    have hx2 : ∀ p : Held F, p.w.cell? ⟨g, 2, none⟩ = some (.int .i64 (c : Int)) := fun p => ((hF _).1 p.h).2
    have HFE := Lib.hid hF
    clear hF
    refine mix_seg [0, 1, 2, 3, 4, 5, 6, 7, 8, 11, 12, 13] (by kernel_rfl) HF1.out ?_
    simp only [segOf, pickOps, pickOp]
    repeat (go_big_quiet_step (fail))
    refine wpQuiet_nil ?_
    refine mix_run 9 (by kernel_rfl) ?_
    simp only [segOf, pickOps, pickOp]
    go_wp2_with fail
    refine (place_any g gd N s c c w1.drew (H31.out.only (Only.refl [] w1).drew (by simp)) HPL.out.2 HKL.out.2.2.1 hN).mono ?_
    rintro e w2 ⟨rfl, q2, hq2⟩
    rw [← HP.out]
    have HO2 : Hid (Only [] w w2) := by show Only _ _ _; rw [hq2]; exact HO1.out.drew.drewN q2
    clear hq2 hd0 hd2
    have H32 := Lib.hid (H3.out.only HO2.out (by simp))
    have H42 := Lib.hid (H4.out.only HO2.out (by simp))
    have HF2 : Hid (F w2) := (HFE.out _).2 ⟨H32.out.c0, H32.out.c2⟩
    go_wp2_with fail
    refine MixPost.normal HF2.out ?_
    refine mix_seg [10] (by kernel_rfl) HF2.out ?_
    simp only [segOf, pickOps, pickOp]
    repeat (go_big_quiet_step (fail))
    refine wpQuiet_nil ?_
    refine mix_run 14 (by kernel_rfl) ?_
    simp only [segOf, pickOps, pickOp]
    refine wpList_copy_bytes rfl (.tmp 24) (.tmp 27) rfl _ _ _ _ _ _ rfl rfl gd p D H42.out X1 (by have h := HX.out; rw [h.1]; show u = min k (N - p); omega) (fun _ => ⟨rfl, ad, rfl, fun j hj => (HO2.out.cell (p := ad.add j) (by rw [block_add]; exact HNB.out.1) (by simp)).trans (HXC.out.1 j hj)⟩) (by have h := HX.out; have := H1.out; omega) ?_
    intro w3 HD3 HO3 HS3
    have HOw3 : Hid (Only [gd] w w3) := (HO2.out.mono (by simp)).trans HO3.out
    have H33 := Lib.hid (H3.out.only HOw3.out (by have := H3.out.ne; simpa using this))
    have HF3 : Hid (F w3) := (HFE.out _).2 ⟨H33.out.c0, H33.out.c2⟩
    rw [HX.out.1]
    go_wp2_with fail
    refine MixPost.normal HF3.out ?_
    refine mix_seg [15] (by kernel_rfl) HF3.out ?_
    simp only [segOf, pickOps, pickOp]
    repeat (go_big_quiet_step (fail))
    refine wpQuiet_nil ?_
    refine mix_done (by kernel_rfl) ?_
    clear hx0 hx2 hne HF1 HF2 HF3 HFE F
    go_wp2_with fail
    obtain ⟨F, hF⟩ : ∃ F : World → Prop, ∀ W, F W ↔ W.cell? ⟨g, 0, none⟩ = some (.slice (some ⟨gd, 0, none⟩) N N) := ⟨_, fun _ => Iff.rfl⟩
    have HF3 : Hid (F w3.drew) := (hF _).2 H33.out.c0
    refine mix_start F (by kernel_rfl) ?_
    have hne : Nonempty (Held F) := ⟨⟨w3.drew, HF3.out⟩⟩
    have hx0 : ∀ p : Held F, p.w.cell? ⟨g, 0, none⟩ = some (.slice (some ⟨gd, 0, none⟩) N N) := fun p => (hF _).1 p.h
    have HFE := Lib.hid hF
    clear hF
    have huk := HX.out.2.2.1
    refine mix_seg [0, 1, 2, 3, 4, 5, 6, 7] (by kernel_rfl) HF3.out ?_
    simp only [segOf, pickOps, pickOp]
    repeat (go_big_quiet_step (fail))
    refine wpQuiet_nil ?_
    obtain ⟨sp, hsp⟩ : ∃ sp, sp = (if cap = u then some ad else some (ad.add u)) := ⟨_, rfl⟩
    rw [← hsp]
    have HSP := Lib.hid hsp
    clear hsp
    refine mix_run 8 (by kernel_rfl) ?_
    simp only [segOf, pickOps, pickOp]
    have HDL : Hid ((splice D p X1).length = N) := by show _ = _; rw [length_splice _ _ _ (by have h := HX.out; have := H1.out; omega)]; exact H1.out
    refine wpList_copy_bytes rfl (.tmp 32) (.tmp 36) rfl _ _ _ _ _ _ rfl rfl gd 0 (splice D p X1) (show RowIn w3.drew gd _ from HD3.out) X2 (by have h := HX.out; rw [h.2.1]; show k - u = min (k - u) N; have := HKL.out; have := HR.out; omega)
      (fun h0 => ⟨rfl, ad.add u, by rw [HSP.out, if_neg (by have h := HX.out; omega)], fun j hj => by
        rw [add_plus]
        exact (HOw3.out.cell (p := ad.add (u + j)) (by rw [block_add]; exact HNB.out.1) (by rw [block_add]; simpa using HNB.out.2)).trans (HXC.out.2 j hj)⟩)
      (by have h := HX.out; have := HDL.out; have := HKL.out; have := HR.out; omega) ?_
    intro w4 HD4 HO4 HS4
    have HOw4 : Hid (Only [gd] w w4) := HOw3.out.trans HO4.out.of_drew
    have H34 := Lib.hid (H3.out.only HOw4.out (by have := H3.out.ne; simpa using this))
    have HF4 : Hid (F w4) := (HFE.out _).2 H34.out.c0
    go_wp2_with fail
    refine MixPost.normal HF4.out ?_
    refine mix_done (by kernel_rfl) ?_
    clear hx0 hne HF3 HF4 HFE F
    obtain ⟨W5, hW5⟩ : ∃ W5, W5 = w4.setCell ⟨g, 2, none⟩ (.int .i64 ((c : Int) + k)) := ⟨_, rfl⟩
    have HO5 : Hid (Only [g, gd] w W5) := by show Only _ _ _; rw [hW5]; exact (HOw4.out.mono (by simp)).setCell (p := ⟨g, 2, none⟩) (by simp) _
    have HR5 : Hid (RgAt W5 g gd N (l ++ b.take k)) := by
      show RgAt _ _ _ _ _
      refine ⟨_, s, ?_, HLA.out, ?_, ?_, hN⟩
      · rw [length_splice _ _ _ (by have h := HX.out; have := HDL.out; have := HKL.out; have := HR.out; omega)]
        exact HDL.out
      · rw [HCE.out, hW5]
        exact H34.out.set2 (c + k)
      · rw [hW5]
        exact HD4.out.set H3.out.ne _
    have hd2 := H34.out.c2
    have hz2 := H34.out.z2
    have hck : c + k ≤ N := by have := HKL.out; have := HR.out; omega
    go_wp2_with fail
    rw [← hW5]
    go_ret
    exact ⟨rfl, HR5.out, HO5.out⟩
end Go.Proofs.Ytaadffheadimpaa
