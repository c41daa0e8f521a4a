/-
  The contracts of Ring.Len, Room, Clear, place, first, Peek, Take over this seat's program. Conditions: those of each statement.
-/
import Derived.Test.YtaadffheadimpaaRNew
namespace Go.Proofs.Ytaadffheadimpaa
open Go.RowKit

set_option maxHeartbeats 400000 in
theorem ringLen_any (g gd N : Nat) (l : List UInt8) (w : World) (hw : RgAt w g gd N l) :
    Calls Try.prog 26 #[.pointer (some ⟨g, 0, none⟩)] w fun e w' => e = .returned (.int .i64 (l.length : Int)) ∧ w = w' := by
  obtain ⟨D, s, h1, h2, h3, h4, h5⟩ := hw
  have d2 := h3.c2
  clear h1 h2 h3 h4 h5
  generalize l.length = c at *
  go_enter Try.func26, Try.ntmps26
  go_wp2
  go_ret
  exact ⟨rfl, rfl⟩

set_option maxHeartbeats 400000 in
theorem ringRoom_any (g gd N : Nat) (l : List UInt8) (w : World) (hw : RgAt w g gd N l) :
    Calls Try.prog 31 #[.pointer (some ⟨g, 0, none⟩)] w fun e w' => e = .returned (.int .i64 ((N : Int) - l.length)) ∧ ∃ n, w' = w.drewN n := by
  obtain ⟨D, s, h1, h2, h3, h4, h5⟩ := hw
  have d0 := h3.c0
  have d2 := h3.c2
  have hfit := h2.fits
  rw [h1] at hfit
  clear h1 h2 h3 h4
  generalize l.length = c at *
  go_enter Try.func31, Try.ntmps31
  go_wp2_with fail
  go_quiet (fail)
  go_wp2
  go_ret
  exact ⟨rfl, _, rfl⟩

set_option maxHeartbeats 400000 in
theorem ringClear_any (g gd N : Nat) (l : List UInt8) (w : World) (hw : RgAt w g gd N l) :
    Calls Try.prog 30 #[.pointer (some ⟨g, 0, none⟩)] w fun e w' => e = .returned (.int .i64 (l.length : Int)) ∧ RgAt w' g gd N [] ∧ Only [g] w w' := by
  obtain ⟨D, s, h1, h2, h3, h4, h5⟩ := hw
  have d2 := h3.c2
  have z2 := h3.z2
  have H2 := Lib.hid h2
  have H3 := Lib.hid h3
  have H4 := Lib.hid h4
  have H1 := Lib.hid h1
  have H5 := Lib.hid h5
  clear h1 h2 h3 h4 h5
  generalize l.length = c at *
  obtain ⟨W, hW⟩ : ∃ W, W = w.setCell ⟨g, 2, none⟩ (.int .i64 ((0 : Nat) : Int)) := ⟨_, rfl⟩
  have HR : Hid (RgIn W g gd N s 0) := by show RgIn _ _ _ _ _ _; rw [hW]; exact H3.out.set2 0
  have HD : Hid (RowIn W gd D) := by show RowIn _ _ _; rw [hW]; exact H4.out.set H3.out.ne _
  have HO : Hid (Only [g] w W) := by show Only _ _ _; rw [hW]; exact (Only.refl _ _).setCell (p := ⟨g, 2, none⟩) (by simp) _
  rw [show ((0 : Nat) : Int) = 0 from rfl] at hW
  go_enter Try.func30, Try.ntmps30
  go_wp2_with fail
  rw [← hW]
  clear hW
  go_wp2
  go_ret
  exact ⟨rfl, ⟨D, s, H1.out, Laid.nil H2.out.lt, HR.out, HD.out, H5.out⟩, HO.out⟩

set_option maxHeartbeats 400000 in
theorem place_any (g gd N s c n : Nat) (w : World) (hw : RgIn w g gd N s c) (hs : s < N) (hn : n ≤ N) (hN : N ≤ 4096) :
    Calls Try.prog 32 #[.pointer (some ⟨g, 0, none⟩), .int .i64 (n : Int)] w fun e w' => e = .returned (.int .i64 (wrapN N (s + n) : Nat)) ∧ ∃ n, w' = w.drewN n := by
  have d0 := hw.c0
  have d1 := hw.c1
  have HE : Hid (((s : Int) + (n : Int)) % (N : Int) = ((wrapN N (s + n) : Nat) : Int)) := by
    show _ = _
    rw [← wrapN_mod (by omega : s + n < 2 * N)]
    rfl
  clear hw
  go_enter Try.func32, Try.ntmps32
  go_wp2_with fail
  go_quiet (fail)
  go_wp2
  go_ret
  exact ⟨ret_int HE.out, _, rfl⟩

theorem RowIn.kept {w : World} {base gd n : Nat} {D : List UInt8} (h : RowIn w gd D) (hb : base ≤ gd) (hn : n = D.length) (hm : n ≤ 100000) : KeptAt w base (.slice (some ⟨gd, 0, none⟩) n n) D := by
  subst hn
  refine ⟨by simp, .inr ⟨gd, D.length, _, rfl, hb, h, Nat.le_refl _, by unfold maxLen; omega, by simp, ?_⟩⟩
  simp [List.take_of_length_le]

set_option maxHeartbeats 1600000 in
theorem ringFirst_any (g gd N n : Nat) (l : List UInt8) (w : World) (hw : RgAt w g gd N l) (hn : n ≤ l.length) :
    Calls Try.prog 33 #[.pointer (some ⟨g, 0, none⟩), .int .i64 (n : Int)] w fun e w' => ∃ v, e = .returned v ∧ KeptAt w' w.heap.size v (l.take n) ∧ Only [] w w' := by
  by_cases h0 : n = 0
  · subst h0
    go_enter Try.func33, Try.ntmps33
    go_wp2
    go_ret
    exact ⟨_, rfl, KeptAt.nil _ _, Only.refl _ _⟩
  obtain ⟨D, s, h1, h2, h3, h4, h5⟩ := hw
  have hfit := h2.fits
  have hlt := h2.lt
  rw [h1] at hfit hlt
  obtain ⟨u, hu⟩ : ∃ u, u = min n (N - s) := ⟨_, rfl⟩
  obtain ⟨X1, hX1⟩ : ∃ X1, X1 = (D.drop s).take u := ⟨_, rfl⟩
  obtain ⟨X2, hX2⟩ : ∃ X2, X2 = D.take (n - u) := ⟨_, rfl⟩
  have HE : Hid (splice (splice (List.replicate n 0) 0 X1) u X2 = l.take n) := by
    show _ = _
    rw [hX1, hX2]
    exact h2.first (Z := List.replicate n 0) (n := n) (u := u) hn (by simp) (by rw [h1]; exact hu)
  have HXL : Hid (X1.length = u ∧ X2.length = n - u) := by
    show _ ∧ _
    rw [hX1, hX2]
    simp
    omega
  have HX1 := Lib.hid hX1
  have HX2 := Lib.hid hX2
  clear hX1 hX2
  have HU : Hid (u = min n (N - s)) := hu
  have HUB : Hid (u ≤ n ∧ u ≤ N - s) := by show _ ∧ _; omega
  have H3 := Lib.hid h3
  have H4 := Lib.hid h4
  have H1 := Lib.hid h1
  have HN : Hid (n ≤ l.length ∧ l.length ≤ N ∧ N ≤ 4096 ∧ s < N) := ⟨hn, hfit, h5, hlt⟩
  have hn0 : 0 < n := by omega
  clear h1 h2 h3 h4 hu
  obtain ⟨c, hc⟩ : ∃ c, c = l.length := ⟨_, rfl⟩
  rw [← hc] at H3 hfit hn
  clear hc
  go_enter Try.func33, Try.ntmps33
  go_wp2_with (at_make; refine wpList_make_bytes rfl _ _ rfl n _ _ rfl rfl rfl rfl (by omega) ?_)
  intro w1 HD1 HO1 HS1
  have H31 := Lib.hid (H3.out.only HO1.out (by simp))
  have H41 := Lib.hid (H4.out.only HO1.out (by simp))
  obtain ⟨gc, hgc⟩ : ∃ gc, gc = w.heap.size := ⟨_, rfl⟩
  rw [← hgc] at HD1
  have HGC := Lib.hid hgc
  rw [← hgc]
  have HGN : Hid (gc ≠ g ∧ gc ≠ gd) := ⟨by have := H3.out.lt; have := HGC.out; omega, by have := H4.out.lt; have := HGC.out; omega⟩
  clear hgc
  have hd0 := H31.out.c0
  have hd1 := H31.out.c1
  go_wp2_with fail
  obtain ⟨F, hF⟩ : ∃ F : World → Prop, ∀ W, F W ↔ (W.cell? ⟨g, 0, none⟩ = some (.slice (some ⟨gd, 0, none⟩) N N) ∧ W.cell? ⟨g, 1, none⟩ = some (.int .i64 (s : Int))) := ⟨_, fun _ => Iff.rfl⟩
  have HF1 : Hid (F w1.drew) := (hF _).2 ⟨hd0, hd1⟩
  refine mix_start F (by kernel_rfl) ?_
  have hne : Nonempty (Held F) := ⟨⟨w1.drew, HF1.out⟩⟩
  have hx0 : ∀ p : Held F, p.w.cell? ⟨g, 0, none⟩ = some (.slice (some ⟨gd, 0, none⟩) N N) := fun p => ((hF _).1 p.h).1
  have hx1 : ∀ p : Held F, p.w.cell? ⟨g, 1, none⟩ = some (.int .i64 (s : Int)) := fun p => ((hF _).1 p.h).2
  have HFE := Lib.hid hF
  clear hF
  refine mix_seg [0, 1, 2, 3, 4, 5, 6, 7, 8, 9] (by kernel_rfl) HF1.out ?_
  simp only [segOf, pickOps, pickOp]
  repeat (go_big_quiet_step (fail))
  refine wpQuiet_nil ?_
  refine mix_run 10 (by kernel_rfl) ?_
  simp only [segOf, pickOps, pickOp]
  refine wpList_copy_bytes rfl (.tmp 11) (.tmp 20) rfl _ _ _ _ _ _ rfl rfl gc 0 (List.replicate n 0) HD1.out X1 ?d1 ?d2 ?d3 ?_
  case d1 => rw [HXL.out.1, HU.out]; exact Nat.min_comm _ _
  case d2 => exact fun _ => ⟨rfl, _, rfl, (show RowIn w1.drew gd D from H41.out).sub HX1.out⟩
  case d3 => have := HXL.out; have := HUB.out; simp; omega
  intro w2 HD2 HO2 HS2
  have HF2 : Hid (F w2) := (HFE.out _).2 ⟨(HO2.out.cell (p := ⟨g, 0, none⟩) (by have := H31.out.lt; exact this) (by have := HGN.out.1; simp; omega)).trans H31.out.c0, (HO2.out.cell (p := ⟨g, 1, none⟩) (by have := H31.out.lt; exact this) (by have := HGN.out.1; simp; omega)).trans H31.out.c1⟩
  rw [HXL.out.1]
  go_wp2_with fail
  refine MixPost.normal HF2.out ?_
  refine mix_seg [11] (by kernel_rfl) HF2.out ?_
  simp only [segOf, pickOps, pickOp]
  repeat (go_big_quiet_step (fail))
  refine wpQuiet_nil ?_
  refine mix_done (by kernel_rfl) ?_
  clear hx0 hx1 hne hd0 hd1
  have H32 := Lib.hid (H31.out.only HO2.out.of_drew (by have := HGN.out.1; simp; omega))
  have H42 := Lib.hid (H41.out.only HO2.out.of_drew (by have := HGN.out.2; simp; omega))
  have hd0 := H32.out.c0
  have hun : u = n ∨ u < n := by have := HUB.out; omega
  rcases hun with hun | hun
  case' inl =>
    have hun2 : n - u = 0 := by omega
    rw [hun] at HXL HU HUB HX1 HX2 HE ⊢
    clear hun hun2
  all_goals
    go_wp2_with fail
    obtain ⟨F, hF⟩ : ∃ F : World → Prop, ∀ W, F W ↔ W.cell? ⟨g, 0, none⟩ = some (.slice (some ⟨gd, 0, none⟩) N N) := ⟨_, fun _ => Iff.rfl⟩
    have HF2 : Hid (F w2.drew) := (hF _).2 hd0
    refine mix_start F (by kernel_rfl) ?_
    have hne : Nonempty (Held F) := ⟨⟨w2.drew, HF2.out⟩⟩
    have hx0 : ∀ p : Held F, p.w.cell? ⟨g, 0, none⟩ = some (.slice (some ⟨gd, 0, none⟩) N N) := fun p => (hF _).1 p.h
    have HFE := Lib.hid hF
    clear hF
    refine mix_seg [0, 1, 2, 3, 4, 5, 6] (by kernel_rfl) HF2.out ?_
    simp only [segOf, pickOps, pickOp]
    repeat (go_big_quiet_step (fail))
    refine wpQuiet_nil ?_
    refine mix_run 7 (by kernel_rfl) ?_
    simp only [segOf, pickOps, pickOp]
  case' inl => refine wpList_copy_bytes rfl (.tmp 24) (.tmp 28) rfl _ _ _ _ _ _ rfl rfl gc n (splice (List.replicate n 0) 0 X1) HD2.out X2 (by rw [HXL.out.2]; simp) (fun h => absurd h (by rw [HXL.out.2]; omega)) (by rw [length_splice _ _ _ (by have := HXL.out; simp; omega)]; have := HXL.out; simp; omega) ?_
  case' inr => refine wpList_copy_bytes rfl (.tmp 24) (.tmp 28) rfl _ _ _ _ _ _ rfl rfl gc u (splice (List.replicate n 0) 0 X1) HD2.out X2 (by rw [HXL.out.2]; refine (Nat.min_eq_right ?_).symm; have := HN.out; have := HUB.out; omega) (fun _ => ⟨rfl, _, rfl, (show RowIn w2.drew gd D from H42.out).sub (s := 0) (by simpa using HX2.out)⟩) (by rw [length_splice _ _ _ (by have := HXL.out; have := HUB.out; simp; omega)]; have := HXL.out; have := HUB.out; simp; omega) ?_
  all_goals
    intro w3 HD3 HO3 HS3
    have HF3 : Hid (F w3) := (HFE.out _).2 ((HO3.out.of_drew.cell (p := ⟨g, 0, none⟩) H32.out.lt (by have := HGN.out.1; simp; omega)).trans H32.out.c0)
    have HEL : Hid ((l.take n).length = n) := by show _ = _; have := HN.out; simp; omega
    have HK : Hid (KeptAt w3 w.heap.size (.slice (some ⟨gc, 0, none⟩) n n) (l.take n)) := by
      show KeptAt _ _ _ _
      have h1 := HD3.out
      rw [HE.out] at h1
      exact h1.kept (Nat.le_of_eq HGC.out.symm) HEL.out.symm (by have := HN.out; omega)
    have HO : Hid (Only [] w w3) := by
      show Only _ _ _
      have h1 : Only [gc] w w3 := ((HO1.out.mono (by simp)).trans (HO2.out.of_drew.trans HO3.out.of_drew))
      exact Only.next (Only.refl [] w) h1 (by have := HGC.out; simp; omega)
    clear HD3 HO3 HO2 HO1 HD2 HD1 HE HX1 HX2 HU
    go_wp2_with fail
    refine MixPost.normal HF3.out ?_
    refine mix_done (by kernel_rfl) ?_
    clear hx0 hne hd0
    go_wp2
    go_ret
    exact ⟨_, rfl, HK.out, HO.out⟩

/-- how many of l are taken: n, but no more than there are -/
def upto (n : Int) (l : List UInt8) : Nat := min n.toNat l.length
theorem upto_le (n : Int) (l : List UInt8) : upto n l ≤ l.length := Nat.min_le_right _ _

set_option maxHeartbeats 1200000 in
theorem ringTake_any (g gd N : Nat) (l : List UInt8) (n : Int) (w : World) (hw : RgAt w g gd N l) :
    Calls Try.prog 27 #[.pointer (some ⟨g, 0, none⟩), .int .i64 n] w fun e w' => ∃ v, e = .returned v ∧ KeptAt w' w.heap.size v (l.take (upto n l)) ∧ RgAt w' g gd N (l.drop (upto n l)) ∧ Only [g] w w' := by
  have hub := upto_le n l
  have hue : upto n l = min n.toNat l.length := rfl
  have hq := ringLen_any g gd N l w hw
  obtain ⟨k, hk⟩ : ∃ k, k = upto n l := ⟨_, rfl⟩
  rw [← hk] at hub hue ⊢
  by_cases hk0 : k = 0
  · subst hk0
    have HW : Hid (RgAt w g gd N (l.drop 0)) := hw
    have HLE := Lib.hid hq
    have hor : n < 1 ∨ (1 ≤ n ∧ l.length = 0) := by omega
    clear hq hk hub hue hw
    rcases hor with h1 | ⟨h1, h2⟩
    · generalize l.length = c at *
      go_enter Try.func27, Try.ntmps27
      go_wp2_with fail
      refine HLE.out.mono ?_
      rintro e w' ⟨rfl, rfl⟩
      go_wp2
      go_ret
      exact ⟨_, rfl, KeptAt.nil _ _, HW.out, Only.refl _ _⟩
    · rw [h2] at HLE
      clear h2
      have h3 : ¬ n ≤ 0 := by omega
      go_enter Try.func27, Try.ntmps27
      go_wp2_with fail
      refine HLE.out.mono ?_
      rintro e w' ⟨rfl, rfl⟩
      go_wp2
      go_ret
      exact ⟨_, rfl, KeptAt.nil _ _, HW.out, Only.refl _ _⟩
  have hf := ringFirst_any g gd N k l w hw hub
  obtain ⟨D, s, i1, i2, i3, i4, i5⟩ := hw
  have hfit := i2.fits
  have hlt := i2.lt
  rw [i1] at hfit hlt
  have HL : Hid (Laid D (wrapN N (s + k)) (l.drop k)) := by
    have h := i2.drop hub
    rw [i1] at h
    exact h
  have HDL : Hid ((l.drop k).length = l.length - k) := by show _ = _; simp
  have HFI := Lib.hid hf
  have HLE := Lib.hid hq
  have H1 := Lib.hid i1
  have H3 := Lib.hid i3
  have H4 := Lib.hid i4
  have H5 := Lib.hid i5
  clear hq hf hk i1 i2 i3 i4 i5
  obtain ⟨c, hc⟩ : ∃ c, c = l.length := ⟨_, rfl⟩
  rw [← hc] at HLE H3 hfit hub hue HDL
  clear hc
  have hcase : (n ≤ (c : Int) ∧ (k : Int) = n) ∨ (¬ n ≤ (c : Int) ∧ k = c) := by omega
  clear hue
  have HUB : Hid (k ≤ c) := hub
  have HS : Hid (s < N ∧ c ≤ N) := ⟨hlt, hfit⟩
  clear hub hlt hfit
  have tail : ∀ (w1 : World) (v : Value), KeptAt w1 w.heap.size v (l.take k) → Only [] w w1 → ∀ q, ∃ W3, W3 = (((w1.drewN q).setCell ⟨g, 1, none⟩ (.int .i64 ((wrapN N (s + k) : Nat) : Int))).setCell ⟨g, 2, none⟩ (.int .i64 ((c : Int) - k))) ∧ KeptAt W3 w.heap.size v (l.take k) ∧ RgAt W3 g gd N (l.drop k) ∧ Only [g] w W3 ∧ RgIn (w1.drewN q) g gd N s c := by
    intro w1 v hk ho q
    have o3 : Only [g] w (((w1.drewN q).setCell ⟨g, 1, none⟩ (.int .i64 ((wrapN N (s + k) : Nat) : Int))).setCell ⟨g, 2, none⟩ (.int .i64 ((c : Int) - k))) := (((ho.drewN q).mono (by simp)).setCell (p := ⟨g, 1, none⟩) (by simp) _).setCell (p := ⟨g, 2, none⟩) (by simp) _
    have o2 : Only [g] w1 (((w1.drewN q).setCell ⟨g, 1, none⟩ (.int .i64 ((wrapN N (s + k) : Nat) : Int))).setCell ⟨g, 2, none⟩ (.int .i64 ((c : Int) - k))) := ((((Only.refl [] w1).drewN q).mono (by simp)).setCell (p := ⟨g, 1, none⟩) (by simp) _).setCell (p := ⟨g, 2, none⟩) (by simp) _
    refine ⟨_, rfl, hk.only o2 ?_, ⟨D, wrapN N (s + k), H1.out, HL.out, ?_, ?_, H5.out⟩, o3, H3.out.only (ho.drewN q) (by simp)⟩
    · intro x hx
      have := (hk.own hx).1
      have := H3.out.lt
      simp; omega
    · rw [HDL.out, show ((c : Int) - (k : Int)) = ((c - k : Nat) : Int) by have := HUB.out; omega]
      exact ((H3.out.only (ho.drewN q) (by simp)).set1 _).set2 _
    · exact ((H4.out.only (ho.drewN q) (by simp)).set H3.out.ne _).set H3.out.ne _
  have HT := Lib.hid tail
  clear tail
  rcases hcase with ⟨h2, h3⟩ | ⟨h2, h3⟩
  case' inl =>
    subst h3
    go_enter Try.func27, Try.ntmps27
    go_wp2_with fail
    refine HLE.out.mono ?_
    rintro e w' ⟨rfl, rfl⟩
    go_wp2_with fail
  case' inr =>
    subst h3
    go_enter Try.func27, Try.ntmps27
    go_wp2_with fail
    refine HLE.out.mono ?_
    rintro e w' ⟨rfl, rfl⟩
    have h3 : ¬ (k : Int) < 1 := by omega
    go_wp2_with fail
  all_goals
    clear h2
    refine HFI.out.mono ?_
    rintro e w1 ⟨v, rfl, hk, ho⟩
    have HK1 := Lib.hid hk
    have HO1 := Lib.hid ho
    have H31 := Lib.hid (H3.out.only ho (by simp))
    clear hk ho
    go_wp2_with fail
    refine (place_any g gd N s _ k w1 H31.out HS.out.1 (by have := HS.out.2; have := HUB.out; omega) H5.out).mono ?_
    rintro e w2 ⟨rfl, q, hq⟩
    obtain ⟨W3, hW3, t1, t2, t3, t4⟩ := HT.out w1 v HK1.out HO1.out q
    rw [← hq] at hW3 t4
    have H32 := Lib.hid t4
    clear t4
    have T1 := Lib.hid t1
    have T2 := Lib.hid t2
    have T3 := Lib.hid t3
    have hd1 := H32.out.c1
    have hd2 := H32.out.c2
    have hz1 := H32.out.z1
    have hz2 := H32.out.z2
    clear t1 t2 t3 hq HT H31 H3 H4
    try rw [Int.sub_self] at hW3
    have hb1 := HUB.out
    have hb2 := HS.out.2
    have hb3 := H5.out
    go_wp2_with fail
    rw [← hW3]
    go_ret
    exact ⟨_, rfl, T1.out, T2.out, T3.out⟩
end Go.Proofs.Ytaadffheadimpaa
