/-
  The contract of the document's own Read over this seat's program. Conditions: those of each statement.
-/
import Derived.Test.YtaadffheadimpaaSRef
namespace Go.Proofs.Ytaadffheadimpaa
open Go.RowKit

theorem KeptAt.shape {w : World} {base : Nat} {v : Value} {l : List UInt8} (h : KeptAt w base v l) : (v = .slice none 0 0 ∧ l = []) ∨ ∃ g cap, v = .slice (some ⟨g, 0, none⟩) l.length cap ∧ base ≤ g ∧ l.length ≤ cap ∧ cap ≤ maxLen ∧ ∀ j (hj : j < l.length), w.cell? ⟨g, j, none⟩ = some (bv l[j]) := by
  rcases h.2 with ⟨h1, h2⟩ | ⟨g, cap, cur, e1, e2, e3, e4, e5, _⟩
  · exact .inl ⟨h1, List.length_eq_zero_iff.1 h2⟩
  · refine .inr ⟨g, cap, e1, e2, e4, e5, fun j hj => ?_⟩
    have := h.cells (g := g) (by rw [e1]; rfl) j (bv l[j]) (by simp [hj])
    rwa [add_at] at this

set_option maxHeartbeats 1600000 in
theorem msRead_none (g H L st : Nat) (p : Bool) (n : Int) (w : World) (hv : MsIn w g H L st p (.slice none 0 0) []) :
    Calls Try.prog 14 #[.pointer (some ⟨g, 0, none⟩), .int .i64 n] w fun e w' => ∃ v, e = .returned v ∧ KeptAt w' w.heap.size v [] ∧ (∃ v', MsIn w' g H L st false v' []) ∧ Only [g] w w' := by
  obtain ⟨W, hW⟩ : ∃ W, W = w.setCell ⟨g, 3, none⟩ (.slice none 0 0) := ⟨_, rfl⟩
  have HH : Hid (MsIn W g H L st p (.slice none 0 0) []) := by show MsIn _ _ _ _ _ _ _ _; rw [hW]; exact hv.set3 (Only.refl _ _) (KeptAt.nil _ _)
  have HO : Hid (Only [g] w W) := by show Only _ _ _; rw [hW]; exact (Only.refl _ _).setCell (p := ⟨g, 3, none⟩) (by simp) _
  have hd3 := hv.c3
  have hz3 := hv.z3
  obtain ⟨F, hF⟩ : ∃ F : World → Prop, ∀ W, F W ↔ MsIn W g H L st p (.slice none 0 0) [] := ⟨_, fun _ => Iff.rfl⟩
  have HF : Hid (F W.drew) := (hF _).2 (HH.out.only ((Only.refl [] _).drew) (by simp))
  have hx1 : ∀ p : Held F, p.w.cell? ⟨g, 1, none⟩ = some (.int .i64 (L : Int)) := fun p => ((hF _).1 p.h).c1
  have hx3 : ∀ p : Held F, p.w.cell? ⟨g, 3, none⟩ = some (.slice none 0 0) := fun p => ((hF _).1 p.h).c3
  have HFE := Lib.hid hF
  clear hv hF
  obtain ⟨W2, hW2⟩ : ∃ W2, W2 = (W.setCell ⟨g, 4, none⟩ (.bool false)).drew := ⟨_, rfl⟩
  have HI2 : Hid (MsIn W2 g H L st false (.slice none 0 0) []) := by show MsIn _ _ _ _ _ _ _ _; rw [hW2]; exact (HH.out.set4 _).only ((Only.refl [] _).drew) (by simp)
  have HO2 : Hid (Only [g] w W2) := by show Only _ _ _; rw [hW2]; exact (HO.out.setCell (p := ⟨g, 4, none⟩) (by simp) _).drew
  have hcase : n < 0 ∨ n = 0 ∨ (¬ n < 0 ∧ ¬ n ≤ 0) := by omega
  rcases hcase with h1 | h1 | ⟨h1, h2⟩
  case' inr.inl => subst h1
  all_goals
    go_enter Try.func14, Try.ntmps14
    go_wp2_with fail
    rw [← hW]
    clear hW hd3 hz3
    refine mix_start F (by kernel_rfl) ?_
    have hne : Nonempty (Held F) := ⟨⟨W.drew, HF.out⟩⟩
    refine mix_seg [0, 1, 2, 3, 4, 5, 6, 7, 8, 9] (by kernel_rfl) HF.out ?_
    simp only [segOf, pickOps, pickOp]
    repeat (go_big_quiet_step (fail))
    refine wpQuiet_nil ?_
    refine mix_done (by kernel_rfl) ?_
    clear hx1 hx3 hne
    have d4 := HH.out.c4
    have z4 := HH.out.z4
    go_wp2_with fail
    rw [← hW2]
    clear hW2 d4 z4
    go_ret
    exact ⟨_, rfl, KeptAt.nil _ _, ⟨_, HI2.out⟩, HO2.out⟩

set_option maxHeartbeats 3200000 in
theorem msRead_some (g H L st : Nat) (p : Bool) (gx cap k : Nat) (l : List UInt8) (n : Int) (w : World) (hv : MsIn w g H L st p (.slice (some ⟨gx, 0, none⟩) l.length cap) l) (hfit : l.length ≤ 1087) (hc1 : l.length ≤ cap) (hc2 : cap ≤ maxLen) (hc4 : ∀ j (hj : j < l.length), w.cell? ⟨gx, j, none⟩ = some (bv l[j])) (hk : k = upto n l) :
    Calls Try.prog 14 #[.pointer (some ⟨g, 0, none⟩), .int .i64 n] w fun e w' => ∃ v, e = .returned v ∧ KeptAt w' w.heap.size v (l.take k) ∧ (∃ v', MsIn w' g H L st (if (l.drop k).length ≤ L then false else p) v' (l.drop k)) ∧ Only [g] w w' := by
  have hub := upto_le n l
  have hue : upto n l = min n.toNat l.length := rfl
  rw [← hk] at hub hue
  unfold maxLen at hc2
  have HV := Lib.hid hv
  have hd1 := hv.c3
  have hz1 := hv.z3
  have HTL : Hid ((l.take k).length = k ∧ (l.drop k).length = l.length - k) := by show _ ∧ _; rw [List.length_take, List.length_drop]; omega
  have HSM := Lib.hid hfit
  have HLT := Lib.hid hv.lt
  obtain ⟨X1, hX1⟩ : ∃ X1, X1 = l.take k := ⟨_, rfl⟩
  obtain ⟨X2, hX2⟩ : ∃ X2, X2 = l.drop k := ⟨_, rfl⟩
  have HS1 : Hid (∀ j (hj : j < X1.length), ∃ ad, (some ⟨gx, 0, none⟩ : Option Addr) = some ad ∧ w.cell? (ad.add j) = some (bv X1[j])) := by
    show ∀ j hj, _
    subst hX1
    intro j hj
    refine ⟨_, rfl, ?_⟩
    rw [add_at, hc4 j (by simp at hj; omega)]
    simp
  have HS2 : Hid (∀ B : Addr, (B = ⟨gx, k, none⟩ ∨ (B = ⟨gx, 0, none⟩ ∧ (k = 0 ∨ cap = k))) → ∀ j (hj : j < X2.length), w.cell? (B.add j) = some (bv X2[j])) := by
    show ∀ B, _
    subst hX2
    intro B hB j hj
    have hj2 : k + j < l.length := by simp at hj; omega
    have e : w.cell? ⟨gx, k + j, none⟩ = some (bv (l.drop k)[j]) := by rw [hc4 (k + j) hj2]; simp
    rcases hB with rfl | ⟨rfl, h | h⟩
    · have e2 : (⟨gx, k, none⟩ : Addr).add j = ⟨gx, k + j, none⟩ := by unfold Addr.add; split <;> simp_all
      rw [e2]; exact e
    · subst h; rw [add_at]; simp only [Nat.zero_add] at e; exact e
    · omega
  have HS3 : Hid (∀ w1 : World, Only [] w w1 → ∀ B : Addr, (B = ⟨gx, k, none⟩ ∨ (B = ⟨gx, 0, none⟩ ∧ (k = 0 ∨ cap = k))) → ∀ j (hj : j < X2.length), ∃ ad, (some B : Option Addr) = some ad ∧ w1.cell? (ad.add j) = some (bv X2[j])) := by
    show ∀ w1, _
    intro w1 ho B hB j hj
    have e := HS2.out B hB j hj
    exact ⟨B, rfl, (ho.cell (p := B.add j) (block_of_cell e) (by simp)).trans e⟩
  clear HS2
  rw [← hX1, ← hX2] at HTL ⊢
  obtain ⟨q, hq⟩ : ∃ q, q = if X2.length ≤ L then false else p := ⟨_, rfl⟩
  have HQ := Lib.hid hq
  rw [← hq]
  clear hq
  obtain ⟨c, hc⟩ : ∃ c, c = l.length := ⟨_, rfl⟩
  rw [← hc] at hue hub hc1 hd1 HTL HSM HV hfit
  have hcase : (n < 0 ∧ k = 0) ∨ (¬ n < 0 ∧ n ≤ (c : Int) ∧ n = (k : Int)) ∨ (¬ n < 0 ∧ ¬ n ≤ (c : Int) ∧ k = c) := by omega
  have hcap : cap = k ∨ ¬ cap = k := by omega
  clear hX1 hX2 hc4 hv hk hue hc hfit
  rcases hcase with ⟨h1, h2⟩ | ⟨h1, h2, h3⟩ | ⟨h1, h2, h3⟩ <;> rcases hcap with h4 | h4
  case' inl.inl => subst h2; subst h4
  case' inl.inr => subst h2
  case' inr.inl.inl => subst h3; subst h4
  case' inr.inl.inr => subst h3
  case' inr.inr.inl => subst h3; subst h4
  case' inr.inr.inr => subst h3
  all_goals
    go_enter Try.func14, Try.ntmps14
    go_wp2_with (at_builtin; refine wpList_append_bytes rfl (.const (.slice none 0 0)) (.tmp 20) rfl w.heap.size _ [] rfl (KeptAt.nil _ _) (some ⟨gx, 0, none⟩) _ _ X1 rfl (by have := HTL.out.1; omega) (fun e => by cases e) HS1.out (by have := HTL.out; have := HSM.out; simp; omega) (Nat.le_refl _) ?_)
  all_goals
    intro v1 w1 HK1 HO1 hv1
    have HO1' : Hid (Only [] w w1) := HO1.out
    have HV1 := Lib.hid (HV.out.only HO1'.out (by simp))
    have hd1 := HV1.out.c3
    have hz1 := HV1.out.z3
    clear hv1 HO1
    obtain ⟨A1, cap1, hv1, _, _⟩ := HK1.out.slice
    have HE1 := Lib.hid hv1
    clear hv1
    go_wp2_with (at_builtin; refine wpList_append_bytes rfl (.const (.slice none 0 0)) (.tmp 28) rfl (g + 1) _ [] rfl (KeptAt.nil _ _) (some _) _ _ X2 rfl (by have := HTL.out.2; omega) (fun e => by cases e) (by first | exact HS3.out w1 HO1'.out _ (.inl rfl) | exact HS3.out w1 HO1'.out _ (.inr ⟨rfl, .inl rfl⟩) | exact HS3.out w1 HO1'.out _ (.inr ⟨rfl, .inr rfl⟩)) (by have := HTL.out; have := HSM.out; simp; omega) (by have := HV1.out.lt; omega) ?_)
  all_goals first
    | (intro v2 w2 HK2 HO2 hv2
       have HO2' : Hid (Only [] w1 w2) := HO2.out
       obtain ⟨A2, cap2, hs2, _, _⟩ := HK2.out.slice
       subst hs2
       obtain ⟨W3, hW3⟩ : ∃ W3, W3 = w2.setCell ⟨g, 3, none⟩ (.slice A2 X2.length cap2) := ⟨_, rfl⟩
       have HB3 : Hid (MsIn W3 g H L st p (.slice A2 X2.length cap2) X2) := by show MsIn _ _ _ _ _ _ _ _; rw [hW3]; exact HV1.out.set3 HO2'.out HK2.out
       have HO3 : Hid (Only [g] w W3) := by show Only _ _ _; rw [hW3]; exact ((HO1'.out.trans HO2'.out).mono (by simp)).setCell (p := ⟨g, 3, none⟩) (by simp) _
       have HKR : Hid (KeptAt W3 w.heap.size v1 X1) := by
         show KeptAt _ _ _ _
         rw [hW3]
         exact HK1.out.only ((HO2'.out.mono (by simp)).setCell (s := [g]) (p := ⟨g, 3, none⟩) (by simp) _) (fun x hx => by have := (HK1.out.own hx).1; have := HLT.out; simp; omega)
       have HV2 := Lib.hid (HV1.out.only HO2'.out (by simp))
       have hd1 := HV2.out.c3
       have hz1 := HV2.out.z3
       clear hv2 HO2
       go_wp2_with fail
       rw [← hW3]
       clear hW3)
    | (obtain ⟨W3, hW3⟩ : ∃ W3, W3 = w1.setCell ⟨g, 3, none⟩ (.slice none 0 0) := ⟨_, rfl⟩
       have hX2 : X2 = [] := List.length_eq_zero_iff.1 (by have := HTL.out.2; omega)
       obtain ⟨A2, hA2⟩ : ∃ A2 : Option Addr, A2 = none := ⟨_, rfl⟩
       obtain ⟨cap2, hcap2⟩ : ∃ cap2 : Nat, cap2 = 0 := ⟨_, rfl⟩
       have HB3 : Hid (MsIn W3 g H L st p (.slice A2 X2.length cap2) X2) := by show MsIn _ _ _ _ _ _ _ _; rw [hW3, hX2, hA2, hcap2]; exact HV1.out.set3 (Only.refl _ _) (KeptAt.nil _ _)
       have HO3 : Hid (Only [g] w W3) := by show Only _ _ _; rw [hW3]; exact (HO1'.out.mono (by simp)).setCell (p := ⟨g, 3, none⟩) (by simp) _
       have HKR : Hid (KeptAt W3 w.heap.size v1 X1) := by
         show KeptAt _ _ _ _
         rw [hW3]
         exact HK1.out.only (((Only.refl _ _)).setCell (s := [g]) (p := ⟨g, 3, none⟩) (by simp) _) (fun x hx => by have := (HK1.out.own hx).1; have := HLT.out; simp; omega)
       clear hA2 hcap2 hX2
       rw [← hW3]
       clear hW3)
  all_goals
    obtain ⟨c2, hc2x⟩ : ∃ c2, c2 = X2.length := ⟨_, rfl⟩
    have hq := HQ.out
    rw [← hc2x] at HB3 hq
    have hc2b : c2 ≤ 1087 := by rw [hc2x, HTL.out.2]; have := HSM.out; omega
    have HC2 := Lib.hid hc2x
    clear hc2x hd1 hz1
    obtain ⟨F, hF⟩ : ∃ F : World → Prop, ∀ W, F W ↔ MsIn W g H L st p (.slice A2 c2 cap2) X2 := ⟨_, fun _ => Iff.rfl⟩
    have HB4 := Lib.hid (HB3.out.only ((Only.refl [] W3).drew) (by simp))
    have HF : Hid (F W3.drew) := (hF _).2 HB4.out
    have hx1 : ∀ p : Held F, p.w.cell? ⟨g, 1, none⟩ = some (.int .i64 (L : Int)) := fun p => ((hF _).1 p.h).c1
    have hx3 : ∀ p : Held F, p.w.cell? ⟨g, 3, none⟩ = some (.slice A2 c2 cap2) := fun p => ((hF _).1 p.h).c3
    clear hF
    refine mix_start F (by kernel_rfl) ?_
    have hne : Nonempty (Held F) := ⟨⟨W3.drew, HF.out⟩⟩
    refine mix_seg [0, 1, 2, 3, 4, 5, 6, 7, 8, 9] (by kernel_rfl) HF.out ?_
    simp only [segOf, pickOps, pickOp]
    repeat (go_big_quiet_step (fail))
    refine wpQuiet_nil ?_
    refine mix_done (by kernel_rfl) ?_
    clear hx1 hx3 hne HF
    obtain ⟨W5, hW5⟩ : ∃ W5, W5 = (W3.setCell ⟨g, 4, none⟩ (.bool false)).drew := ⟨_, rfl⟩
    have HB5 : Hid (MsIn W5 g H L st false (.slice A2 c2 cap2) X2) := by show MsIn _ _ _ _ _ _ _ _; rw [hW5]; exact (HB3.out.set4 _).only ((Only.refl [] _).drew) (by simp)
    have HO5 : Hid (Only [g] w W5) := by show Only _ _ _; rw [hW5]; exact (HO3.out.setCell (p := ⟨g, 4, none⟩) (by simp) _).drew
    have HKR5 : Hid (KeptAt W5 w.heap.size v1 X1) := by
      show KeptAt _ _ _ _
      rw [hW5]
      exact HKR.out.only ((((Only.refl _ _)).setCell (s := [g]) (p := ⟨g, 4, none⟩) (by simp) _).drew) (fun x hx => by have := (HK1.out.own hx).1; have := HLT.out; simp; omega)
    by_cases hle : c2 ≤ L
    · rw [if_pos hle] at hq
      subst hq
      have d4 := HB3.out.c4
      have z4 := HB3.out.z4
      go_wp2_with fail
      rw [← hW5]
      clear hW5 d4 z4
      go_ret
      exact ⟨_, rfl, HKR5.out, ⟨_, HB5.out⟩, HO5.out⟩
    · rw [if_neg hle] at hq
      subst hq
      clear hW5
      go_wp2_with fail
      go_ret
      exact ⟨_, rfl, HKR.out.old ((Only.refl [] _).drew), ⟨_, HB4.out⟩, HO3.out.drew⟩

theorem msRead_any (g H L : Nat) (s : Sv) (n : Int) (w : World) (hw : MsAt w g H L s) :
    Calls Try.prog 14 #[.pointer (some ⟨g, 0, none⟩), .int .i64 n] w fun e w' => ∃ v, e = .returned v ∧ KeptAt w' w.heap.size v (s.l.take (upto n s.l)) ∧ MsAt w' g H L (readS L s n) ∧ Only [g] w w' := by
  obtain ⟨v, hv⟩ := hw.i
  have hok := hw.ok.read n
  have hfit := hw.ok.fits
  have hH := hw.ok.h2
  clear hw
  obtain ⟨st, p, l⟩ := s
  simp only at hv hfit
  unfold readS at *
  simp only at hok ⊢
  rcases hv.row.shape with ⟨rfl, rfl⟩ | ⟨gx, cap, rfl, _, h1, h2, h3⟩
  · refine (msRead_none g H L st p n w hv).mono ?_
    rintro e w' ⟨v, rfl, hk, hm, ho⟩
    refine ⟨v, rfl, by simpa using hk, ⟨?_, hok⟩, ho⟩
    simpa using hm
  · refine (msRead_some g H L st p gx cap _ l n w hv (by omega) h1 h2 h3 rfl).mono ?_
    rintro e w' ⟨v, rfl, hk, hm, ho⟩
    exact ⟨v, rfl, hk, ⟨hm, hok⟩, ho⟩
end Go.Proofs.Ytaadffheadimpaa
