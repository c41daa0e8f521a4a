/-
  The document's own ring in memory, and the contracts of its New, Put, Take, Clear over this seat's program. Conditions: those of each statement.
-/
import Derived.Test.YtbafbcemffhjbaaRPut
namespace Go.Proofs.Ytbafbcemffhjbaa
open Go.RowKit

/-- at block g lies the document's own ring: its size, its bytes, told by v -/
structure BfIn (w : World) (g m : Nat) (v : Value) (l : List UInt8) : Prop where
  c0 : w.cell? ⟨g, 0, none⟩ = some (.int .i64 (m : Int))
  c1 : w.cell? ⟨g, 1, none⟩ = some v
  z1 : w.frozen? ⟨g, 1, none⟩ = false
  row : KeptAt w (g + 1) v l
  fits : l.length ≤ m
  most : m ≤ 4096
def BfAt (w : World) (g m : Nat) (l : List UInt8) : Prop := ∃ v, BfIn w g m v l
theorem BfIn.lt {w : World} {g m : Nat} {v : Value} {l : List UInt8} (h : BfIn w g m v l) : g < w.heap.size := block_of_cell (a := ⟨g, 0, none⟩) h.c0
theorem BfAt.lt {w : World} {g m : Nat} {l : List UInt8} (h : BfAt w g m l) : g < w.heap.size := h.choose_spec.lt
theorem BfIn.only {f : List Nat} {w w' : World} {g m : Nat} {v : Value} {l : List UInt8} (h : BfIn w g m v l) (o : Only f w w') (hf : ∀ x ∈ f, x < g) : BfIn w' g m v l := by
  have hg : g ∉ f := fun hm => by have := hf g hm; omega
  refine ⟨(o.cell (p := ⟨g, 0, none⟩) h.lt hg).trans h.c0, (o.cell (p := ⟨g, 1, none⟩) h.lt hg).trans h.c1, (o.frozen (p := ⟨g, 1, none⟩) h.lt hg).trans h.z1, h.row.only o (fun x hx hm => ?_), h.fits, h.most⟩
  have := (h.row.own hx).1
  have := hf x hm
  omega
theorem BfAt.only {f : List Nat} {w w' : World} {g m : Nat} {l : List UInt8} (h : BfAt w g m l) (o : Only f w w') (hf : ∀ x ∈ f, x < g) : BfAt w' g m l := by
  obtain ⟨v, h⟩ := h
  exact ⟨v, h.only o hf⟩
theorem BfAt.old {w w' : World} {g m : Nat} {l : List UInt8} (h : BfAt w g m l) (o : Only [] w w') : BfAt w' g m l := h.only o (by simp)
/-- another row is laid in -/
theorem BfIn.set {w w' : World} {g m : Nat} {v v' : Value} {l l' : List UInt8} (h : BfIn w g m v l) (o : Only [] w w') (hk : KeptAt w' (g + 1) v' l') (hf : l'.length ≤ m) : BfIn (w'.setCell ⟨g, 1, none⟩ v') g m v' l' := by
  have h' := h.only o (by simp)
  exact ⟨by rw [World.cell?_setCell_other _ _ _ _ (by simp)]; exact h'.c0, World.cell?_setCell_same _ _ _ h'.c1, by rw [World.frozen?_setCell]; exact h'.z1, ownsRow_setCell_below hk (a := ⟨g, 1, none⟩) (by simp) _, hf, h.most⟩

set_option maxHeartbeats 800000 in
theorem bfNew_any (n : Int) (w : World) :
    Calls Try.prog 8 #[.int .i64 n] w fun e w' => e = .returned (.pointer (some ⟨w.heap.size, 0, none⟩)) ∧ BfAt w' w.heap.size (clampR n) [] ∧ Only [] w w' := by
  obtain ⟨m, hm⟩ : ∃ m, m = clampR n := ⟨_, rfl⟩
  have hb := clampR_bd n
  rw [← hm] at hb ⊢
  unfold clampR at hm
  obtain ⟨M, hM⟩ : ∃ M : Int, M = (m : Int) := ⟨_, rfl⟩
  obtain ⟨W, hW⟩ : ∃ W, W = w.alloc (.cells #[.int .i64 M, .slice none 0 0] 37) := ⟨_, rfl⟩
  have HH : Hid (BfIn W w.heap.size m (.slice none 0 0) []) := by show BfIn _ _ _ _ _; rw [hW, hM]; exact ⟨by simp, by simp, by simp, KeptAt.nil _ _, by simp, hb.2⟩
  have HO : Hid (Only [] w W) := by show Only _ _ _; rw [hW]; exact (Only.refl _ _).alloc _
  have hcase : (n < 1 ∧ M = 1) ∨ (4096 < n ∧ M = 4096) ∨ (¬ n < 1 ∧ ¬ 4096 < n ∧ M = n) := by
    split at hm
    · exact .inl ⟨by omega, by omega⟩
    · split at hm
      · exact .inr (.inl ⟨by omega, by omega⟩)
      · exact .inr (.inr ⟨by omega, by omega, by omega⟩)
  clear hm hM hb
  rcases hcase with ⟨h1, hm⟩ | ⟨h1, hm⟩ | ⟨h1, h2, hm⟩
  case' inr.inl =>
    have h2 : ¬ n < 1 := by omega
    have h3 : ¬ n ≤ 4096 := by omega
  case' inr.inr =>
    have h3 : n ≤ 4096 := by omega
  all_goals
    subst hm
    go_enter Try.func8, Try.ntmps8
    go_wp2_with fail
    rw [← hW]
    clear hW
    go_wp2
    go_ret
    exact ⟨rfl, ⟨_, HH.out⟩, HO.out⟩

set_option maxHeartbeats 400000 in
theorem bfClear_any (g m : Nat) (l : List UInt8) (w : World) (hw : BfAt w g m l) :
    Calls Try.prog 15 #[.pointer (some ⟨g, 0, none⟩)] w fun e w' => e = .returned (.int .i64 (l.length : Int)) ∧ BfAt w' g m [] ∧ Only [g] w w' := by
  obtain ⟨v, hv⟩ := hw
  obtain ⟨A, cap, e, _, _⟩ := hv.row.slice
  obtain ⟨W, hW⟩ : ∃ W, W = w.setCell ⟨g, 1, none⟩ (.slice none 0 0) := ⟨_, rfl⟩
  have HH : Hid (BfIn W g m (.slice none 0 0) []) := by show BfIn _ _ _ _ _; rw [hW]; exact hv.set (Only.refl _ _) (KeptAt.nil _ _) (by simp)
  have HO : Hid (Only [g] w W) := by show Only _ _ _; rw [hW]; exact (Only.refl _ _).setCell (p := ⟨g, 1, none⟩) (by simp) _
  have hd1 := hv.c1
  have hz1 := hv.z1
  rw [e] at hd1
  clear hv e
  generalize l.length = c at *
  go_enter Try.func15, Try.ntmps15
  go_wp2_with fail
  rw [← hW]
  clear hW
  go_wp2
  go_ret
  exact ⟨rfl, ⟨_, HH.out⟩, HO.out⟩

theorem KeptAt.form {w : World} {base : Nat} {v : Value} {l : List UInt8} (h : KeptAt w base v l) : (v = .slice none 0 0 ∧ l = []) ∨ ∃ g cap, v = .slice (some ⟨g, 0, none⟩) l.length cap ∧ base ≤ g ∧ l.length ≤ cap ∧ cap ≤ maxLen ∧ ∀ j (hj : j < l.length), w.cell? ⟨g, j, none⟩ = some (bv l[j]) := by
  rcases h.2 with ⟨h1, h2⟩ | ⟨g, cap, cur, e1, e2, e3, e4, e5, _⟩
  · exact .inl ⟨h1, List.length_eq_zero_iff.1 h2⟩
  · refine .inr ⟨g, cap, e1, e2, e4, e5, fun j hj => ?_⟩
    have := h.cells (g := g) (by rw [e1]; rfl) j (bv l[j]) (by simp [hj])
    rwa [add_at] at this

set_option maxHeartbeats 1600000 in
theorem bfTake_none (g m : Nat) (n : Int) (w : World) (hv : BfIn w g m (.slice none 0 0) []) :
    Calls Try.prog 13 #[.pointer (some ⟨g, 0, none⟩), .int .i64 n] w fun e w' => ∃ v, e = .returned v ∧ KeptAt w' w.heap.size v [] ∧ BfAt w' g m [] ∧ Only [g] w w' := by
  obtain ⟨W, hW⟩ : ∃ W, W = w.setCell ⟨g, 1, none⟩ (.slice none 0 0) := ⟨_, rfl⟩
  have HH : Hid (BfIn W g m (.slice none 0 0) []) := by show BfIn _ _ _ _ _; rw [hW]; exact hv.set (Only.refl _ _) (KeptAt.nil _ _) (by simp)
  have HO : Hid (Only [g] w W) := by show Only _ _ _; rw [hW]; exact (Only.refl _ _).setCell (p := ⟨g, 1, none⟩) (by simp) _
  have hd1 := hv.c1
  have hz1 := hv.z1
  clear hv
  have hcase : n < 0 ∨ n = 0 ∨ (¬ n < 0 ∧ ¬ n ≤ 0) := by omega
  rcases hcase with h1 | h1 | ⟨h1, h2⟩
  case' inr.inl => subst h1
  all_goals
    go_enter Try.func13, Try.ntmps13
    go_wp2_with fail
    rw [← hW]
    go_ret
    exact ⟨_, rfl, KeptAt.nil _ _, ⟨_, HH.out⟩, HO.out⟩

set_option maxHeartbeats 3200000 in
theorem bfTake_some (g m gx cap k : Nat) (l : List UInt8) (n : Int) (w : World) (hv : BfIn w g m (.slice (some ⟨gx, 0, none⟩) l.length cap) l) (hc1 : l.length ≤ cap) (hc2 : cap ≤ maxLen) (hc4 : ∀ j (hj : j < l.length), w.cell? ⟨gx, j, none⟩ = some (bv l[j])) (hk : k = upto n l) :
    Calls Try.prog 13 #[.pointer (some ⟨g, 0, none⟩), .int .i64 n] w fun e w' => ∃ v, e = .returned v ∧ KeptAt w' w.heap.size v (l.take k) ∧ BfAt w' g m (l.drop k) ∧ Only [g] w w' := by
  have hub := upto_le n l
  have hue : upto n l = min n.toNat l.length := rfl
  rw [← hk] at hub hue
  unfold maxLen at hc2
  have HV := Lib.hid hv
  have hd1 := hv.c1
  have hz1 := hv.z1
  have HTL : Hid ((l.take k).length = k ∧ (l.drop k).length = l.length - k) := by show _ ∧ _; rw [List.length_take, List.length_drop]; omega
  have HSM := Lib.hid (show l.length ≤ 4096 from Nat.le_trans hv.fits hv.most)
  have HLM := Lib.hid hv.fits
  have HLT := Lib.hid hv.lt
  obtain ⟨X1, hX1⟩ : ∃ X1, X1 = l.take k := ⟨_, rfl⟩
  obtain ⟨X2, hX2⟩ : ∃ X2, X2 = l.drop k := ⟨_, rfl⟩
  have HS1 : Hid (∀ j (hj : j < X1.length), ∃ ad, (some ⟨gx, 0, none⟩ : Option Addr) = some ad ∧ w.cell? (ad.add j) = some (bv X1[j])) := by
    show ∀ j hj, _
    subst hX1
    intro j hj
    refine ⟨_, rfl, ?_⟩
    rw [add_at, hc4 j (by simp at hj; omega)]
    simp
  have HS2 : Hid (∀ B : Addr, (B = ⟨gx, k, none⟩ ∨ (B = ⟨gx, 0, none⟩ ∧ (k = 0 ∨ cap = k))) → ∀ j (hj : j < X2.length), w.cell? (B.add j) = some (bv X2[j])) := by
    show ∀ B, _
    subst hX2
    intro B hB j hj
    have hj2 : k + j < l.length := by simp at hj; omega
    have e : w.cell? ⟨gx, k + j, none⟩ = some (bv (l.drop k)[j]) := by rw [hc4 (k + j) hj2]; simp
    rcases hB with rfl | ⟨rfl, h | h⟩
    · have e2 : (⟨gx, k, none⟩ : Addr).add j = ⟨gx, k + j, none⟩ := by unfold Addr.add; split <;> simp_all
      rw [e2]; exact e
    · subst h; rw [add_at]; simp only [Nat.zero_add] at e; exact e
    · omega
  have HS3 : Hid (∀ w1 : World, Only [] w w1 → ∀ B : Addr, (B = ⟨gx, k, none⟩ ∨ (B = ⟨gx, 0, none⟩ ∧ (k = 0 ∨ cap = k))) → ∀ j (hj : j < X2.length), ∃ ad, (some B : Option Addr) = some ad ∧ w1.cell? (ad.add j) = some (bv X2[j])) := by
    show ∀ w1, _
    intro w1 ho B hB j hj
    have e := HS2.out B hB j hj
    exact ⟨B, rfl, (ho.cell (p := B.add j) (block_of_cell e) (by simp)).trans e⟩
  clear HS2
  rw [← hX1, ← hX2] at HTL ⊢
  obtain ⟨c, hc⟩ : ∃ c, c = l.length := ⟨_, rfl⟩
  rw [← hc] at hue hub hc1 hd1 HTL HSM HLM HV
  have hcase : (n < 0 ∧ k = 0) ∨ (¬ n < 0 ∧ n ≤ (c : Int) ∧ n = (k : Int)) ∨ (¬ n < 0 ∧ ¬ n ≤ (c : Int) ∧ k = c) := by omega
  have hcap : cap = k ∨ ¬ cap = k := by omega
  clear hX1 hX2 hc4 hv hk hue hc
  rcases hcase with ⟨h1, h2⟩ | ⟨h1, h2, h3⟩ | ⟨h1, h2, h3⟩ <;> rcases hcap with h4 | h4
  case' inl.inl => subst h2; subst h4
  case' inl.inr => subst h2
  case' inr.inl.inl => subst h3; subst h4
  case' inr.inl.inr => subst h3
  case' inr.inr.inl => subst h3; subst h4
  case' inr.inr.inr => subst h3
  all_goals
    go_enter Try.func13, Try.ntmps13
    go_wp2_with (at_builtin; refine wpList_append_bytes rfl (.const (.slice none 0 0)) (.tmp 20) rfl w.heap.size _ [] rfl (KeptAt.nil _ _) (some ⟨gx, 0, none⟩) _ _ X1 rfl (by have := HTL.out.1; omega) (fun e => by cases e) HS1.out (by have := HTL.out; have := HSM.out; simp; omega) (Nat.le_refl _) ?_)
  all_goals
    intro v1 w1 HK1 HO1 hv1
    have HO1' : Hid (Only [] w w1) := HO1.out
    have HV1 := Lib.hid (HV.out.only HO1'.out (by simp))
    have hd1 := HV1.out.c1
    have hz1 := HV1.out.z1
    clear hv1 HO1
    obtain ⟨A1, cap1, hv1, _, _⟩ := HK1.out.slice
    have HE1 := Lib.hid hv1
    clear hv1
    go_wp2_with (at_builtin; refine wpList_append_bytes rfl (.const (.slice none 0 0)) (.tmp 28) rfl (g + 1) _ [] rfl (KeptAt.nil _ _) (some _) _ _ X2 rfl (by have := HTL.out.2; omega) (fun e => by cases e) (by first | exact HS3.out w1 HO1'.out _ (.inl rfl) | exact HS3.out w1 HO1'.out _ (.inr ⟨rfl, .inl rfl⟩) | exact HS3.out w1 HO1'.out _ (.inr ⟨rfl, .inr rfl⟩)) (by have := HTL.out; have := HSM.out; simp; omega) (by have := HV1.out.lt; omega) ?_)
  all_goals first
    | (intro v2 w2 HK2 HO2 hv2
       have HO2' : Hid (Only [] w1 w2) := HO2.out
       obtain ⟨A2, cap2, hs2, _, _⟩ := HK2.out.slice
       subst hs2
       obtain ⟨W3, hW3⟩ : ∃ W3, W3 = w2.setCell ⟨g, 1, none⟩ (.slice A2 X2.length cap2) := ⟨_, rfl⟩
       have HB3 : Hid (BfAt W3 g m X2) := by show BfAt _ _ _ _; rw [hW3]; exact ⟨_, HV1.out.set HO2'.out HK2.out (by have := HTL.out; have := HLM.out; omega)⟩
       have HO3 : Hid (Only [g] w W3) := by show Only _ _ _; rw [hW3]; exact ((HO1'.out.trans HO2'.out).mono (by simp)).setCell (p := ⟨g, 1, none⟩) (by simp) _
       have HKR : Hid (KeptAt W3 w.heap.size v1 X1) := by
         show KeptAt _ _ _ _
         rw [hW3]
         exact HK1.out.only ((HO2'.out.mono (by simp)).setCell (s := [g]) (p := ⟨g, 1, none⟩) (by simp) _) (fun x hx => by have := (HK1.out.own hx).1; have := HLT.out; simp; omega)
       have HV2 := Lib.hid (HV1.out.only HO2'.out (by simp))
       have hd1 := HV2.out.c1
       have hz1 := HV2.out.z1
       clear hv2 HO2
       go_wp2_with fail
       rw [← hW3]
       go_ret
       exact ⟨_, rfl, HKR.out, HB3.out, HO3.out⟩)
    | (obtain ⟨W3, hW3⟩ : ∃ W3, W3 = w1.setCell ⟨g, 1, none⟩ (.slice none 0 0) := ⟨_, rfl⟩
       have hX2 : X2 = [] := List.length_eq_zero_iff.1 (by have := HTL.out.2; omega)
       have HB3 : Hid (BfAt W3 g m X2) := by show BfAt _ _ _ _; rw [hW3, hX2]; exact ⟨_, HV1.out.set (Only.refl _ _) (KeptAt.nil _ _) (by simp)⟩
       have HO3 : Hid (Only [g] w W3) := by show Only _ _ _; rw [hW3]; exact (HO1'.out.mono (by simp)).setCell (p := ⟨g, 1, none⟩) (by simp) _
       have HKR : Hid (KeptAt W3 w.heap.size v1 X1) := by
         show KeptAt _ _ _ _
         rw [hW3]
         exact HK1.out.only (((Only.refl _ _)).setCell (s := [g]) (p := ⟨g, 1, none⟩) (by simp) _) (fun x hx => by have := (HK1.out.own hx).1; have := HLT.out; simp; omega)
       rw [← hW3]
       go_ret
       exact ⟨_, rfl, HKR.out, HB3.out, HO3.out⟩)

theorem bfTake_any (g m : Nat) (l : List UInt8) (n : Int) (w : World) (hw : BfAt w g m l) :
    Calls Try.prog 13 #[.pointer (some ⟨g, 0, none⟩), .int .i64 n] w fun e w' => ∃ v, e = .returned v ∧ KeptAt w' w.heap.size v (l.take (upto n l)) ∧ BfAt w' g m (l.drop (upto n l)) ∧ Only [g] w w' := by
  obtain ⟨v, hv⟩ := hw
  rcases hv.row.form with ⟨rfl, rfl⟩ | ⟨gx, cap, rfl, _, h1, h2, h3⟩
  · simpa using bfTake_none g m n w hv
  · exact bfTake_some g m gx cap _ l n w hv h1 h2 h3 rfl
end Go.Proofs.Ytbafbcemffhjbaa
