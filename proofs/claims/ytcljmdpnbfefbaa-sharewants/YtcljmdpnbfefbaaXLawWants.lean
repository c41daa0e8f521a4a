/-
  The walk of the law ShareWants: two share a preflight just if they want the same; it returns true, and nothing that was there has turned. Conditions: the texts came in.
-/
import Derived.Test.YtcljmdpnbfefbaaXOne
namespace Go.Proofs.Ytcljmdpnbfefbaa
open Go.RowKit

/-- what the two joins are told -/
theorem wants_told (a b : Wt) : ∃ (q : Nat) (G : Bool) (S : Sv), joinN b 2 (oneS 1 1 a [1]) = q ∧ joinF b 2 (oneS 1 1 a [1]) = G ∧ joinC 2 (oneS 1 1 a [1]) = 0 ∧ joinS b 2 (oneS 1 1 a [1]) = S ∧
    wantW (q : Int) S = b ∧ wantO (q : Int) S = true ∧ ((q = 1 ∧ G = false ∧ wB a b = true) ∨ (q = 2 ∧ G = true ∧ wB a b = false)) := by
  by_cases h : a = b
  · subst h
    obtain ⟨h1, h2, h3, h4⟩ := one_join (n := 1) (a := 1) (W := a) (is := [1]) (i := 2) (by simp) (by omega) (by simp)
    obtain ⟨h5, h6⟩ := one_told (n := 1) (a := 1) (W := a) (is := [1] ++ [2])
    exact ⟨_, _, _, h1, h2, h3, h4, h5, h6, .inl ⟨rfl, rfl, wB_self a⟩⟩
  · obtain ⟨h1, h2, h3, h4⟩ := two_join (n := 1) (a := 1) (W := a) (V := b) (is := [1]) (i := 2) h (by simp) (by omega) (by simp)
    obtain ⟨h5, h6⟩ := two_told (n := 1 + 1) (a := 1) (b := 1 + 1) (W := a) (V := b) (is := [1]) (js := [2]) (by omega)
    exact ⟨_, _, _, h1, h2, h3, h4, h5, h6, .inr ⟨rfl, rfl, wB_no.2 h⟩⟩

set_option maxRecDepth 20000 in
set_option maxHeartbeats 8000000 in
theorem walk_ShareWants (a0 : Wt) (a1 : Wt) (w : World) (h0 : WtWf a0) (h1 : WtWf a1) :
    Calls Try.prog 4 #[wV a0, wV a1] w fun e w' => e = .returned (.bool true) ∧ Below w.heap.size w w' := by
  obtain ⟨Wa, hWa⟩ : ∃ Wa, Wa = w.alloc (.cells #[.string a0.o, .string a0.u, .bool a0.c, .string a0.m, .string a0.s] 31) := ⟨_, rfl⟩
  obtain ⟨Wb, hWb⟩ : ∃ Wb, Wb = Wa.alloc (.cells #[.string a1.o, .string a1.u, .bool a1.c, .string a1.m, .string a1.s] 31) := ⟨_, rfl⟩
  obtain ⟨B0, hB0⟩ : ∃ B0, B0 = w.heap.size := ⟨_, rfl⟩
  obtain ⟨B1, hB1⟩ : ∃ B1, B1 = Wa.heap.size := ⟨_, rfl⟩
  have hB1s : B1 = w.heap.size + 1 := by rw [hB1, hWa]; simp
  have HX0 : Hid (WtAt Wb B0 0 a0) := by
    show WtAt _ _ _ _
    have h : WtAt Wa B0 0 a0 := by rw [hWa, hB0]; exact WtAt.new w a0 _
    rw [hWb]; exact h.old ((Only.refl _ _).alloc _)
  have HX1 : Hid (WtAt Wb B1 0 a1) := by show WtAt _ _ _ _; rw [hWb, hB1]; exact WtAt.new Wa a1 _
  have HBb : Hid (Below w.heap.size w Wb) := by show Below _ _ _; rw [hWb, hWa]; exact ((Below.refl _ _).alloc (Nat.le_refl _) _).alloc (by simp) _
  have HLT : Hid (B0 < Wb.heap.size ∧ B1 < Wb.heap.size) := ⟨HX0.out.lt, HX1.out.lt⟩
  obtain ⟨Q, G, S, hQ, hG, hC, hS, hw1, hw2, hcase⟩ := wants_told a0 a1
  have HQ : Hid (joinN a1 2 (oneS 1 1 a0 [1]) = Q ∧ joinF a1 2 (oneS 1 1 a0 [1]) = G ∧ joinC 2 (oneS 1 1 a0 [1]) = 0 ∧ joinS a1 2 (oneS 1 1 a0 [1]) = S) := ⟨hQ, hG, hC, hS⟩
  have HW : Hid (wantW (Q : Int) S = a1 ∧ wantO (Q : Int) S = true) := ⟨hw1, hw2⟩
  have HCASE := Lib.hid hcase
  have T1 := Lib.hid (no_join (n := 0) (W := a0) (i := 1) (by omega))
  clear hQ hG hC hS hw1 hw2 hcase
  have hcalls : ∀ W : World, Below w.heap.size w W → Calls Try.prog 7 #[] W fun e w' => e = .returned (.bool true) ∧ Below w.heap.size w w' := fun W hb => (awake18_any W).mono fun _ _ ⟨e, h⟩ => ⟨e, hb.trans (h.mono hb.size)⟩
  have HAW := Lib.hid hcalls
  clear hcalls
  obtain ⟨d0, d1, d2, d3, d4⟩ := HX0.out
  simp only [wV]
  go_enter Try.func4, Try.ntmps4
  go_wp2_with fail
  rw [← hB1s, ← hB0, ← hWa, ← hWb]
  have HB0 := Lib.hid hB0
  clear hWa hWb hB1 hB1s hB0
  refine (great_any a0 Wb h0).mono ?_
  rintro e W1 ⟨b, rfl, ho1⟩
  have HB1 : Hid (Below w.heap.size w W1) := Only.below HBb.out ho1 HBb.out.size (by simp)
  have HY0 := Lib.hid (HX0.out.old ho1)
  have HY1 := Lib.hid (HX1.out.old ho1)
  clear ho1 d0 d1 d2 d3 d4
  cases b
  case true =>
    go_wp2_with fail
    refine (HAW.out W1 HB1.out).mono ?_
    rintro e w' ⟨rfl, hb⟩
    go_wp2
    go_ret
    exact ⟨rfl, hb⟩
  case false =>
    obtain ⟨d0, d1, d2, d3, d4⟩ := HY1.out
    go_wp2_with fail
    refine (great_any a1 W1 h1).mono ?_
    rintro e W2 ⟨b, rfl, ho2⟩
    have HB2 : Hid (Below w.heap.size w W2) := Only.below HB1.out ho2 HB1.out.size (by simp)
    have HZ0 := Lib.hid (HY0.out.old ho2)
    have HZ1 := Lib.hid (HY1.out.old ho2)
    clear ho2 d0 d1 d2 d3 d4
    cases b
    case true =>
      go_wp2_with fail
      refine (HAW.out W2 HB2.out).mono ?_
      rintro e w' ⟨rfl, hb⟩
      go_wp2
      go_ret
      exact ⟨rfl, hb⟩
    case false =>
      go_wp2_with fail
      refine (fNew_any W2).mono ?_
      rintro e W3 ⟨g, rfl, hp, ho, hg⟩
      have N3 := Lib.hid (TbN.made HB2.out hp ho hg)
      rw [s0_no] at N3
      have HX3 : Hid (WtAt W3 B0 0 a0 ∧ WtAt W3 B1 0 a1 ∧ B0 ∉ [g] ∧ B1 ∉ [g]) := ⟨HZ0.out.old ho, HZ1.out.old ho, fun hm => by simp at hm; have := HZ0.out.lt; omega, fun hm => by simp at hm; have := HZ1.out.lt; omega⟩
      clear hp ho hg
      obtain ⟨d0, d1, d2, d3, d4⟩ := HX3.out.1
      go_wp2_with fail
      have hj := fJoin_any a0 1 N3.out.p (by show (0 : Nat) ≤ _; omega)
      rw [T1.out.1, T1.out.2.1, T1.out.2.2.1, T1.out.2.2.2] at hj
      refine hj.mono ?_
      rintro e W4 ⟨rfl, hn⟩
      obtain ⟨f4, n4, ho, hm⟩ := N3.out.step hn
      have N4 := Lib.hid n4
      have HX4 : Hid (WtAt W4 B0 0 a0 ∧ WtAt W4 B1 0 a1 ∧ B0 ∉ f4 ∧ B1 ∉ f4) :=
        ⟨HX3.out.1.only ho HX3.out.2.2.1, HX3.out.2.1.only ho HX3.out.2.2.2, fun h => by rcases hm _ h with h2 | h2; exact HX3.out.2.2.1 h2; have := HX3.out.1.lt; omega, fun h => by rcases hm _ h with h2 | h2; exact HX3.out.2.2.2 h2; have := HX3.out.2.1.lt; omega⟩
      clear hj hn n4 ho hm d0 d1 d2 d3 d4
      obtain ⟨d0, d1, d2, d3, d4⟩ := HX4.out.2.1
      go_wp2_with fail
      have hj := fJoin_any a1 2 N4.out.p (by show (1 : Nat) ≤ _; omega)
      rw [HQ.out.1, HQ.out.2.1, HQ.out.2.2.1, HQ.out.2.2.2] at hj
      refine hj.mono ?_
      rintro e W5 ⟨rfl, hn⟩
      obtain ⟨f5, n5, ho, hm⟩ := N4.out.step hn
      have N5 := Lib.hid n5
      have HX5 : Hid (WtAt W5 B0 0 a0 ∧ WtAt W5 B1 0 a1) := ⟨HX4.out.1.only ho HX4.out.2.2.1, HX4.out.2.1.only ho HX4.out.2.2.2⟩
      clear hj hn n5 ho hm d0 d1 d2 d3 d4
      go_wp2_with fail
      have hj := fWant_any (Q : Int) N5.out.p
      rw [HW.out.1, HW.out.2] at hj
      refine hj.mono ?_
      rintro e W6 ⟨rfl, ho⟩
      obtain ⟨W7, hW7⟩ : ∃ W7, W7 = W6.alloc (.cells #[.string a1.o, .string a1.u, .bool a1.c, .string a1.m, .string a1.s] 31) := ⟨_, rfl⟩
      have ho7 : Only [] W5 W7 := by rw [hW7]; exact ho.alloc _
      have HB7 := Lib.hid (N5.out.old ho7).b
      have HX7 : Hid (WtAt W7 B0 0 a0 ∧ WtAt W7 B1 0 a1 ∧ WtAt W7 W6.heap.size 0 a1) := ⟨HX5.out.1.old ho7, HX5.out.2.old ho7, by rw [hW7]; exact WtAt.new W6 a1 _⟩
      clear hj ho7
      have hs0 : B0 < W6.heap.size := Nat.lt_of_lt_of_le HX5.out.1.lt ho.size
      have hs1 : B1 < W6.heap.size := Nat.lt_of_lt_of_le HX5.out.2.lt ho.size
      subst hW7
      clear ho
      simp only [wV]
      obtain ⟨a0', a1', a2', a3', a4'⟩ := HX7.out.1
      obtain ⟨b0, b1, b2, b3, b4⟩ := HX7.out.2.1
      obtain ⟨c0, c1, c2, c3, c4⟩ := HX7.out.2.2
      have q1 := eqlW a0 a1
      have q2 := neqW a0 a1
      have q3 := eqlW a1 a1
      rw [wB_self] at q3
      rcases HCASE.out with ⟨rfl, rfl, e⟩ | ⟨rfl, rfl, e⟩
      all_goals
        rw [e] at q1 q2
        clear e
        go_wp2_with fail
        refine (HAW.out _ HB7.out).mono ?_
        rintro e w' ⟨rfl, hb⟩
        go_wp2
        go_ret
        exact ⟨rfl, hb⟩
end Go.Proofs.Ytcljmdpnbfefbaa
