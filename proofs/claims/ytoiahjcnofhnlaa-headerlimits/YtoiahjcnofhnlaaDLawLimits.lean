/-
  The walk of the law HeaderLimits: whatever the numbers, it returns true, and nothing that was there has turned. Conditions: none beyond the arguments' own.
-/
import Derived.Test.YtoiahjcnofhnlaaDWords
namespace Go.Proofs.Ytoiahjcnofhnlaa
open Go.RowKit

theorem chk_rep (k : Nat) : checkH (List.replicate k ([110], [])) = if 32 < k then 4 else 0 := by
  unfold checkH
  rw [List.length_replicate]
  have : (List.replicate k (([110], []) : Hd)).all okH = true := by
    rw [List.all_eq_true]
    intro x hx
    obtain rfl := (List.mem_replicate.1 hx).2
    decide
  rw [this]; rfl
theorem rep_all (n : Nat) (c : UInt8) (p : UInt8 → Bool) (h : p c = true) : (List.replicate n c).all p = true := by
  rw [List.all_eq_true]
  intro x hx
  obtain rfl := (List.mem_replicate.1 hx).2
  exact h
theorem trim_rep (n : Nat) (c : UInt8) (h : Lk.sp c = false) : Lk.trimL (List.replicate n c) = List.replicate n c := by
  apply Lk.trim_of_tight
  cases n with
  | zero => exact .inl rfl
  | succ n => exact .inr ⟨⟨c, List.replicate n c, rfl, h⟩, ⟨c, List.replicate n c, List.replicate_succ', h⟩⟩
theorem chk_one (x y : Nat) : checkH [(List.replicate x 110, List.replicate y 118)] = if 1 ≤ x ∧ x ≤ 64 ∧ y ≤ 4096 then 0 else 6 := by
  have h1 : Lk.tokL (List.replicate x 110) = decide (1 ≤ x) := by
    unfold Lk.tokL
    rw [rep_all x 110 _ (by decide)]
    cases x <;> simp [List.replicate_succ]
  have h2 : badB (List.replicate y 118) = false := by
    have : ∀ c : Int, c < 100 → Lk.inL c (List.replicate y 118) = false := by
      intro c hc
      unfold Lk.inL
      rw [List.any_eq_false]
      intro b hb
      obtain rfl := (List.mem_replicate.1 hb).2
      simp; omega
    unfold badB
    rw [this 0 (by omega), this 10 (by omega), this 13 (by omega)]; rfl
  have h3 : okH (List.replicate x 110, List.replicate y 118) = decide (1 ≤ x ∧ x ≤ 64 ∧ y ≤ 4096) := by
    unfold okH nameOk valOk
    rw [trim_rep y 118 (by decide), h1, h2, List.length_replicate, List.length_replicate]
    rw [Bool.eq_iff_iff]
    simp
    omega
  unfold checkH
  rw [if_neg (by simp)]
  simp only [List.all_cons, List.all_nil, Bool.and_true, h3, decide_eq_true_eq]

set_option maxRecDepth 100000 in
set_option maxHeartbeats 4000000 in
theorem walk_HeaderLimits (n a b : Int) (w : World) (_hn : (Lit.int .i64 n).wf = true) (_ha : (Lit.int .i64 a).wf = true) (_hb : (Lit.int .i64 b).wf = true) :
    Calls Try.prog 7 #[.int .i64 n, .int .i64 a, .int .i64 b] w fun e w' => e = .returned (.bool true) ∧ Below w.heap.size w w' := by
  obtain ⟨i0, hi, hz0, hz1, hz2⟩ := info_parts infoH
  obtain ⟨k, hk⟩ : ∃ k : Nat, lowV n 40 = (k : Int) := ⟨(lowV n 40).toNat, by have := lowV_bd n (n := 40) (by decide); omega⟩
  obtain ⟨x, hx⟩ : ∃ k : Nat, lowV a 70 = (k : Int) := ⟨(lowV a 70).toNat, by have := lowV_bd a (n := 70) (by decide); omega⟩
  obtain ⟨y, hy⟩ : ∃ k : Nat, lowV b 200 = (k : Int) := ⟨(lowV b 200).toNat, by have := lowV_bd b (n := 200) (by decide); omega⟩
  have hk40 : k < 40 := by have := lowV_bd n (n := 40) (by decide); omega
  have hx70 : x < 70 := by have := lowV_bd a (n := 70) (by decide); omega
  have hy200 : y < 200 := by have := lowV_bd b (n := 200) (by decide); omega
  have HK := Lib.hid hk
  have HXX := Lib.hid hx
  have HYY := Lib.hid hy
  clear hk hx hy
  go_enter Try.func7, Try.ntmps7
  go_wp2_with fail
  refine (Low_any n 40 _ (by decide) (by decide)).mono ?_
  rintro e w' ⟨rfl, rfl⟩
  rw [HK.out]
  go_wp2_with fail
  refine (Low_any a 70 _ (by decide) (by decide)).mono ?_
  rintro e w' ⟨rfl, rfl⟩
  rw [HXX.out]
  go_wp2_with fail
  refine (Low_any b 200 _ (by decide) (by decide)).mono ?_
  rintro e w' ⟨rfl, rfl⟩
  rw [HYY.out]
  go_wp2_with fail
  go_loopw [10, 11] (fun v i wr => ∃ j : Nat, j ≤ k ∧ i = .int .i64 j ∧ wr.ownsRow w.heap.size 46 2 v (List.replicate j (([110], []) : Hd)).length (hcs (List.replicate j ([110], []))) ∧ Below w.heap.size w wr) (fun _ i _ => k - (intOf i).toNat)
  case atStart => exact ⟨0, Nat.zero_le _, rfl, World.ownsRow_nil _ _ _ _, Below.refl _ _⟩
  case round =>
    obtain ⟨j, hj, rfl, hr, hb⟩ := hrel
    have HRR := Lib.hid hr
    have HBB := Lib.hid hb
    clear hr hb
    by_cases hlt : j < k
    · go_wp2_with (at_builtin; refine wpList_append_own _ rfl (.tmp 25) (.tmp 27) 22 rfl w.heap.size 46 i0 (.agg #[.string ⟨#[]⟩, .string ⟨#[]⟩]) 2 32 Try.underlying22 hi hz0 hz1 hz2 rfl (by decide) _ _ _ rfl (World.ownsRow.alloc (w := wr) HRR.out _) ⟨wr.heap.size, 0, none⟩ 1 1 [.string ⟨#[110]⟩, .string ⟨#[]⟩] rfl rfl ?c1 ?c2 ?c3 ?c4 ?c5 ?_)
      case c1 => exact cells_two_new _ _ _ _
      case c2 => intro u hu; simp at hu; rcases hu with rfl | rfl <;> rfl
      case c3 => simp; unfold maxLen; omega
      case c4 => simp; omega
      case c5 => have := HBB.out.size; simp; omega
      intro v' w3 hown' hgrow _
      have HR3 : Hid (HdRow w3 w.heap.size v' (List.replicate j ([110], []) ++ [([110], [])])) := HdRow.more (a := ⟨#[110]⟩) (b := ⟨#[]⟩) (by rw [List.length_replicate]; exact hown')
      have HB3 : Hid (Below w.heap.size w w3) := (HBB.out.alloc HBB.out.size _).grown hgrow (by have := HBB.out.size; simp; omega) (fun b hb => (HRR.out.lt b hb).1)
      clear hown' hgrow
      go_wp2
      go_roundw
      case rel => exact ⟨j + 1, by omega, by go_num, by rw [List.replicate_succ']; exact HR3.out, HB3.out⟩
      case measure => simp [intOf]; omega
    · obtain rfl : j = k := by omega
      obtain ⟨A, nA, cA, yA, hv, hnA, hyA, _, hpA⟩ := HdRow.row HRR.out
      have HNA := Lib.hid hnA
      have HYA : Hid (yA.map hd = List.replicate j ([110], [])) := hyA
      have HPA := Lib.hid hpA
      have HLA : Hid (yA.length ≤ 40) := by
        have h := congrArg List.length hyA
        simp at h
        show _ ≤ _
        omega
      have HSA : Hid (∀ x ∈ yA, x.1.size ≤ maxLen ∧ x.2.size ≤ maxLen) := by
        intro x hx
        have h : hd x ∈ List.replicate j (([110], []) : Hd) := by rw [← hyA]; exact List.mem_map_of_mem hx
        have e := (List.mem_replicate.1 h).2
        have e1 : x.1.size = 1 := congrArg (fun q : Hd => q.1.length) e
        have e2 : x.2.size = 0 := congrArg (fun q : Hd => q.2.length) e
        unfold maxLen; omega
      clear hnA hyA hpA
      subst hv
      obtain ⟨tx, htx⟩ : ∃ t, t = mk (List.replicate x 110) := ⟨_, rfl⟩
      obtain ⟨ty, hty⟩ : ∃ t, t = mk (List.replicate (4000 + y) 118) := ⟨_, rfl⟩
      have HSX : Hid (tx.size ≤ maxLen ∧ ty.size ≤ maxLen) := by
        rw [htx, hty, mk_size, mk_size, List.length_replicate, List.length_replicate]; unfold maxLen; constructor <;> omega
      obtain ⟨E0, hE0⟩ : ∃ E0, E0 = checkH ([(tx, ty)].map hd) := ⟨_, rfl⟩
      have HE0 := Lib.hid hE0
      have HE : Hid (E0 = if 1 ≤ x ∧ x ≤ 64 ∧ 4000 + y ≤ 4096 then 0 else 6) := by
        show _ = _
        rw [hE0, ← chk_one x (4000 + y), htx, hty]
        simp [hd, mk_data]
      have HTX : Hid (∀ w, Calls Try.prog 30 #[.int .i64 (x : Int), .int .u8 110] w fun e w' => e = .returned (.string tx) ∧ Below w.heap.size w w') := by
        intro w; rw [htx]; exact Text_any x 110 w (by omega)
      have HTY : Hid (∀ w, Calls Try.prog 30 #[.int .i64 (4000 + (y : Int)), .int .u8 118] w fun e w' => e = .returned (.string ty) ∧ Below w.heap.size w w') := by
        intro w; rw [hty]
        have := Text_any (4000 + y) 118 w (by omega)
        simpa using this
      clear htx hty hE0
      go_wp2_with fail
      refine (HTX.out _).mono ?_
      rintro e w1 ⟨rfl, hb1⟩
      have HC1 : Hid (Below wr.heap.size wr w1) := hb1
      clear hb1
      go_wp2_with fail
      refine (HTY.out _).mono ?_
      rintro e w2 ⟨rfl, hb2⟩
      have HC2 : Hid (Below wr.heap.size wr w2) := HC1.out.trans (hb2.mono HC1.out.size)
      clear hb2
      go_wp2_with fail
      refine (Check6_any _ _ _ (w2.heap.size + 1) [(tx, ty)] _ rfl (by simp) (PRow.one_at _ _ _ _ _ rfl) (by unfold maxLen; simp) (by intro q hq; simp at hq; subst hq; exact HSX.out)).mono ?_
      rintro e w3 ⟨rfl, hb3⟩
      have HC3 : Hid (Below wr.heap.size wr w3) := (HC2.out.alloc HC2.out.size _).trans (hb3.mono (by have := HC2.out.size; simp; omega))
      clear hb3
      rw [← HE0.out]
      clear HE0
      go_wp2_with fail
      refine (Check6_any A _ cA wr.heap.size yA _ HNA.out HC3.out.size (HPA.out.below HC3.out) (by have := HLA.out; unfold maxLen; omega) HSA.out).mono ?_
      rintro e w4 ⟨rfl, hb4⟩
      have HC4 : Hid (Below wr.heap.size wr w4) := HC3.out.trans (hb4.mono HC3.out.size)
      clear hb4
      rw [HYA.out, chk_rep]
      have hcases : (1 ≤ x ∧ x ≤ 64 ∧ 4000 + y ≤ 4096) ∨ (x = 0) ∨ (1 ≤ x ∧ 64 < x) ∨ (1 ≤ x ∧ x ≤ 64 ∧ 4096 < 4000 + y) := by omega
      by_cases h32 : 32 < j
      · have g32 : ¬ ((j : Int) ≤ 32) := by omega
        rw [if_pos h32]
        go_wp2_with fail
        refine (Check6_any A _ cA wr.heap.size yA _ HNA.out HC4.out.size (HPA.out.below HC4.out) (by have := HLA.out; unfold maxLen; omega) HSA.out).mono ?_
        rintro e w5 ⟨rfl, hb5⟩
        have HC5 : Hid (Below wr.heap.size wr w5) := HC4.out.trans (hb5.mono HC4.out.size)
        clear hb5
        rw [HYA.out, chk_rep, if_pos h32]
        rcases hcases with hq | hq | hq | hq
        · obtain rfl : E0 = 0 := by rw [HE.out, if_pos (by omega)]
          have g0 : (1 : Int) ≤ (x : Int) := by omega
          have g1 : (x : Int) ≤ 64 := by omega
          have g2 : 4000 + (y : Int) ≤ 4096 := by omega
          clear hq HE
          go_wp2_with fail
          refine (awake6_any _).mono ?_
          rintro e w6 ⟨rfl, hb6⟩
          go_wp2
          go_ret
          exact ⟨by first | rfl | exact ret_bool (by simp; omega), HBB.out.trans ((HC5.out.trans (hb6.mono HC5.out.size)).mono HBB.out.size)⟩
        · obtain rfl : E0 = 6 := by rw [HE.out, if_neg (by omega)]
          have g0 : ¬ ((1 : Int) ≤ (x : Int)) := by omega
          clear hq HE
          go_wp2_with fail
          refine (awake6_any _).mono ?_
          rintro e w6 ⟨rfl, hb6⟩
          go_wp2
          go_ret
          exact ⟨by first | rfl | exact ret_bool (by simp; omega), HBB.out.trans ((HC5.out.trans (hb6.mono HC5.out.size)).mono HBB.out.size)⟩
        · obtain rfl : E0 = 6 := by rw [HE.out, if_neg (by omega)]
          have g0 : (1 : Int) ≤ (x : Int) := by omega
          have g1 : ¬ ((x : Int) ≤ 64) := by omega
          clear hq HE
          go_wp2_with fail
          refine (awake6_any _).mono ?_
          rintro e w6 ⟨rfl, hb6⟩
          go_wp2
          go_ret
          exact ⟨by first | rfl | exact ret_bool (by simp; omega), HBB.out.trans ((HC5.out.trans (hb6.mono HC5.out.size)).mono HBB.out.size)⟩
        · obtain rfl : E0 = 6 := by rw [HE.out, if_neg (by omega)]
          have g0 : (1 : Int) ≤ (x : Int) := by omega
          have g1 : (x : Int) ≤ 64 := by omega
          have g2 : ¬ (4000 + (y : Int) ≤ 4096) := by omega
          clear hq HE
          go_wp2_with fail
          refine (awake6_any _).mono ?_
          rintro e w6 ⟨rfl, hb6⟩
          go_wp2
          go_ret
          exact ⟨by first | rfl | exact ret_bool (by simp; omega), HBB.out.trans ((HC5.out.trans (hb6.mono HC5.out.size)).mono HBB.out.size)⟩
      · have g32 : (j : Int) ≤ 32 := by omega
        rw [if_neg h32]
        rcases hcases with hq | hq | hq | hq
        · obtain rfl : E0 = 0 := by rw [HE.out, if_pos (by omega)]
          have g0 : (1 : Int) ≤ (x : Int) := by omega
          have g1 : (x : Int) ≤ 64 := by omega
          have g2 : 4000 + (y : Int) ≤ 4096 := by omega
          clear hq HE
          go_wp2_with fail
          refine (awake6_any _).mono ?_
          rintro e w6 ⟨rfl, hb6⟩
          go_wp2
          go_ret
          exact ⟨by first | rfl | exact ret_bool (by simp; omega), HBB.out.trans ((HC4.out.trans (hb6.mono HC4.out.size)).mono HBB.out.size)⟩
        · obtain rfl : E0 = 6 := by rw [HE.out, if_neg (by omega)]
          have g0 : ¬ ((1 : Int) ≤ (x : Int)) := by omega
          clear hq HE
          go_wp2_with fail
          refine (awake6_any _).mono ?_
          rintro e w6 ⟨rfl, hb6⟩
          go_wp2
          go_ret
          exact ⟨by first | rfl | exact ret_bool (by simp; omega), HBB.out.trans ((HC4.out.trans (hb6.mono HC4.out.size)).mono HBB.out.size)⟩
        · obtain rfl : E0 = 6 := by rw [HE.out, if_neg (by omega)]
          have g0 : (1 : Int) ≤ (x : Int) := by omega
          have g1 : ¬ ((x : Int) ≤ 64) := by omega
          clear hq HE
          go_wp2_with fail
          refine (awake6_any _).mono ?_
          rintro e w6 ⟨rfl, hb6⟩
          go_wp2
          go_ret
          exact ⟨by first | rfl | exact ret_bool (by simp; omega), HBB.out.trans ((HC4.out.trans (hb6.mono HC4.out.size)).mono HBB.out.size)⟩
        · obtain rfl : E0 = 6 := by rw [HE.out, if_neg (by omega)]
          have g0 : (1 : Int) ≤ (x : Int) := by omega
          have g1 : (x : Int) ≤ 64 := by omega
          have g2 : ¬ (4000 + (y : Int) ≤ 4096) := by omega
          clear hq HE
          go_wp2_with fail
          refine (awake6_any _).mono ?_
          rintro e w6 ⟨rfl, hb6⟩
          go_wp2
          go_ret
          exact ⟨by first | rfl | exact ret_bool (by simp; omega), HBB.out.trans ((HC4.out.trans (hb6.mono HC4.out.size)).mono HBB.out.size)⟩
end Go.Proofs.Ytoiahjcnofhnlaa
