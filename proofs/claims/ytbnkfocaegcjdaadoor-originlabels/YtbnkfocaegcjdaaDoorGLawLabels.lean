/-
  The walk of the law OriginLabels: whatever the numbers, it returns true, and nothing that was there has turned. Conditions: the arguments are such as any that come in; the library's variables are as they are laid.
-/
import Derived.Test.YtbnkfocaegcjdaaDoorGLawBack
import Derived.Test.YtbnkfocaegcjdaaDoorONum
namespace Go.Proofs.YtbnkfocaegcjdaaDoor
open Go.RowKit

def dotJoin : List (List UInt8) → List UInt8
  | [] => []
  | [x] => x
  | x :: y :: r => x ++ 46 :: dotJoin (y :: r)
theorem dotJoin_snoc : ∀ (l : List (List UInt8)) (x : List UInt8), l ≠ [] → dotJoin (l ++ [x]) = dotJoin l ++ 46 :: x
  | [], _, h => absurd rfl h
  | [a], x, _ => rfl
  | a :: b :: r, x, _ => by
    have ih := dotJoin_snoc (b :: r) x (by simp)
    show a ++ 46 :: dotJoin (b :: (r ++ [x])) = (a ++ 46 :: dotJoin (b :: r)) ++ 46 :: x
    rw [show b :: (r ++ [x]) = (b :: r) ++ [x] from rfl, ih]; simp
theorem parts_dot : ∀ (l : List (List UInt8)), l ≠ [] → (∀ x ∈ l, ∀ b ∈ x, b ≠ 46) → parts 46 (dotJoin l) = l
  | [], h, _ => absurd rfl h
  | [a], _, h => parts_none 46 a (h a (by simp))
  | a :: b :: r, _, h => by
    show parts 46 (a ++ 46 :: dotJoin (b :: r)) = _
    rw [parts_at 46 a _ (h a (by simp)), parts_dot (b :: r) (by simp) (fun x hx => h x (List.mem_cons_of_mem _ hx))]
def runs (x : List Int) : List (List UInt8) := x.map (fun v => List.replicate (lowV v 66).toNat 97)
def fitOne (v : Int) : Bool := decide (1 ≤ lowV v 66) && decide (lowV v 66 ≤ 63)
def fit (x : List Int) : Bool := x.all fitOne
theorem runs_snoc (x : List Int) (v : Int) : runs (x ++ [v]) = runs x ++ [List.replicate (lowV v 66).toNat 97] := by simp [runs]
theorem fit_snoc (x : List Int) (v : Int) : fit (x ++ [v]) = (fit x && fitOne v) := by simp [fit]
theorem label_run (n : Nat) : labelL (List.replicate n 97) = (decide (1 ≤ n) && decide (n ≤ 63)) := by
  unfold labelL
  have h1 : (List.replicate n (97 : UInt8)).all (fun b => hostB b.toNat) = true := by
    rw [List.all_eq_true]; intro b hb; rw [(List.mem_replicate.1 hb).2]; rfl
  have h2 : ((List.replicate n (97 : UInt8)).head? != some 45) = true := by cases n <;> simp [List.replicate_succ]
  have h3 : ((List.replicate n (97 : UInt8)).getLast? != some 45) = true := by
    rw [List.getLast?_replicate]; split <;> rfl
  rw [h1, h2, h3]; simp
theorem host_runs (x : List Int) (h : x ≠ []) : hostL (dotJoin (runs x)) = (fit x && decide ((dotJoin (runs x)).length ≤ 253)) := by
  unfold hostL
  rw [parts_dot (runs x) (by simpa [runs] using h) (by
    intro y hy b hb
    obtain ⟨v, _, rfl⟩ := List.mem_map.1 hy
    rw [(List.mem_replicate.1 hb).2]; decide)]
  rw [Bool.and_comm]
  congr 1
  unfold runs fit
  rw [List.all_map]
  congr 1
  funext v
  have hb := lowV_bd v (n := 66) (by decide)
  show labelL (List.replicate (lowV v 66).toNat 97) = fitOne v
  rw [label_run, fitOne, Bool.eq_iff_iff]
  simp
  omega
theorem check_runs (x : List Int) (h : x ≠ []) (t : ByteArray) (ht : t = mk (dotJoin (runs x))) : checkL (ByteArray.mk #[104, 116, 116, 112]).data.toList t.data.toList 1 = (fit x && decide ((t.size : Int) ≤ 253)) := by
  have e : defL [104, 116, 116, 112] = 80 := by decide
  have hz : decide ((t.size : Int) ≤ 253) = decide ((dotJoin (runs x)).length ≤ 253) := by
    rw [ht, mk_size, Bool.eq_iff_iff, decide_eq_true_eq, decide_eq_true_eq]; omega
  show checkL [104, 116, 116, 112] t.data.toList 1 = _
  unfold checkL
  rw [hz, e, ht, mk_data, host_runs x h]
  simp
theorem m_cases (m : Int) : (1 ≤ m ∧ m ≤ 63) ∨ (¬ 1 ≤ m ∧ m ≤ 63) ∨ (1 ≤ m ∧ ¬ m ≤ 63) := by omega

set_option maxHeartbeats 4000000 in
theorem walk_OriginLabels (a0 : Option Addr) (c0 : Nat) (x0 : List Int) (w : World) (h0 : IArg .i64 w a0 c0 x0) (he : Env w) :
    Calls Tryd.prog 7 #[.slice a0 x0.length c0] w fun e w' => e = .returned (.bool true) ∧ Below w.heap.size w w' := by
  have H0 := Lib.hid h0
  have HE := Lib.hid he
  have hl1 := h0.2.2.1
  have hm1 := h0.2.2.2
  unfold maxLen at hm1
  clear h0 he
  by_cases hb1 : x0.length < 1
  · go_enter Tryd.func7, Tryd.ntmps7
    go_wp2_with fail
    refine (awake3_any _ HE.out).mono ?_
    rintro e w' ⟨rfl, hb⟩
    go_wp2
    go_ret
    exact ⟨rfl, hb⟩
  by_cases hb2 : 12 < x0.length
  · go_enter Tryd.func7, Tryd.ntmps7
    go_wp2_with fail
    refine (awake3_any _ HE.out).mono ?_
    rintro e w' ⟨rfl, hb⟩
    go_wp2
    go_ret
    exact ⟨rfl, hb⟩
  go_enter Tryd.func7, Tryd.ntmps7
  go_wp2_with fail
  go_loopw [3, 4, 5, 6] (fun hh ok i _ wr => ∃ (k : Nat) (t : ByteArray) (o : Bool), k ≤ x0.length ∧ i = .int .i64 k ∧ hh = .string t ∧ ok = .bool o ∧ t = mk (dotJoin (runs (x0.take k))) ∧ o = fit (x0.take k) ∧ t.size ≤ 67 * k ∧ Below w.heap.size w wr)
    (fun _ _ i _ _ => x0.length - (intOf i).toNat)
  case atStart => exact ⟨0, ⟨#[]⟩, true, Nat.zero_le _, rfl, rfl, rfl, rfl, rfl, by decide, Below.refl _ _⟩
  case round =>
    obtain ⟨k, t, o, hk, rfl, rfl, rfl, ht, hof, htz, hbw⟩ := hrel
    have HT := Lib.hid ht
    have HF := Lib.hid hof
    have HB := Lib.hid hbw
    clear ht hof hbw
    by_cases hlt : k < x0.length
    · obtain ⟨ad, e1, hBk, hcell⟩ := H0.out.1 k x0[k] (List.getElem?_eq_getElem hlt)
      have hcl : wr.cell? (ad.add k) = some (.int .i64 x0[k]) := (HB.out.cell (p := ad.add k) (by rw [block_add]; exact hBk)).trans hcell
      clear hcell
      have HTK : Hid (x0.take (k + 1) = x0.take k ++ [x0[k]]) := List.take_succ_eq_append_getElem hlt
      generalize x0[k] = v at *
      subst e1
      have hlo := lowV_bd v (n := 66) (by decide)
      obtain ⟨m, hm⟩ := Int.eq_ofNat_of_zero_le hlo.1
      have hm2 : m < 66 := by omega
      have HM := Lib.hid hm
      have HFV : Hid (fitOne v = (decide (1 ≤ (m : Int)) && decide ((m : Int) ≤ 63))) := by show _ = _; rw [fitOne, hm]
      have HRV : Hid (List.replicate (lowV v 66).toNat (97 : UInt8) = List.replicate m 97) := by show _ = _; rw [hm]; rfl
      have z46 : (ByteArray.mk #[46]).size = 1 := rfl
      have zr : (mk (List.replicate m 97)).size = m := by rw [mk_size]; simp
      clear hlo hm
      by_cases hk0 : 0 < (k : Int)
      · have HJ : Hid (t ++ ByteArray.mk #[46] ++ mk (List.replicate m 97) = mk (dotJoin (runs (x0.take (k + 1))))) := by
          show _ = _
          rw [HTK.out, runs_snoc, dotJoin_snoc _ _ (by
            intro e
            have hrl : (runs (x0.take k)).length = k := by simp [runs]; omega
            rw [e] at hrl
            simp at hrl
            omega), HRV.out, HT.out]
          show mk _ ++ mk [46] ++ mk _ = _
          rw [mk_append, mk_append]; simp
        cases o <;> rcases m_cases (m : Int) with ⟨g1, g2⟩ | ⟨g1, g2⟩ | ⟨g1, g2⟩
        all_goals
          go_wp2_with fail
          refine (Low_any _ _ _ (by decide) (by decide)).mono ?_
          rintro e w' ⟨rfl, rfl⟩
          rw [HM.out]
          go_wp2_with fail
          refine (Text_any m 97 _ (by omega)).mono ?_
          rintro e w2 ⟨rfl, hb⟩
          have HB2 : Hid (Below w.heap.size w w2) := HB.out.trans (hb.mono HB.out.size)
          clear hb
          go_wp2_with fail
          go_roundw
          case rel => exact ⟨k + 1, _, _, by omega, by go_num, rfl, rfl, HJ.out, by rw [HTK.out, fit_snoc, ← HF.out, HFV.out]; simp [g1, g2], by simp [zr, z46]; omega, HB2.out⟩
          case measure => simp [intOf]; omega
      · have HJ : Hid (t ++ mk (List.replicate m 97) = mk (dotJoin (runs (x0.take (k + 1))))) := by
          show _ = _
          have e0 : x0.take k = [] := by rw [show k = 0 by omega]; rfl
          rw [HTK.out, runs_snoc, HRV.out, HT.out, e0]
          show mk [] ++ mk (List.replicate m 97) = mk (List.replicate m 97)
          rw [mk_append]; rfl
        cases o <;> rcases m_cases (m : Int) with ⟨g1, g2⟩ | ⟨g1, g2⟩ | ⟨g1, g2⟩
        all_goals
          go_wp2_with fail
          refine (Low_any _ _ _ (by decide) (by decide)).mono ?_
          rintro e w' ⟨rfl, rfl⟩
          rw [HM.out]
          go_wp2_with fail
          refine (Text_any m 97 _ (by omega)).mono ?_
          rintro e w2 ⟨rfl, hb⟩
          have HB2 : Hid (Below w.heap.size w w2) := HB.out.trans (hb.mono HB.out.size)
          clear hb
          go_wp2_with fail
          go_roundw
          case rel => exact ⟨k + 1, _, _, by omega, by go_num, rfl, rfl, HJ.out, by rw [HTK.out, fit_snoc, ← HF.out, HFV.out]; simp [g1, g2], by simp [zr]; omega, HB2.out⟩
          case measure => simp [intOf]; omega
    · have HC : Hid (checkL (ByteArray.mk #[104, 116, 116, 112]).data.toList t.data.toList 1 = (o && decide ((t.size : Int) ≤ 253))) := by
        show _ = _
        have e0 : x0.take k = x0 := List.take_of_length_le (by omega)
        have ht := HT.out
        have hf := HF.out
        rw [e0] at ht hf
        rw [hf]
        exact check_runs x0 (by intro e; rw [e] at hb1; simp at hb1) t ht
      cases o <;> by_cases g1 : (t.size : Int) ≤ 253
      all_goals
        go_wp2_with fail
        refine (Check_any _ _ _ _ (by unfold maxLen; omega)).mono ?_
        rintro e w2 ⟨rfl, hb⟩
        rw [HC.out]
        have HB2 : Hid (Below w.heap.size w w2) := HB.out.trans (hb.mono HB.out.size)
        clear hb
        go_wp2_with fail
        refine (awake3_any _ (HE.out.below HB2.out)).mono ?_
        rintro e w3 ⟨rfl, hb⟩
        go_wp2
        go_ret
        exact ⟨rfl, HB2.out.trans (hb.mono HB2.out.size)⟩
end Go.Proofs.YtbnkfocaegcjdaaDoor
