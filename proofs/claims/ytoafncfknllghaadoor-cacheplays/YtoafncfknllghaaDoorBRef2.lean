/-
  The contracts of the document's own Method and Header over this seat's program. Conditions: the cache lies there.
-/
import Derived.Test.YtoafncfknllghaaDoorBRef
import Derived.Test.YtoafncfknllghaaDoorLRef1
namespace Go.Proofs.YtoafncfknllghaaDoor
open Go.RowKit

theorem hasL_take {t : Nat} {p : En → Bool} {l : List En} {k : Nat} (hk : k < l.length) : hasL t p (l.take (k + 1)) = (hasL t p (l.take k) || (!expB t (nthE l k) && p (nthE l k))) := by
  unfold hasL
  rw [List.take_succ_eq_append_getElem hk, List.any_append, ← nthE_eq hk]
  simp
theorem hasL_yes {t : Nat} {p : En → Bool} {l : List En} {k : Nat} (hk : k < l.length) (h : (!expB t (nthE l k) && p (nthE l k)) = true) : hasL t p l = true := by
  unfold hasL
  exact List.any_eq_true.2 ⟨_, nthE_mem hk, h⟩

set_option maxRecDepth 8000 in
set_option maxHeartbeats 4000000 in
theorem mMethod_any (g n : Nat) (v : Value) (l : List En) (k0 : Cl) (s : ByteArray) (t : Nat) (w : World) (h : CaAt w g n v l) :
    Calls Tryd.prog 20 #[.pointer (some ⟨g, 0, none⟩), cellV k0, .string s, .int .u64 (t : Int)] w fun r w' => r = .returned (.bool (methL k0 s t l)) ∧ Only [] w w' := by
  obtain ⟨A, cap, hv, hlc, hcm⟩ := h.row.slice
  unfold maxLen at hcm
  have HH := Lib.hid h
  obtain ⟨N, hN⟩ : ∃ N, N = l.length := ⟨_, rfl⟩
  have HN := Lib.hid hN
  rw [← hN] at hv hlc
  clear hN h
  subst hv
  obtain ⟨w1, hw1⟩ : ∃ w1, w1 = w.alloc (.cells #[.string k0.o, .string k0.u, .bool k0.c] 24) := ⟨_, rfl⟩
  obtain ⟨B1, hB1⟩ : ∃ B1, B1 = w.heap.size := ⟨_, rfl⟩
  have HOB : Hid (Only [] w w1) := by show Only _ _ _; rw [hw1]; exact (Only.refl _ _).alloc _
  have HXB : Hid (ClBox w1 B1 k0) := by show ClBox _ _ _; rw [hw1, hB1]; exact ClBox.new _ _ _
  have HH := Lib.hid (HH.out.old HOB.out)
  have HQ : Hid (methL k0 s t l = hasL t (methE k0 s) l) := rfl
  obtain ⟨qc, hqc⟩ : ∃ qc, qc = k0.c := ⟨_, rfl⟩
  have HQC := Lib.hid hqc
  clear hqc
  simp only [cellV]
  go_enter Tryd.func20, Tryd.ntmps20
  go_wp2_with fail
  rw [← hw1, ← hB1]
  clear hw1 hB1
  go_loopw [9] (fun i wr => ∃ k : Nat, k ≤ N ∧ i = .int .i64 k ∧ Only [] w1 wr ∧ ClBox wr B1 k0 ∧ hasL t (methE k0 s) (l.take k) = false) (fun i _ => N - (intOf i).toNat)
  case atStart => exact ⟨0, Nat.zero_le _, rfl, Only.refl _ _, HXB.out, rfl⟩
  case round =>
    obtain ⟨k, hk, rfl, ho, hxb, hf⟩ := hrel
    have HO := Lib.hid ho
    have HX := Lib.hid hxb
    have HF := Lib.hid hf
    clear ho hxb hf
    have HA := Lib.hid (HH.out.old HO.out)
    have hc1 := HA.out.c1
    have hg1 := HA.out.lt
    by_cases hlt : k < N
    · obtain ⟨gi, cap2, hv2, hgi, _, _⟩ := HA.out.row.some_ (by have := HN.out; omega)
      rw [← HN.out] at hv2
      obtain ⟨rfl, rfl⟩ : A = some ⟨gi, 0, none⟩ ∧ cap = cap2 := by
        injection hv2 with e1 e2 e3
        exact ⟨e1, e3⟩
      obtain ⟨f0, f1, f2, f3, f4, f5⟩ := HA.out.row.el (l := l) HN.out (k := k) (by rw [← HN.out]; exact hlt)
      have HT := Lib.hid (hasL_take (p := methE k0 s) (t := t) (l := l) (k := k) (by rw [← HN.out]; exact hlt))
      have HY : Hid ((!expB t (nthE l k) && methE k0 s (nthE l k)) = true → hasL t (methE k0 s) l = true) := fun h => hasL_yes (by rw [← HN.out]; exact hlt) h
      obtain ⟨x, hx⟩ : ∃ x, x = nthE l k := ⟨_, rfl⟩
      rw [← hx] at f0 f1 f2 f3 f4 f5 HT HY
      clear hv2 hx
      obtain ⟨b0, b1, b2⟩ := HX.out
      rw [← HQC.out] at b2
      have hne : B1 ≠ wr.heap.size := by have := HX.out.lt; omega
      have hne2 : B1 < wr.heap.size := HX.out.lt
      obtain ⟨q1, hq1⟩ : ∃ q1, q1 = cellB x.k k0 := ⟨_, rfl⟩
      obtain ⟨q2, hq2⟩ : ∃ q2, q2 = decide (t < x.t) := ⟨_, rfl⟩
      obtain ⟨q3, hq3⟩ : ∃ q3, q3 = noB x.h := ⟨_, rfl⟩
      obtain ⟨q4, hq4⟩ : ∃ q4, q4 = tB x.m s := ⟨_, rfl⟩
      obtain ⟨q5, hq5⟩ : ∃ q5, q5 = tB x.m starT := ⟨_, rfl⟩
      have HE : Hid ((!expB t x && methE k0 s x) = (q1 && q2 && q3 && (q4 || q5 && !qc))) := by
        show _ = _
        rw [hq1, hq2, hq3, hq4, hq5, HQC.out]
        have hex : (!decide (x.t ≤ t)) = decide (t < x.t) := by rw [← decide_not]; exact decide_eq_decide.2 (by omega)
        unfold methE expB
        rw [hex]
        cases cellB x.k k0 <;> cases decide (t < x.t) <;> cases noB x.h <;> cases tB x.m s <;> cases tB x.m starT <;> cases k0.c <;> simp
      rw [HE.out] at HT HY
      have hcmp : ∀ W, (binOp .eql 24 (.agg #[.string x.k.o, .string x.k.u, .bool x.k.c]) (.agg #[.string k0.o, .string k0.u, .bool qc])).run Tryd.prog W = .ok (.bool q1) W := fun W => by rw [HQC.out, eqlE_cell, hq1]
      have h2 : decide (t < x.t) = q2 := hq2.symm
      have h3 := noB_lit x.h
      have h4 := tB_lit x.m s
      have h5 := star_lit x.m
      rw [← hq3] at h3
      rw [← hq4] at h4
      rw [← hq5] at h5
      clear hq1 hq2 hq3 hq4 hq5 HE
      cases q1 with
      | false =>
        go_wp2_with fail
        go_roundw
        case rel => exact ⟨k + 1, by omega, by go_num, HO.out.trans ((Only.refl _ _).alloc _), HX.out.old ((Only.refl _ _).alloc _), by rw [HT.out, HF.out]; rfl⟩
        case measure => simp [intOf]; omega
      | true =>
        cases q2 with
        | false =>
          go_wp2_with fail
          go_roundw
          case rel => exact ⟨k + 1, by omega, by go_num, HO.out.trans ((Only.refl _ _).alloc _), HX.out.old ((Only.refl _ _).alloc _), by rw [HT.out, HF.out]; rfl⟩
          case measure => simp [intOf]; omega
        | true =>
          cases q3 with
          | false =>
            go_wp2_with fail
            go_roundw
            case rel => exact ⟨k + 1, by omega, by go_num, HO.out.trans ((Only.refl _ _).alloc _), HX.out.old ((Only.refl _ _).alloc _), by rw [HT.out, HF.out]; rfl⟩
            case measure => simp [intOf]; omega
          | true =>
            cases q4 with
            | true =>
              go_wp2_with fail
              go_wp2
              go_ret
              exact ⟨ret_bool (by rw [HQ.out, HY.out rfl]), HOB.out.trans (HO.out.trans ((Only.refl _ _).alloc _))⟩
            | false =>
              cases q5 with
              | false =>
                go_wp2_with fail
                go_roundw
                case rel => exact ⟨k + 1, by omega, by go_num, HO.out.trans ((Only.refl _ _).alloc _), HX.out.old ((Only.refl _ _).alloc _), by rw [HT.out, HF.out]; rfl⟩
                case measure => simp [intOf]; omega
              | true =>
                cases qc with
                | false =>
                  go_wp2_with fail
                  go_wp2
                  go_ret
                  exact ⟨ret_bool (by rw [HQ.out, HY.out rfl]), HOB.out.trans (HO.out.trans ((Only.refl _ _).alloc _))⟩
                | true =>
                  go_wp2_with fail
                  go_roundw
                  case rel => exact ⟨k + 1, by omega, by go_num, HO.out.trans ((Only.refl _ _).alloc _), HX.out.old ((Only.refl _ _).alloc _), by rw [HT.out, HF.out]; rfl⟩
                  case measure => simp [intOf]; omega
    · obtain rfl : k = N := by omega
      have HTK : Hid (l.take k = l) := List.take_of_length_le (by have := HN.out; omega)
      rw [HTK.out] at HF
      go_wp2
      go_ret
      exact ⟨ret_bool (by rw [HQ.out, HF.out]), HOB.out.trans HO.out⟩
set_option maxRecDepth 8000 in
set_option maxHeartbeats 4000000 in
theorem mHeader_any (g n : Nat) (v : Value) (l : List En) (k0 : Cl) (s : ByteArray) (t : Nat) (w : World) (h : CaAt w g n v l) (hs : s.size ≤ maxLen) :
    Calls Tryd.prog 24 #[.pointer (some ⟨g, 0, none⟩), cellV k0, .string s, .int .u64 (t : Int)] w fun r w' => r = .returned (.bool (hdrL k0 s t l)) ∧ Only [] w w' := by
  obtain ⟨A, cap, hv, hlc, hcm⟩ := h.row.slice
  unfold maxLen at hcm
  have HH := Lib.hid h
  obtain ⟨N, hN⟩ : ∃ N, N = l.length := ⟨_, rfl⟩
  have HN := Lib.hid hN
  rw [← hN] at hv hlc
  clear hN h
  subst hv
  obtain ⟨w1, hw1⟩ : ∃ w1, w1 = w.alloc (.cells #[.string k0.o, .string k0.u, .bool k0.c] 24) := ⟨_, rfl⟩
  obtain ⟨B1, hB1⟩ : ∃ B1, B1 = w.heap.size := ⟨_, rfl⟩
  have HOB : Hid (Only [] w w1) := by show Only _ _ _; rw [hw1]; exact (Only.refl _ _).alloc _
  have HXB : Hid (ClBox w1 B1 k0) := by show ClBox _ _ _; rw [hw1, hB1]; exact ClBox.new _ _ _
  have HH := Lib.hid (HH.out.old HOB.out)
  obtain ⟨s2, hs2⟩ : ∃ s2, s2 = lowA s := ⟨_, rfl⟩
  have hlow : Calls Tryd.prog 39 #[.string s] w1 fun e w' => e = .returned (.string s2) ∧ Below w1.heap.size w1 w' := by rw [hs2]; exact refLower_any s w1 hs
  have HQ : Hid (hdrL k0 s t l = hasL t (headE k0 s2) l) := by show _ = _; unfold hdrL; rw [hs2]
  have hauth := auth_lit s2
  obtain ⟨za, hza⟩ : ∃ za, za = tB s2 authT := ⟨_, rfl⟩
  rw [← hza] at hauth
  have HZA := Lib.hid hza
  clear hs hs2 hza
  obtain ⟨qc, hqc⟩ : ∃ qc, qc = k0.c := ⟨_, rfl⟩
  have HQC := Lib.hid hqc
  clear hqc
  simp only [cellV]
  go_enter Tryd.func24, Tryd.ntmps24
  go_wp2_with fail
  rw [← hw1, ← hB1]
  clear hw1 hB1
  refine hlow.mono ?_
  rintro r w2 ⟨rfl, ho2⟩
  have HO2 : Hid (Only [] w1 w2) := Only.of_below ho2 []
  have HX2 := Lib.hid (HXB.out.old HO2.out)
  clear hlow ho2
  go_wp2_with fail
  go_loopw [10] (fun i wr => ∃ k : Nat, k ≤ N ∧ i = .int .i64 k ∧ Only [] w1 wr ∧ ClBox wr B1 k0 ∧ hasL t (headE k0 s2) (l.take k) = false) (fun i _ => N - (intOf i).toNat)
  case atStart => exact ⟨0, Nat.zero_le _, rfl, HO2.out, HX2.out, rfl⟩
  case round =>
    obtain ⟨k, hk, rfl, ho, hxb, hf⟩ := hrel
    have HO := Lib.hid ho
    have HX := Lib.hid hxb
    have HF := Lib.hid hf
    clear ho hxb hf
    have HA := Lib.hid (HH.out.old HO.out)
    have hc1 := HA.out.c1
    have hg1 := HA.out.lt
    by_cases hlt : k < N
    · obtain ⟨gi, cap2, hv2, hgi, _, _⟩ := HA.out.row.some_ (by have := HN.out; omega)
      rw [← HN.out] at hv2
      obtain ⟨rfl, rfl⟩ : A = some ⟨gi, 0, none⟩ ∧ cap = cap2 := by
        injection hv2 with e1 e2 e3
        exact ⟨e1, e3⟩
      obtain ⟨f0, f1, f2, f3, f4, f5⟩ := HA.out.row.el (l := l) HN.out (k := k) (by rw [← HN.out]; exact hlt)
      have HT := Lib.hid (hasL_take (p := headE k0 s2) (t := t) (l := l) (k := k) (by rw [← HN.out]; exact hlt))
      have HY : Hid ((!expB t (nthE l k) && headE k0 s2 (nthE l k)) = true → hasL t (headE k0 s2) l = true) := fun h => hasL_yes (by rw [← HN.out]; exact hlt) h
      obtain ⟨x, hx⟩ : ∃ x, x = nthE l k := ⟨_, rfl⟩
      rw [← hx] at f0 f1 f2 f3 f4 f5 HT HY
      clear hv2 hx
      obtain ⟨b0, b1, b2⟩ := HX.out
      rw [← HQC.out] at b2
      have hne : B1 ≠ wr.heap.size := by have := HX.out.lt; omega
      have hne2 : B1 < wr.heap.size := HX.out.lt
      obtain ⟨q1, hq1⟩ : ∃ q1, q1 = cellB x.k k0 := ⟨_, rfl⟩
      obtain ⟨q2, hq2⟩ : ∃ q2, q2 = decide (t < x.t) := ⟨_, rfl⟩
      obtain ⟨q3, hq3⟩ : ∃ q3, q3 = noB x.m := ⟨_, rfl⟩
      obtain ⟨q4, hq4⟩ : ∃ q4, q4 = tB x.h s2 := ⟨_, rfl⟩
      obtain ⟨q5, hq5⟩ : ∃ q5, q5 = tB x.h starT := ⟨_, rfl⟩
      have HE : Hid ((!expB t x && headE k0 s2 x) = (q1 && q2 && q3 && (q4 || q5 && !qc && !za))) := by
        show _ = _
        rw [hq1, hq2, hq3, hq4, hq5, HQC.out, HZA.out]
        have hex : (!decide (x.t ≤ t)) = decide (t < x.t) := by rw [← decide_not]; exact decide_eq_decide.2 (by omega)
        unfold headE expB
        rw [hex]
        cases cellB x.k k0 <;> cases decide (t < x.t) <;> cases noB x.m <;> cases tB x.h s2 <;> cases tB x.h starT <;> cases k0.c <;> simp [Bool.and_comm]
      rw [HE.out] at HT HY
      have hcmp : ∀ W, (binOp .eql 24 (.agg #[.string x.k.o, .string x.k.u, .bool x.k.c]) (.agg #[.string k0.o, .string k0.u, .bool qc])).run Tryd.prog W = .ok (.bool q1) W := fun W => by rw [HQC.out, eqlE_cell, hq1]
      have h2 : decide (t < x.t) = q2 := hq2.symm
      have h3 := noB_lit x.m
      have h4 := tB_lit x.h s2
      have h5 := star_lit x.h
      rw [← hq3] at h3
      rw [← hq4] at h4
      rw [← hq5] at h5
      clear hq1 hq2 hq3 hq4 hq5 HE
      cases q1 with
      | false =>
        go_wp2_with fail
        go_roundw
        case rel => exact ⟨k + 1, by omega, by go_num, HO.out.trans ((Only.refl _ _).alloc _), HX.out.old ((Only.refl _ _).alloc _), by rw [HT.out, HF.out]; rfl⟩
        case measure => simp [intOf]; omega
      | true =>
        cases q2 with
        | false =>
          go_wp2_with fail
          go_roundw
          case rel => exact ⟨k + 1, by omega, by go_num, HO.out.trans ((Only.refl _ _).alloc _), HX.out.old ((Only.refl _ _).alloc _), by rw [HT.out, HF.out]; rfl⟩
          case measure => simp [intOf]; omega
        | true =>
          cases q3 with
          | false =>
            go_wp2_with fail
            go_roundw
            case rel => exact ⟨k + 1, by omega, by go_num, HO.out.trans ((Only.refl _ _).alloc _), HX.out.old ((Only.refl _ _).alloc _), by rw [HT.out, HF.out]; rfl⟩
            case measure => simp [intOf]; omega
          | true =>
            cases q4 with
            | true =>
              go_wp2_with fail
              go_wp2
              go_ret
              exact ⟨ret_bool (by rw [HQ.out, HY.out rfl]), HOB.out.trans (HO.out.trans ((Only.refl _ _).alloc _))⟩
            | false =>
              cases q5 with
              | false =>
                go_wp2_with fail
                go_roundw
                case rel => exact ⟨k + 1, by omega, by go_num, HO.out.trans ((Only.refl _ _).alloc _), HX.out.old ((Only.refl _ _).alloc _), by rw [HT.out, HF.out]; rfl⟩
                case measure => simp [intOf]; omega
              | true =>
                cases qc with
                | false =>
                  cases za with
                  | false =>
                    go_wp2_with fail
                    go_wp2
                    go_ret
                    exact ⟨ret_bool (by rw [HQ.out, HY.out rfl]), HOB.out.trans (HO.out.trans ((Only.refl _ _).alloc _))⟩
                  | true =>
                    go_wp2_with fail
                    go_roundw
                    case rel => exact ⟨k + 1, by omega, by go_num, HO.out.trans ((Only.refl _ _).alloc _), HX.out.old ((Only.refl _ _).alloc _), by rw [HT.out, HF.out]; rfl⟩
                    case measure => simp [intOf]; omega
                | true =>
                  go_wp2_with fail
                  go_roundw
                  case rel => exact ⟨k + 1, by omega, by go_num, HO.out.trans ((Only.refl _ _).alloc _), HX.out.old ((Only.refl _ _).alloc _), by rw [HT.out, HF.out]; rfl⟩
                  case measure => simp [intOf]; omega
    · obtain rfl : k = N := by omega
      have HTK : Hid (l.take k = l) := List.take_of_length_le (by have := HN.out; omega)
      rw [HTK.out] at HF
      go_wp2
      go_ret
      exact ⟨ret_bool (by rw [HQ.out, HF.out]), HOB.out.trans HO.out⟩
end Go.Proofs.YtoafncfknllghaaDoor
