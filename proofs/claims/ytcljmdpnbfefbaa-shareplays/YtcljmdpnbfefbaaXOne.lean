/-
  Tables of one preflight, or none: what a call is told, and what is behind it. Plain lists and numbers; layer 18's awake. No conditions but those of each statement.
-/
import Derived.Test.YtcljmdpnbfefbaaXAwake
namespace Go.Proofs.Ytcljmdpnbfefbaa
open Go.RowKit

def oneS (n a : Nat) (W : Wt) (is : List Int) : Sv := ⟨n, [⟨a, W, is⟩]⟩
def noS (n : Nat) : Sv := ⟨n, []⟩
section
variable {n a : Nat} {W : Wt} {is : List Int} {i : Int}
theorem home_in (h : i ∈ is) : homeK i (oneS n a W is) = 0 := by unfold homeK oneS; rw [List.findIdx_cons]; simp [hasI, h]
theorem home_out (h : i ∉ is) : homeK i (oneS n a W is) = 1 := by unfold homeK oneS; rw [List.findIdx_cons]; simp [hasI, h]
theorem home_no : ¬ homeK i (noS n) < (noS n).l.length := by simp [noS]
theorem one_len : (oneS n a W is).l.length = 1 := rfl
theorem no_len : (noS n).l.length = 0 := rfl
theorem one_nth : nthP (oneS n a W is).l 0 = ⟨a, W, is⟩ := rfl
theorem one_sum : sumL (oneS n a W is).l = is.length := by simp [oneS, sumL]
theorem one_joinC (h : i ∉ is) (h1 : 1 ≤ i) (h2 : is.length < 64) : joinC i (oneS n a W is) = 0 := by
  unfold joinC
  rw [if_neg (by omega), home_out h, one_len, if_neg (by omega), one_sum, if_neg (by omega)]
theorem no_joinC (h1 : 1 ≤ i) : joinC i (noS n) = 0 := by
  unfold joinC
  rw [if_neg (by omega), if_neg home_no, if_neg (by simp [noS, sumL])]
theorem one_want : wantK W (oneS n a W is) = 0 := by unfold wantK oneS; rw [List.findIdx_cons]; simp [ofB, wB_self]
theorem one_wantNo {V : Wt} (h : W ≠ V) : wantK V (oneS n a W is) = 1 := by unfold wantK oneS; rw [List.findIdx_cons]; simp [ofB, wB_no.2 h]
theorem one_join (h : i ∉ is) (h1 : 1 ≤ i) (h2 : is.length < 64) : joinN W i (oneS n a W is) = a ∧ joinF W i (oneS n a W is) = false ∧ joinC i (oneS n a W is) = 0 ∧ joinS W i (oneS n a W is) = oneS n a W (is ++ [i]) := by
  have hc := one_joinC (n := n) (a := a) (W := W) h h1 h2
  unfold joinN joinF joinS
  rw [one_want, hc, one_len, one_nth, if_pos rfl, if_pos (by omega), if_pos rfl, if_pos (by omega)]
  exact ⟨rfl, decide_eq_false (fun hh => by omega), rfl, rfl⟩
theorem no_join (h1 : 1 ≤ i) : joinN W i (noS n) = n + 1 ∧ joinF W i (noS n) = true ∧ joinC i (noS n) = 0 ∧ joinS W i (noS n) = oneS (n + 1) (n + 1) W [i] := by
  have hc := no_joinC (n := n) h1
  have hw : ¬ wantK W (noS n) < (noS n).l.length := by simp [noS]
  unfold joinN joinF joinS
  rw [hc, if_pos rfl, if_neg hw, if_pos rfl, if_neg hw]
  exact ⟨rfl, decide_eq_true ⟨rfl, hw⟩, rfl, rfl⟩
theorem one_leave (h : i ∈ is) : leaveN i (oneS n a W is) = a ∧ leaveF i (oneS n a W is) = decide (is.length = 1) ∧ leaveO i (oneS n a W is) = true ∧
    leaveS i (oneS n a W is) = if is.length = 1 then noS n else oneS n a W (is.erase i) := by
  have hl : homeK i (oneS n a W is) < (oneS n a W is).l.length := by rw [home_in h, one_len]; omega
  unfold leaveN leaveF leaveO leaveS
  rw [if_pos hl, if_pos hl, home_in h, one_nth, one_len]
  refine ⟨rfl, ?_, rfl, ?_⟩
  · simp
  · by_cases h1 : is.length = 1
    · simp only [h1, if_true]; rfl
    · simp only [h1, if_false]; rfl
theorem one_done : doneR (a : Int) (oneS n a W is) = is ∧ doneS (a : Int) (oneS n a W is) = noS n := by
  have hl : spotK (a : Int) (oneS n a W is) = 0 := by unfold spotK oneS; rw [List.findIdx_cons]; simp [numB]
  unfold doneR doneS
  rw [hl, one_len, if_pos (by omega), if_pos (by omega)]
  exact ⟨rfl, rfl⟩
theorem one_of (h : i ∉ is) : ofN i (oneS n a W is) = 0 := by
  unfold ofN leaveN
  rw [home_out h, one_len, if_neg (by omega)]
theorem no_of : ofN i (noS n) = 0 := by
  unfold ofN leaveN
  rw [if_neg home_no]
/-- a second one, of another want -/
theorem two_join {V : Wt} (hV : W ≠ V) (h : i ∉ is) (h1 : 1 ≤ i) (h2 : is.length < 64) : joinN V i (oneS n a W is) = n + 1 ∧ joinF V i (oneS n a W is) = true ∧ joinC i (oneS n a W is) = 0 ∧ joinS V i (oneS n a W is) = ⟨n + 1, [⟨a, W, is⟩, ⟨n + 1, V, [i]⟩]⟩ := by
  have hc := one_joinC (n := n) (a := a) (W := W) h h1 h2
  unfold joinN joinF joinS
  rw [one_wantNo hV, hc, one_len, if_pos rfl, if_neg (by omega), if_pos rfl, if_neg (by omega)]
  exact ⟨rfl, rfl, rfl, rfl⟩
theorem one_told : wantW (a : Int) (oneS n a W is) = W ∧ wantO (a : Int) (oneS n a W is) = true := by
  have hl : spotK (a : Int) (oneS n a W is) = 0 := by unfold spotK oneS; rw [List.findIdx_cons]; simp [numB]
  unfold wantW wantO
  rw [hl, one_len, if_pos (by omega)]
  exact ⟨rfl, rfl⟩
theorem two_told {b : Nat} {V : Wt} {js : List Int} (h : a ≠ b) : wantW (b : Int) ⟨n, [⟨a, W, is⟩, ⟨b, V, js⟩]⟩ = V ∧ wantO (b : Int) ⟨n, [⟨a, W, is⟩, ⟨b, V, js⟩]⟩ = true := by
  have hl : spotK (b : Int) ⟨n, [⟨a, W, is⟩, ⟨b, V, js⟩]⟩ = 1 := by
    have h' : ¬ ((a : Int) = (b : Int)) := by omega
    unfold spotK; rw [List.findIdx_cons, List.findIdx_cons]; simp [numB, h']
  unfold wantW wantO
  rw [hl]
  exact ⟨rfl, rfl⟩
end
theorem s0_no : s0 = noS 0 := rfl
abbrev putT : ByteArray := ⟨#[80, 85, 84]⟩
def kA : Wt := ⟨noT, noT, false, putT, noT⟩
theorem kA_v : Value.agg #[.string ⟨#[]⟩, .string ⟨#[]⟩, .bool false, .string ⟨#[80, 85, 84]⟩, .string ⟨#[]⟩] = wV kA := rfl

set_option maxHeartbeats 4000000 in
theorem awake18_any (w : World) : Calls Try.prog 7 #[] w fun e w' => e = .returned (.bool true) ∧ Below w.heap.size w w' := by
  have T1 := Lib.hid (no_join (n := 0) (W := kA) (i := 5) (by omega))
  have T2 := Lib.hid (one_join (n := 1) (a := 1) (W := kA) (is := [5]) (i := 3) (by simp) (by omega) (by simp))
  have T3 := Lib.hid (one_leave (n := 1) (a := 1) (W := kA) (is := [5] ++ [3]) (i := 5) (by simp))
  have T4 := Lib.hid (one_done (n := 1) (a := 1) (W := kA) (is := [3]))
  go_enter Try.func7, Try.ntmps7
  go_wp2_with fail
  refine (fNew_any w).mono ?_
  rintro e w1 ⟨g, rfl, hp, ho, hg⟩
  have N1 := Lib.hid (TbN.made (Below.refl _ w) hp ho hg)
  rw [s0_no] at N1
  clear hp ho hg
  obtain ⟨w2, hw2⟩ : ∃ w2, w2 = w1.alloc (.cells #[.string kA.o, .string kA.u, .bool kA.c, .string kA.m, .string kA.s] 31) := ⟨_, rfl⟩
  obtain ⟨B, hB⟩ : ∃ B, B = w1.heap.size := ⟨_, rfl⟩
  have HO2 : Hid (Only [] w1 w2) := by show Only _ _ _; rw [hw2]; exact (Only.refl _ _).alloc _
  have HX2 : Hid (WtAt w2 B 0 kA) := by show WtAt _ _ _ _; rw [hw2, hB]; exact WtAt.new w1 kA _
  have N2 := Lib.hid (N1.out.old HO2.out)
  have HB2 : Hid (B ∉ [g]) := by show _ ∉ _; intro hm; have := N1.out.p.lt hm; omega
  simp only [kA] at hw2
  go_wp2_with fail
  rw [← hw2, ← hB]
  clear hw2 hB
  have hj := fJoin_any kA 5 N2.out.p (by show (0 : Nat) ≤ _; omega)
  rw [T1.out.1, T1.out.2.1, T1.out.2.2.1, T1.out.2.2.2] at hj
  refine hj.mono ?_
  rintro e w3 ⟨rfl, hn⟩
  obtain ⟨f3, n3, ho, hm⟩ := N2.out.step hn
  have N3 := Lib.hid n3
  have HX3 := Lib.hid (HX2.out.only ho HB2.out)
  clear hj hn n3 ho hm
  obtain ⟨d0, d1, d2, d3, d4⟩ := HX3.out
  simp only [kA] at d0 d1 d2 d3 d4
  go_wp2_with fail
  have hj := fJoin_any kA 3 N3.out.p (by show (1 : Nat) ≤ _; omega)
  rw [T2.out.1, T2.out.2.1, T2.out.2.2.1, T2.out.2.2.2] at hj
  refine hj.mono ?_
  rintro e w4 ⟨rfl, hn⟩
  obtain ⟨f4, n4, _, _⟩ := N3.out.step hn
  have N4 := Lib.hid n4
  clear hj hn n4 d0 d1 d2 d3 d4
  go_wp2_with fail
  have hj := fLeave_any 5 N4.out.p
  rw [T3.out.1, T3.out.2.1, T3.out.2.2.1, T3.out.2.2.2] at hj
  rw [if_neg (show ¬ ([5] ++ [3] : List Int).length = 1 by simp), show (([5] ++ [3] : List Int).erase 5) = [3] by simp, show decide (([5] ++ [3] : List Int).length = 1) = false by simp] at hj
  refine hj.mono ?_
  rintro e w5 ⟨rfl, hn⟩
  obtain ⟨f5, n5, _, _⟩ := N4.out.step hn
  have N5 := Lib.hid n5
  clear hj hn n5
  go_wp2_with fail
  have hj := fDone_any ((1 : Nat) : Int) N5.out.p
  rw [T4.out.1, T4.out.2] at hj
  refine hj.mono ?_
  rintro e w6 ⟨r, rfl, hr, _, hn⟩
  obtain ⟨f6, n6, _, _⟩ := N5.out.step hn
  have N6 := Lib.hid n6
  clear hj hn n6
  obtain ⟨A, cap, rfl, hlc, hcm⟩ := hr.slice
  obtain ⟨g6, rfl, hc6⟩ := hr.at_ rfl (k := 0) (by simp)
  clear hr
  simp at hc6 hlc
  go_wp2_with fail
  refine (fLen_any N6.out.p).mono ?_
  rintro e w7 ⟨rfl, ho⟩
  rw [no_len]
  have HB7 := Lib.hid (N6.out.old ho).b
  clear ho
  go_wp2
  go_ret
  exact ⟨rfl, HB7.out⟩
end Go.Proofs.Ytcljmdpnbfefbaa
