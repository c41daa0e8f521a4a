/-
  The walk of the law TargetUps: whatever the numbers, it returns true, and nothing that was there has turned. Conditions: the arguments are such as any that come in; the library's variables are as they are laid.
-/
import Derived.Test.YtfamllkmmiajoaaDoorHWords
import Derived.Test.YtfamllkmmiajoaaDoorHMath3
import Derived.Test.YtfamllkmmiajoaaDoorOLow
namespace Go.Proofs.YtfamllkmmiajoaaDoor
open Go.RowKit

def segU (m : Int) : List UInt8 := if m = 0 then [97] else if m = 1 then [98, 99] else if m = 2 then [46, 46, 46] else [37, 52, 49]
def segX (x : Int) : List UInt8 := segU (lowV x 4)
def upT (i : Nat) : List UInt8 := if i % 3 = 0 then [46, 46] else if i % 3 = 1 then [46, 37, 50, 101] else [37, 50, 69, 46]
def upsL : Nat → List (List UInt8)
  | 0 => []
  | n + 1 => upsL n ++ [upT n]
theorem segX_ok (x : Int) : dotsL (segX x) = 0 ∧ noSl (segX x) ∧ (segX x).length ≤ 3 := by
  unfold segX segU noSl
  split
  · decide
  · split
    · decide
    · split <;> decide
theorem upT_ok (i : Nat) : dotsL (upT i) = 2 ∧ noSl (upT i) ∧ (upT i).length ≤ 4 := by
  unfold upT noSl
  split
  · decide
  · split <;> decide
theorem ups_mem : ∀ (n : Nat) (s : List UInt8), s ∈ upsL n → ∃ i, s = upT i
  | 0, s, h => by simp [upsL] at h
  | n + 1, s, h => by
    rw [upsL] at h
    rcases List.mem_append.1 h with h | h
    · exact ups_mem n s h
    · simp at h; exact ⟨n, h⟩
theorem ups_len : ∀ n, (upsL n).length = n
  | 0 => rfl
  | n + 1 => by simp [upsL, ups_len n]
theorem clean_upsX (xs : List Int) (k : Nat) : cleanL (47 :: catS (xs.map segX ++ upsL k)) = 47 :: catS ((xs.take (xs.length - k)).map segX) := by
  rw [clean_ups (by intro s hs; obtain ⟨x, _, rfl⟩ := List.mem_map.1 hs; exact (segX_ok x).1) (by intro s hs; obtain ⟨i, rfl⟩ := ups_mem k s hs; exact (upT_ok i).1)
    (by intro s hs; obtain ⟨x, _, rfl⟩ := List.mem_map.1 hs; exact (segX_ok x).2.1) (by intro s hs; obtain ⟨i, rfl⟩ := ups_mem k s hs; exact (upT_ok i).2.1)]
  rw [ups_len, List.length_map, List.map_take]
theorem ba_app (a b : ByteArray) : (a ++ b).data.toList = a.data.toList ++ b.data.toList := by simp
/-- one segment more, a slash behind it -/
def SegT (P : ByteArray) (ss : List (List UInt8)) (n : Nat) : Prop := P.data.toList = 47 :: catS ss ∧ P.size ≤ n
theorem SegT.more {P : ByteArray} {ss : List (List UInt8)} {n m : Nat} (h : SegT P ss n) (x : ByteArray) (s : List UInt8) (hx : x.data.toList = s ++ [47]) (hm : n + s.length + 1 ≤ m) : SegT (P ++ x) (ss ++ [s]) m := by
  have hz : x.size = s.length + 1 := by have := congrArg List.length hx; simpa using this
  refine ⟨?_, ?_⟩
  · rw [ba_app, h.1, hx, catS_append]; simp [catS]
  · have := h.2; simp [ByteArray.size_append]; omega
theorem SegT.le {P : ByteArray} {ss : List (List UInt8)} {n m : Nat} (h : SegT P ss n) (hm : n ≤ m) : SegT P ss m := ⟨h.1, Nat.le_trans h.2 hm⟩

def arr4 : Value := .agg #[.string ⟨#[97]⟩, .string ⟨#[98, 99]⟩, .string ⟨#[46, 46, 46]⟩, .string ⟨#[37, 52, 49]⟩]
def arr3 : Value := .agg #[.string ⟨#[46, 46, 47]⟩, .string ⟨#[46, 37, 50, 101, 47]⟩, .string ⟨#[37, 50, 69, 46, 47]⟩]
theorem idx4_0 (w : World) : (Instr.index 44 arr4 (.int .i64 0)).run Tryd.prog w = .ok (.string ⟨#[97]⟩) w := by kernel_rfl
theorem idx4_1 (w : World) : (Instr.index 44 arr4 (.int .i64 1)).run Tryd.prog w = .ok (.string ⟨#[98, 99]⟩) w := by kernel_rfl
theorem idx4_2 (w : World) : (Instr.index 44 arr4 (.int .i64 2)).run Tryd.prog w = .ok (.string ⟨#[46, 46, 46]⟩) w := by kernel_rfl
theorem idx4_3 (w : World) : (Instr.index 44 arr4 (.int .i64 3)).run Tryd.prog w = .ok (.string ⟨#[37, 52, 49]⟩) w := by kernel_rfl
theorem idx3_0 (w : World) : (Instr.index 45 arr3 (.int .i64 0)).run Tryd.prog w = .ok (.string ⟨#[46, 46, 47]⟩) w := by kernel_rfl
theorem idx3_1 (w : World) : (Instr.index 45 arr3 (.int .i64 1)).run Tryd.prog w = .ok (.string ⟨#[46, 37, 50, 101, 47]⟩) w := by kernel_rfl
theorem idx3_2 (w : World) : (Instr.index 45 arr3 (.int .i64 2)).run Tryd.prog w = .ok (.string ⟨#[37, 50, 69, 46, 47]⟩) w := by kernel_rfl

theorem low4 (x : Int) : (lowV x 4 = 0 ∧ segX x = [97]) ∨ (lowV x 4 = 1 ∧ segX x = [98, 99]) ∨ (lowV x 4 = 2 ∧ segX x = [46, 46, 46]) ∨ (lowV x 4 = 3 ∧ segX x = [37, 52, 49]) := by
  have h := lowV_bd x (n := 4) (by decide)
  unfold segX segU
  rcases (by omega : lowV x 4 = 0 ∨ lowV x 4 = 1 ∨ lowV x 4 = 2 ∨ lowV x 4 = 3) with e | e | e | e <;> simp [e]
theorem mod3 (i : Nat) : (i % 3 = 0 ∧ upT i = [46, 46]) ∨ (i % 3 = 1 ∧ upT i = [46, 37, 50, 101]) ∨ (i % 3 = 2 ∧ upT i = [37, 50, 69, 46]) := by
  unfold upT
  rcases (by omega : i % 3 = 0 ∨ i % 3 = 1 ∨ i % 3 = 2) with e | e | e <;> simp [e]
theorem take_map_step (xs : List Int) (j : Nat) (hj : j < xs.length) : (xs.take (j + 1)).map segX = (xs.take j).map segX ++ [segX xs[j]] := by
  rw [List.take_succ_eq_append_getElem hj, List.map_append]; rfl

set_option maxRecDepth 100000 in
set_option maxHeartbeats 4000000 in
theorem walk_TargetUps (A : Option Addr) (cap : Nat) (xs : List Int) (ups : Int) (w : World) (hA : IArg .i64 w A cap xs) (_hu : (Lit.int .i64 ups).wf = true) (he : Env w) :
    Calls Tryd.prog 9 #[.slice A xs.length cap, .int .i64 ups] w fun e w' => e = .returned (.bool true) ∧ Below w.heap.size w w' := by
  have HE := Lib.hid he
  have i40 := idx4_0
  have i41 := idx4_1
  have i42 := idx4_2
  have i43 := idx4_3
  have i30 := idx3_0
  have i31 := idx3_1
  have i32 := idx3_2
  unfold arr4 at i40 i41 i42 i43
  unfold arr3 at i30 i31 i32
  obtain ⟨hcell, _, hlc, hcm⟩ := hA
  unfold maxLen at hcm
  have HC := Lib.hid hcell
  clear he hcell
  by_cases h30 : 30 < xs.length
  · go_enter Tryd.func9, Tryd.ntmps9
    go_wp2_with fail
    refine (awake_from HE.out (Below.refl _ _)).mono ?_
    rintro e w1 ⟨rfl, hb⟩
    go_wp2
    go_ret
    exact ⟨rfl, hb⟩
  obtain ⟨k, hk⟩ : ∃ k : Nat, lowV ups 41 = (k : Int) := ⟨(lowV ups 41).toNat, by have := lowV_bd ups (n := 41) (by decide); omega⟩
  have hk41 : k < 41 := by have := lowV_bd ups (n := 41) (by decide); omega
  have HK := Lib.hid hk
  clear hk
  have hw1 : IntKind.i64.wrap ((xs.length : Int) - (k : Int)) = (xs.length : Int) - (k : Int) := IntWalk.i64_in _ (by omega)
  go_enter Tryd.func9, Tryd.ntmps9
  go_wp2_with fail
  refine (Low_any ups 41 _ (by decide) (by decide)).mono ?_
  rintro e w' ⟨rfl, rfl⟩
  rw [HK.out]
  go_wp2
  go_loop [6, 7, 8, 9] (fun p q i _ => ∃ (P Q : ByteArray) (j : Nat), p = .string P ∧ q = .string Q ∧ i = .int .i64 j ∧ j ≤ xs.length ∧ SegT P ((xs.take j).map segX) (4 * j + 1) ∧ SegT Q ((xs.take (min j (xs.length - k))).map segX) (4 * j + 1)) (fun _ _ i _ => xs.length - (intOf i).toNat)
  case atStart => exact ⟨⟨#[47]⟩, ⟨#[47]⟩, 0, rfl, rfl, rfl, Nat.zero_le _, ⟨rfl, by decide⟩, ⟨by rw [Nat.zero_min]; rfl, by decide⟩⟩
  case round =>
    obtain ⟨P, Q, j, rfl, rfl, rfl, hj, hP, hQ⟩ := hrel
    have hPz := hP.2
    have hQz := hQ.2
    have HP := Lib.hid hP
    have HQ := Lib.hid hQ
    clear hP hQ
    by_cases hlt : j < xs.length
    · obtain ⟨ad, ea, _, hc⟩ := HC.out j xs[j] (List.getElem?_eq_getElem hlt)
      have HT := Lib.hid (take_map_step xs j hlt)
      have hcs := low4 xs[j]
      have HLn : Hid ((segX xs[j]).length ≤ 3) := (segX_ok xs[j]).2.2
      have HMN : Hid (¬ (j : Int) < (xs.length : Int) - (k : Int) → min (j + 1) (xs.length - k) = min j (xs.length - k)) := by intro h; omega
      have HMY : Hid ((j : Int) < (xs.length : Int) - (k : Int) → min (j + 1) (xs.length - k) = j + 1 ∧ min j (xs.length - k) = j) := by intro h; omega
      generalize xs[j] = x at *
      subst ea
      rcases hcs with ⟨e, sx⟩ | ⟨e, sx⟩ | ⟨e, sx⟩ | ⟨e, sx⟩
      all_goals
        have HLV := Lib.hid e
        have HSX := Lib.hid sx
        clear e sx
        by_cases hq : (j : Int) < (xs.length : Int) - (k : Int)
      all_goals
        go_wp2_with fail
        refine (Low_any x 4 _ (by decide) (by decide)).mono ?_
        rintro e w' ⟨rfl, rfl⟩
        rw [HLV.out]
        go_wp2
        go_round
        case rel =>
          refine ⟨_, _, j + 1, rfl, rfl, by go_num, by omega, ?_, ?_⟩
          · rw [HT.out]
            exact HP.out.more _ _ (by rw [HSX.out]; first | rfl | simp) (by have := HLn.out; omega)
          · first
              | (rw [(HMY.out hq).1, HT.out]
                 have h2 := HQ.out
                 rw [(HMY.out hq).2] at h2
                 exact h2.more _ _ (by rw [HSX.out]; first | rfl | simp) (by have := HLn.out; omega))
              | (rw [HMN.out hq]; exact HQ.out.le (by omega))
        case measure => simp [intOf]; omega
    · obtain rfl : j = xs.length := by omega
      have hPz2 : P.size ≤ 121 := by omega
      have HP2 : Hid (SegT P (xs.map segX) 121) := by have := HP.out; rw [List.take_of_length_le (Nat.le_refl _)] at this; exact this.le (by omega)
      have HQ2 : Hid (SegT Q ((xs.take (xs.length - k)).map segX) 121) := by have := HQ.out; rw [Nat.min_eq_right (by omega)] at this; exact this.le (by omega)
      clear HP HQ hw1
      go_wp2
      go_loop [6, 10] (fun p i => ∃ (R : ByteArray) (m : Nat), p = .string R ∧ i = .int .i64 m ∧ m ≤ k ∧ SegT R (xs.map segX ++ upsL m) (121 + 5 * m)) (fun _ i => k - (intOf i).toNat)
      case atStart => exact ⟨P, 0, rfl, rfl, Nat.zero_le _, by rw [upsL, List.append_nil]; exact HP2.out⟩
      case round =>
        obtain ⟨R, m, rfl, rfl, hm, hR⟩ := hrel
        have hRz := hR.2
        have HR := Lib.hid hR
        clear hR
        by_cases hlt2 : m < k
        · have hcs := mod3 m
          have HLn : Hid ((upT m).length ≤ 4) := (upT_ok m).2.2
          have hmd : ((m : Int)).tmod 3 = ((m % 3 : Nat) : Int) := by rw [Int.tmod_eq_emod_of_nonneg (by omega)]; omega
          rcases hcs with ⟨e, sx⟩ | ⟨e, sx⟩ | ⟨e, sx⟩
          all_goals
            have HSX := Lib.hid sx
            rw [e] at hmd
            clear e sx
            go_wp2
            go_round
            case rel =>
              refine ⟨_, m + 1, rfl, by go_num, by omega, ?_⟩
              rw [upsL, ← List.append_assoc]
              exact HR.out.more _ _ (by rw [HSX.out]; rfl) (by have := HLn.out; omega)
            case measure => simp [intOf]; omega
        · obtain rfl : m = k := by omega
          have hcl : mk (cleanL R.data.toList) = Q := by
            rw [HR.out.1, clean_upsX, ← HQ2.out.1]; exact mk_eq Q
          have HCL := Lib.hid hcl
          clear hcl
          go_wp2_with fail
          refine (Clean_as R Q _ (by omega) HCL.out.symm).mono ?_
          rintro e w1 ⟨rfl, hb1⟩
          go_wp2_with fail
          refine (awake_from HE.out hb1).mono ?_
          rintro e w2 ⟨rfl, hb⟩
          go_wp2
          go_ret
          exact ⟨rfl, hb⟩
end Go.Proofs.YtfamllkmmiajoaaDoor
