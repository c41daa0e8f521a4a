/-
  The plain mathematics and the contracts of method over this seat's program. Conditions: those of each statement.
-/
import Derived.Test.YtlkneapidmdpbaaGreatDoorLBase
import Derived.Test.YtlkneapidmdpbaaGreatDoorLOct2
import Derived.Laws.Rows
namespace Lk

def usL : List (List UInt8) := [[68, 69, 76, 69, 84, 69], [71, 69, 84], [72, 69, 65, 68], [79, 80, 84, 73, 79, 78, 83], [80, 79, 83, 84], [80, 85, 84]]
def baL : List (List UInt8) := [[67, 79, 78, 78, 69, 67, 84], [84, 82, 65, 67, 69], [84, 82, 65, 67, 75]]
def normL (s : List UInt8) : List UInt8 := (usL.find? (fun m => foldL m s)).getD s
def barsL (s : List UInt8) : Bool := baL.any (fun m => foldL m s)
def okL (s : List UInt8) : Bool := decide (s.length ≤ 32) && tokL s && !barsL s
def methI (s : List UInt8) : Int := if okL s then 0 else 5
def safeL (s : List UInt8) : Bool := normL s == [71, 69, 84] || normL s == [72, 69, 65, 68] || normL s == [80, 79, 83, 84]

/-! what the case of letters counts for -/
theorem len_of_lower {a b : List UInt8} (h : lower a = lower b) : a.length = b.length := by
  have := congrArg List.length h; simpa [lower] using this
theorem tok_low (b : UInt8) : tokB (lowU b).toNat = tokB b.toNat := by
  have : ∀ n : Fin 256, tokB (lowU (UInt8.ofNat n.val)).toNat = tokB (UInt8.ofNat n.val).toNat := by decide +kernel
  have h := this ⟨b.toNat, b.toNat_lt⟩
  simpa using h
theorem tokL_low (l : List UInt8) : tokL (lower l) = tokL l := by
  unfold tokL lower
  rw [List.all_map]
  congr 1
  · congr 1; funext b; exact tok_low b
  · cases l <;> rfl
theorem tok_case {a b : List UInt8} (h : lower a = lower b) : tokL a = tokL b := by rw [← tokL_low a, ← tokL_low b, h]
theorem foldL_r {a b : List UInt8} (m : List UInt8) (h : lower a = lower b) : foldL m a = foldL m b := by unfold foldL; rw [h]
theorem find_case {a b : List UInt8} (h : lower a = lower b) : usL.find? (fun m => foldL m a) = usL.find? (fun m => foldL m b) := by
  congr 1; funext m; exact foldL_r m h
theorem bars_case {a b : List UInt8} (h : lower a = lower b) : barsL a = barsL b := by
  unfold barsL; congr 1; funext m; exact foldL_r m h
theorem ok_case {a b : List UInt8} (h : lower a = lower b) : okL a = okL b := by
  unfold okL; rw [bars_case h, tok_case h, len_of_lower h]
theorem meth_case {a b : List UInt8} (h : lower a = lower b) : methI a = methI b := by unfold methI; rw [ok_case h]

theorem norm_view (s : List UInt8) : (∃ m, usL.find? (fun m => foldL m s) = some m ∧ normL s = m ∧ m ∈ usL ∧ lower m = lower s) ∨ (usL.find? (fun m => foldL m s) = none ∧ normL s = s) := by
  cases h : usL.find? (fun m => foldL m s) with
  | none => exact .inr ⟨rfl, by simp [normL, h]⟩
  | some m => exact .inl ⟨m, rfl, by simp [normL, h], List.mem_of_find?_eq_some h, by have := List.find?_some h; simpa [foldL] using this⟩
theorem norm_low (s : List UInt8) : lower (normL s) = lower s := by
  rcases norm_view s with ⟨m, _, e, _, h⟩ | ⟨_, e⟩
  · rw [e, h]
  · rw [e]
theorem norm_len (s : List UInt8) : (normL s).length = s.length := len_of_lower (norm_low s)
theorem norm_norm (s : List UInt8) : normL (normL s) = normL s := by
  rcases norm_view s with ⟨m, hf, e, _, h⟩ | ⟨hf, e⟩
  · have h2 := find_case (norm_low s)
    rw [hf] at h2
    have : normL (normL s) = m := by rw [normL, h2]; rfl
    rw [this, e]
  · rw [e, e]
theorem safe_norm (s : List UInt8) : safeL (normL s) = safeL s := by unfold safeL; rw [norm_norm]
theorem bars_norm (s : List UInt8) : barsL (normL s) = barsL s := bars_case (norm_low s)
theorem meth_norm (s : List UInt8) : methI (normL s) = methI s := meth_case (norm_low s)
theorem safe_ok {s : List UInt8} (h : safeL s = true) : methI s = 0 := by
  have h1 := norm_low s
  rw [← meth_case h1]
  unfold safeL at h
  simp only [Bool.or_eq_true, beq_iff_eq] at h
  rcases h with (e | e) | e <;> rw [e] <;> decide

theorem norm_of {s m : List UInt8} (h : lower s = lower m) (hm : m ∈ usL) : normL s = m := by
  rw [normL, find_case h]
  have : ∀ m ∈ usL, usL.find? (fun x => foldL x m) = some m := by decide
  rw [this m hm]; rfl
theorem norm_other {s m : List UInt8} (h : lower s = lower m) (hm : usL.find? (fun x => foldL x m) = none) : normL s = s := by
  rw [normL, find_case h, hm]; rfl
theorem safe_of {s : List UInt8} {b : Bool} (t : List UInt8) (h : normL s = t) (hb : (t == [71, 69, 84] || t == [72, 69, 65, 68] || t == [80, 79, 83, 84]) = b) : safeL s = b := by
  unfold safeL; rw [h, hb]
theorem safe_case {s m : List UInt8} (h : lower s = lower m) (hn : usL.find? (fun x => foldL x m) = none) : safeL s = false := by
  unfold safeL
  rw [norm_other h hn]
  cases hc : (s == [71, 69, 84] || s == [72, 69, 65, 68] || s == [80, 79, 83, 84])
  · rfl
  · exfalso
    simp only [Bool.or_eq_true, beq_iff_eq] at hc
    have h2 := find_case h
    rw [hn] at h2
    rcases hc with (e | e) | e <;> rw [e] at h2 <;> exact absurd h2 (by decide)

/-! a row of one letter -/
theorem tok_rep : ∀ k : Nat, tokL (List.replicate k 120) = decide (1 ≤ k)
  | 0 => rfl
  | k + 1 => by
    have h1 : (List.replicate (k + 1) (120 : UInt8)).all (fun b => tokB b.toNat) = true := by
      rw [List.all_eq_true]; intro b hb; rw [List.eq_of_mem_replicate hb]; decide
    unfold tokL; rw [h1]; simp [List.replicate_succ]
theorem bars_rep (k : Nat) : barsL (List.replicate k 120) = false := by
  unfold barsL
  rw [List.any_eq_false]
  intro m hm hf
  unfold foldL at hf
  rw [beq_iff_eq] at hf
  cases k with
  | zero => revert hm hf; revert m; decide
  | succ k =>
    rw [List.replicate_succ] at hf
    have h1 := congrArg List.head? hf
    have h2 : (lower (120 :: List.replicate k 120)).head? = some 120 := by simp [lower, lowU]; decide
    rw [h2] at h1
    have : ∀ m ∈ baL, (lower m).head? ≠ some 120 := by decide
    exact this m hm h1
theorem meth_rep (k : Nat) : (methI (List.replicate k 120) == 0) = decide (1 ≤ k ∧ k ≤ 32) := by
  unfold methI okL
  rw [tok_rep, bars_rep, List.length_replicate]
  by_cases h1 : 1 ≤ k <;> by_cases h2 : k ≤ 32 <;> simp [h1, h2]
end Lk

namespace Go.Proofs.YtlkneapidmdpbaaGreatDoor
open Go.RowKit

def usA : Array Value := #[.string ⟨#[68, 69, 76, 69, 84, 69]⟩, .string ⟨#[71, 69, 84]⟩, .string ⟨#[72, 69, 65, 68]⟩, .string ⟨#[79, 80, 84, 73, 79, 78, 83]⟩, .string ⟨#[80, 79, 83, 84]⟩, .string ⟨#[80, 85, 84]⟩]
def baA : Array Value := #[.string ⟨#[67, 79, 78, 78, 69, 67, 84]⟩, .string ⟨#[84, 82, 65, 67, 69]⟩, .string ⟨#[84, 82, 65, 67, 75]⟩]
theorem heap_lt {w : World} {g : Nat} {o : Obj} (h : w.heap[g]? = some o) : g < w.heap.size := (Array.getElem?_eq_some_iff.1 h).1
/-- the tables of methods -/
structure MEnv (w : World) : Prop where
  us : ∃ t fr, w.heap[(0 : Nat)]? = some (.cells usA t fr)
  ba : ∃ t fr, w.heap[(1 : Nat)]? = some (.cells baA t fr)
theorem MEnv.below {w w' : World} (h : MEnv w) (hb : Below w.heap.size w w') : MEnv w' := by
  obtain ⟨⟨t, fr, h1⟩, ⟨t', fr', h2⟩⟩ := h
  exact ⟨⟨t, fr, (hb.block _ (heap_lt h1)).trans h1⟩, ⟨t', fr', (hb.block _ (heap_lt h2)).trans h2⟩⟩
theorem MEnv.drewN {w : World} (h : MEnv w) (n : Nat) : MEnv (w.drewN n) := h.below ⟨rfl, rfl, rfl, Nat.le_refl _, fun _ _ => rfl⟩
theorem MEnv.alloc {w : World} (h : MEnv w) (o : Obj) : MEnv (w.alloc o) := h.below ((Below.refl _ _).alloc (Nat.le_refl _) o)

theorem us_0 (w : World) : (Instr.index 124 (.agg usA) (.int .i64 0)).run Tryz.prog w = .ok (.string ⟨#[68, 69, 76, 69, 84, 69]⟩) w := by kernel_rfl
theorem us_1 (w : World) : (Instr.index 124 (.agg usA) (.int .i64 1)).run Tryz.prog w = .ok (.string ⟨#[71, 69, 84]⟩) w := by kernel_rfl
theorem us_2 (w : World) : (Instr.index 124 (.agg usA) (.int .i64 2)).run Tryz.prog w = .ok (.string ⟨#[72, 69, 65, 68]⟩) w := by kernel_rfl
theorem us_3 (w : World) : (Instr.index 124 (.agg usA) (.int .i64 3)).run Tryz.prog w = .ok (.string ⟨#[79, 80, 84, 73, 79, 78, 83]⟩) w := by kernel_rfl
theorem us_4 (w : World) : (Instr.index 124 (.agg usA) (.int .i64 4)).run Tryz.prog w = .ok (.string ⟨#[80, 79, 83, 84]⟩) w := by kernel_rfl
theorem us_5 (w : World) : (Instr.index 124 (.agg usA) (.int .i64 5)).run Tryz.prog w = .ok (.string ⟨#[80, 85, 84]⟩) w := by kernel_rfl
theorem ba_0 (w : World) : (Instr.index 181 (.agg baA) (.int .i64 0)).run Tryz.prog w = .ok (.string ⟨#[67, 79, 78, 78, 69, 67, 84]⟩) w := by kernel_rfl
theorem ba_1 (w : World) : (Instr.index 181 (.agg baA) (.int .i64 1)).run Tryz.prog w = .ok (.string ⟨#[84, 82, 65, 67, 69]⟩) w := by kernel_rfl
theorem ba_2 (w : World) : (Instr.index 181 (.agg baA) (.int .i64 2)).run Tryz.prog w = .ok (.string ⟨#[84, 82, 65, 67, 75]⟩) w := by kernel_rfl

/-- one of the six, by its number -/
theorem us_view (k : Nat) (h : k < 6) : ∃ m : ByteArray, Lk.usL[k]? = some m.data.toList ∧ m.size ≤ 7 ∧ ∀ w, (Instr.index 124 (.agg usA) (.int .i64 (k : Int))).run Tryz.prog w = .ok (.string m) w := by
  match k, h with
  | 0, _ => exact ⟨_, rfl, by decide, us_0⟩
  | 1, _ => exact ⟨_, rfl, by decide, us_1⟩
  | 2, _ => exact ⟨_, rfl, by decide, us_2⟩
  | 3, _ => exact ⟨_, rfl, by decide, us_3⟩
  | 4, _ => exact ⟨_, rfl, by decide, us_4⟩
  | 5, _ => exact ⟨_, rfl, by decide, us_5⟩
theorem ba_view (k : Nat) (h : k < 3) : ∃ m : ByteArray, Lk.baL[k]? = some m.data.toList ∧ m.size ≤ 7 ∧ ∀ w, (Instr.index 181 (.agg baA) (.int .i64 (k : Int))).run Tryz.prog w = .ok (.string m) w := by
  match k, h with
  | 0, _ => exact ⟨_, rfl, by decide, ba_0⟩
  | 1, _ => exact ⟨_, rfl, by decide, ba_1⟩
  | 2, _ => exact ⟨_, rfl, by decide, ba_2⟩
end Go.Proofs.YtlkneapidmdpbaaGreatDoor

namespace Go.Proofs.YtlkneapidmdpbaaGreatDoor
open Go.RowKit

theorem find_next {p : List UInt8 → Bool} {l : List (List UInt8)} {k : Nat} {m : List UInt8} (hk : l[k]? = some m) (h : (l.take k).find? p = none) (hm : p m = false) : (l.take (k + 1)).find? p = none := by
  have hl : k < l.length := (List.getElem?_eq_some_iff.1 hk).1
  have e : l[k] = m := (List.getElem?_eq_some_iff.1 hk).2
  rw [List.take_succ_eq_append_getElem hl, List.find?_append, h, e]
  simp [hm]
theorem find_here {p : List UInt8 → Bool} {l : List (List UInt8)} {k : Nat} {m : List UInt8} (hk : l[k]? = some m) (h : (l.take k).find? p = none) (hm : p m = true) : l.find? p = some m := by
  have hl : k < l.length := (List.getElem?_eq_some_iff.1 hk).1
  have e : l[k] = m := (List.getElem?_eq_some_iff.1 hk).2
  rw [← List.take_append_drop k l, List.find?_append, h, List.drop_eq_getElem_cons hl, e]
  simp [hm]
theorem any_of_find {p : List UInt8 → Bool} {l : List (List UInt8)} : l.any p = (l.find? p).isSome := by
  induction l with
  | nil => rfl
  | cons x r ih => cases h : p x <;> simp [h, ih]

set_option maxHeartbeats 1000000 in
theorem MNorm_any (s : ByteArray) (w : World) (hs : s.size ≤ maxLen) (he : MEnv w) :
    Calls Tryz.prog 60 #[.string s] w fun e w' => e = .returned (.string (mk (Lk.normL s.data.toList))) ∧ ∃ n, w' = w.drewN n := by
  obtain ⟨t, fr, hg⟩ := he.us
  go_enter Tryz.func60, Tryz.ntmps60
  go_wp2_with (refine wpList_load_row rfl 124 _ rfl 0 rfl t _ fr _ hg Tryz.underlying124 rfl (by kernel_rfl) ?_)
  clear hg
  go_loopw [6] (fun i wr => ∃ k m : Nat, k ≤ 6 ∧ i = .int .i64 k ∧ wr = w.drewN m ∧ (Lk.usL.take k).find? (fun x => Lk.foldL x s.data.toList) = none) (fun i _ => 6 - (intOf i).toNat)
  case atStart => exact ⟨0, 0, Nat.zero_le _, rfl, rfl, rfl⟩
  case round =>
    obtain ⟨k, n, hk, rfl, hw, hf⟩ := hrel
    have HF := Lib.hid hf
    have HW := Lib.hid hw
    clear hf hw
    by_cases hlt : k < 6
    · obtain ⟨m, hm, hz, hi⟩ := us_view k hlt
      have HM := Lib.hid hm
      clear hm
      cases hc : Lk.foldL m.data.toList s.data.toList
      · have HC := Lib.hid hc
        clear hc
        go_wp2_with fail
        refine (Fold_any m s _ (by unfold maxLen; omega) hs).mono ?_
        rintro e w1 ⟨rfl, n1, hw1⟩
        rw [HC.out]
        have HW1 := Lib.hid hw1
        clear hw1
        go_wp2
        go_roundw
        case rel => exact ⟨k + 1, n + n1, by omega, by go_num, by rw [HW1.out, HW.out, World.drewN_drewN], find_next HM.out HF.out HC.out⟩
        case measure => simp [intOf]; omega
      · have HC := Lib.hid hc
        clear hc
        go_wp2_with fail
        refine (Fold_any m s _ (by unfold maxLen; omega) hs).mono ?_
        rintro e w1 ⟨rfl, n1, hw1⟩
        rw [HC.out]
        have HW1 := Lib.hid hw1
        clear hw1
        go_wp2
        go_ret
        exact ⟨ret_string (by rw [Lk.normL, find_here HM.out HF.out HC.out]; exact (mk_eq m).symm), n + n1, by rw [HW1.out, HW.out, World.drewN_drewN]⟩
    · obtain rfl : k = 6 := by omega
      go_wp2
      go_ret
      exact ⟨ret_string (by rw [Lk.normL, show Lk.usL = Lk.usL.take 6 from rfl, HF.out]; exact (mk_eq s).symm), n, HW.out⟩

set_option maxHeartbeats 1000000 in
theorem Bars_any (s : ByteArray) (w : World) (hs : s.size ≤ maxLen) (he : MEnv w) :
    Calls Tryz.prog 185 #[.string s] w fun e w' => e = .returned (.bool (Lk.barsL s.data.toList)) ∧ ∃ n, w' = w.drewN n := by
  obtain ⟨t, fr, hg⟩ := he.ba
  go_enter Tryz.func185, Tryz.ntmps185
  go_wp2_with (refine wpList_load_row rfl 181 _ rfl 1 rfl t _ fr _ hg Tryz.underlying181 rfl (by kernel_rfl) ?_)
  clear hg
  go_loopw [6] (fun i wr => ∃ k m : Nat, k ≤ 3 ∧ i = .int .i64 k ∧ wr = w.drewN m ∧ (Lk.baL.take k).find? (fun x => Lk.foldL x s.data.toList) = none) (fun i _ => 3 - (intOf i).toNat)
  case atStart => exact ⟨0, 0, Nat.zero_le _, rfl, rfl, rfl⟩
  case round =>
    obtain ⟨k, n, hk, rfl, hw, hf⟩ := hrel
    have HF := Lib.hid hf
    have HW := Lib.hid hw
    clear hf hw
    by_cases hlt : k < 3
    · obtain ⟨m, hm, hz, hi⟩ := ba_view k hlt
      have HM := Lib.hid hm
      clear hm
      cases hc : Lk.foldL m.data.toList s.data.toList
      · have HC := Lib.hid hc
        clear hc
        go_wp2_with fail
        refine (Fold_any m s _ (by unfold maxLen; omega) hs).mono ?_
        rintro e w1 ⟨rfl, n1, hw1⟩
        rw [HC.out]
        have HW1 := Lib.hid hw1
        clear hw1
        go_wp2
        go_roundw
        case rel => exact ⟨k + 1, n + n1, by omega, by go_num, by rw [HW1.out, HW.out, World.drewN_drewN], find_next HM.out HF.out HC.out⟩
        case measure => simp [intOf]; omega
      · have HC := Lib.hid hc
        clear hc
        go_wp2_with fail
        refine (Fold_any m s _ (by unfold maxLen; omega) hs).mono ?_
        rintro e w1 ⟨rfl, n1, hw1⟩
        rw [HC.out]
        have HW1 := Lib.hid hw1
        clear hw1
        go_wp2
        go_ret
        exact ⟨ret_bool (by rw [Lk.barsL, any_of_find, find_here HM.out HF.out HC.out]; rfl), n + n1, by rw [HW1.out, HW.out, World.drewN_drewN]⟩
    · obtain rfl : k = 3 := by omega
      go_wp2
      go_ret
      exact ⟨ret_bool (by rw [Lk.barsL, any_of_find, show Lk.baL = Lk.baL.take 3 from rfl, HF.out]; rfl), n, HW.out⟩

theorem meth_long {s : List UInt8} (h : ¬ s.length ≤ 32) : Lk.methI s = 5 := by simp [Lk.methI, Lk.okL, h]
theorem meth_tok {s : List UInt8} (h : Lk.tokL s = false) : Lk.methI s = 5 := by simp [Lk.methI, Lk.okL, h]
theorem meth_bars {s : List UInt8} (h : Lk.barsL s = true) : Lk.methI s = 5 := by simp [Lk.methI, Lk.okL, h]
theorem meth_good {s : List UInt8} (h1 : s.length ≤ 32) (h2 : Lk.tokL s = true) (h3 : Lk.barsL s = false) : Lk.methI s = 0 := by simp [Lk.methI, Lk.okL, h1, h2, h3]

set_option maxHeartbeats 1000000 in
theorem MCheck_any (s : ByteArray) (w : World) (hs : s.size ≤ maxLen) (he : MEnv w) :
    Calls Tryz.prog 151 #[.string s] w fun e w' => e = .returned (.int .i64 (Lk.methI s.data.toList)) ∧ ∃ n, w' = w.drewN n := by
  have HE := Lib.hid he
  clear he
  have hlen : s.data.toList.length = s.size := by simp
  have HLen := Lib.hid hlen
  clear hlen
  by_cases hl : s.size ≤ 32
  · cases ht : Lk.tokL s.data.toList
    · have HT := Lib.hid ht
      clear ht
      go_enter Tryz.func151, Tryz.ntmps151
      go_wp2_with fail
      refine (Token_any s _ hs).mono ?_
      rintro e w' ⟨rfl, rfl⟩
      rw [HT.out]
      go_wp2
      go_ret
      exact ⟨ret_int (meth_tok HT.out).symm, 0, rfl⟩
    · have HT := Lib.hid ht
      clear ht
      cases hb : Lk.barsL s.data.toList
      · have HB := Lib.hid hb
        clear hb
        go_enter Tryz.func151, Tryz.ntmps151
        go_wp2_with fail
        refine (Token_any s _ hs).mono ?_
        rintro e w' ⟨rfl, rfl⟩
        rw [HT.out]
        go_wp2_with fail
        refine (Bars_any s _ hs HE.out).mono ?_
        rintro e w1 ⟨rfl, n, hw⟩
        rw [HB.out]
        have HW := Lib.hid hw
        clear hw
        go_wp2
        go_ret
        exact ⟨ret_int (meth_good (by rw [HLen.out]; exact hl) HT.out HB.out).symm, n, HW.out⟩
      · have HB := Lib.hid hb
        clear hb
        go_enter Tryz.func151, Tryz.ntmps151
        go_wp2_with fail
        refine (Token_any s _ hs).mono ?_
        rintro e w' ⟨rfl, rfl⟩
        rw [HT.out]
        go_wp2_with fail
        refine (Bars_any s _ hs HE.out).mono ?_
        rintro e w1 ⟨rfl, n, hw⟩
        rw [HB.out]
        have HW := Lib.hid hw
        clear hw
        go_wp2
        go_ret
        exact ⟨ret_int (meth_bars HB.out).symm, n, HW.out⟩
  · go_enter Tryz.func151, Tryz.ntmps151
    go_wp2
    go_ret
    exact ⟨ret_int (meth_long (by rw [HLen.out]; exact hl)).symm, 0, rfl⟩

theorem beq_bytes (a : ByteArray) (l : List UInt8) : (a.toList == l) = (a.data.toList == l) := by rw [ByteArray.toList_eq]

set_option maxHeartbeats 1000000 in
theorem Safe_any (s : ByteArray) (w : World) (hs : s.size ≤ maxLen) (he : MEnv w) :
    Calls Tryz.prog 31 #[.string s] w fun e w' => e = .returned (.bool (Lk.safeL s.data.toList)) ∧ ∃ n, w' = w.drewN n := by
  have HE := Lib.hid he
  clear he
  obtain ⟨r, hr⟩ : ∃ r, r = mk (Lk.normL s.data.toList) := ⟨_, rfl⟩
  have HS : Hid (Lk.safeL s.data.toList = ((r.toList == [71, 69, 84]) || (r.toList == [72, 69, 65, 68]) || (r.toList == [80, 79, 83, 84]))) := by
    show _ = _
    simp only [beq_bytes, hr, mk_data]; rfl
  go_enter Tryz.func31, Tryz.ntmps31
  go_wp2_with fail
  refine (MNorm_any s _ hs HE.out).mono ?_
  rintro e w1 ⟨rfl, n, hw⟩
  rw [← hr]
  have HW := Lib.hid hw
  clear hw hr
  cases c1 : r.toList == [71, 69, 84] <;> cases c2 : r.toList == [72, 69, 65, 68] <;> cases c3 : r.toList == [80, 79, 83, 84]
  all_goals
    have HQ := HS
    rw [c1, c2, c3] at HQ
    go_wp2
    go_ret
    exact ⟨ret_bool HQ.out.symm, n, HW.out⟩
end Go.Proofs.YtlkneapidmdpbaaGreatDoor
