/-
  Contracts of method's functions over this seat's program: each returns what the plain mathematics says; nothing is written. Conditions: the text's size is such as any text's; the tables are as the program's text lays them.
-/
import Derived.Test.YtpnajoehhjiigaaDoorJEnv
namespace Go.Proofs.YtpnajoehhjiigaaDoor
open Go.RowKit

theorem find_next {p : List UInt8 → Bool} {l : List (List UInt8)} {k : Nat} {m : List UInt8} (hk : l[k]? = some m) (h : (l.take k).find? p = none) (hm : p m = false) : (l.take (k + 1)).find? p = none := by
  have hl : k < l.length := (List.getElem?_eq_some_iff.1 hk).1
  have e : l[k] = m := (List.getElem?_eq_some_iff.1 hk).2
  rw [List.take_succ_eq_append_getElem hl, List.find?_append, h, e]
  simp [hm]
theorem find_here {p : List UInt8 → Bool} {l : List (List UInt8)} {k : Nat} {m : List UInt8} (hk : l[k]? = some m) (h : (l.take k).find? p = none) (hm : p m = true) : l.find? p = some m := by
  have hl : k < l.length := (List.getElem?_eq_some_iff.1 hk).1
  have e : l[k] = m := (List.getElem?_eq_some_iff.1 hk).2
  rw [← List.take_append_drop k l, List.find?_append, h, List.drop_eq_getElem_cons hl, e]
  simp [hm]
theorem any_of_find {p : List UInt8 → Bool} {l : List (List UInt8)} : l.any p = (l.find? p).isSome := by
  induction l with
  | nil => rfl
  | cons x r ih => cases h : p x <;> simp [h, ih]

set_option maxHeartbeats 1000000 in
theorem Norm_any (s : ByteArray) (w : World) (hs : s.size ≤ maxLen) (he : MEnv w) :
    Calls Tryd.prog 9 #[.string s] w fun e w' => e = .returned (.string (mk (Lk.normL s.data.toList))) ∧ ∃ n, w' = w.drewN n := by
  obtain ⟨t, fr, hg⟩ := he.us
  go_enter Tryd.func9, Tryd.ntmps9
  go_wp2_with (refine wpList_load_row rfl 29 _ rfl 0 rfl t _ fr _ hg Tryd.underlying29 rfl (by kernel_rfl) ?_)
  clear hg
  go_loopw [6] (fun i wr => ∃ k m : Nat, k ≤ 6 ∧ i = .int .i64 k ∧ wr = w.drewN m ∧ (Lk.usL.take k).find? (fun x => Lk.foldL x s.data.toList) = none) (fun i _ => 6 - (intOf i).toNat)
  case atStart => exact ⟨0, 0, Nat.zero_le _, rfl, rfl, rfl⟩
  case round =>
    obtain ⟨k, n, hk, rfl, hw, hf⟩ := hrel
    have HF := Lib.hid hf
    have HW := Lib.hid hw
    clear hf hw
    by_cases hlt : k < 6
    · obtain ⟨m, hm, hz, hi⟩ := us_view k hlt
      have HM := Lib.hid hm
      clear hm
      cases hc : Lk.foldL m.data.toList s.data.toList
      · have HC := Lib.hid hc
        clear hc
        go_wp2_with fail
        refine (Fold_any m s _ (by unfold maxLen; omega) hs).mono ?_
        rintro e w1 ⟨rfl, n1, hw1⟩
        rw [HC.out]
        have HW1 := Lib.hid hw1
        clear hw1
        go_wp2
        go_roundw
        case rel => exact ⟨k + 1, n + n1, by omega, by go_num, by rw [HW1.out, HW.out, World.drewN_drewN], find_next HM.out HF.out HC.out⟩
        case measure => simp [intOf]; omega
      · have HC := Lib.hid hc
        clear hc
        go_wp2_with fail
        refine (Fold_any m s _ (by unfold maxLen; omega) hs).mono ?_
        rintro e w1 ⟨rfl, n1, hw1⟩
        rw [HC.out]
        have HW1 := Lib.hid hw1
        clear hw1
        go_wp2
        go_ret
        exact ⟨ret_string (by rw [Lk.normL, find_here HM.out HF.out HC.out]; exact (mk_eq m).symm), n + n1, by rw [HW1.out, HW.out, World.drewN_drewN]⟩
    · obtain rfl : k = 6 := by omega
      go_wp2
      go_ret
      exact ⟨ret_string (by rw [Lk.normL, show Lk.usL = Lk.usL.take 6 from rfl, HF.out]; exact (mk_eq s).symm), n, HW.out⟩

set_option maxHeartbeats 1000000 in
theorem Bars_any (s : ByteArray) (w : World) (hs : s.size ≤ maxLen) (he : MEnv w) :
    Calls Tryd.prog 11 #[.string s] w fun e w' => e = .returned (.bool (Lk.barsL s.data.toList)) ∧ ∃ n, w' = w.drewN n := by
  obtain ⟨t, fr, hg⟩ := he.ba
  go_enter Tryd.func11, Tryd.ntmps11
  go_wp2_with (refine wpList_load_row rfl 31 _ rfl 1 rfl t _ fr _ hg Tryd.underlying31 rfl (by kernel_rfl) ?_)
  clear hg
  go_loopw [6] (fun i wr => ∃ k m : Nat, k ≤ 3 ∧ i = .int .i64 k ∧ wr = w.drewN m ∧ (Lk.baL.take k).find? (fun x => Lk.foldL x s.data.toList) = none) (fun i _ => 3 - (intOf i).toNat)
  case atStart => exact ⟨0, 0, Nat.zero_le _, rfl, rfl, rfl⟩
  case round =>
    obtain ⟨k, n, hk, rfl, hw, hf⟩ := hrel
    have HF := Lib.hid hf
    have HW := Lib.hid hw
    clear hf hw
    by_cases hlt : k < 3
    · obtain ⟨m, hm, hz, hi⟩ := ba_view k hlt
      have HM := Lib.hid hm
      clear hm
      cases hc : Lk.foldL m.data.toList s.data.toList
      · have HC := Lib.hid hc
        clear hc
        go_wp2_with fail
        refine (Fold_any m s _ (by unfold maxLen; omega) hs).mono ?_
        rintro e w1 ⟨rfl, n1, hw1⟩
        rw [HC.out]
        have HW1 := Lib.hid hw1
        clear hw1
        go_wp2
        go_roundw
        case rel => exact ⟨k + 1, n + n1, by omega, by go_num, by rw [HW1.out, HW.out, World.drewN_drewN], find_next HM.out HF.out HC.out⟩
        case measure => simp [intOf]; omega
      · have HC := Lib.hid hc
        clear hc
        go_wp2_with fail
        refine (Fold_any m s _ (by unfold maxLen; omega) hs).mono ?_
        rintro e w1 ⟨rfl, n1, hw1⟩
        rw [HC.out]
        have HW1 := Lib.hid hw1
        clear hw1
        go_wp2
        go_ret
        exact ⟨ret_bool (by rw [Lk.barsL, any_of_find, find_here HM.out HF.out HC.out]; rfl), n + n1, by rw [HW1.out, HW.out, World.drewN_drewN]⟩
    · obtain rfl : k = 3 := by omega
      go_wp2
      go_ret
      exact ⟨ret_bool (by rw [Lk.barsL, any_of_find, show Lk.baL = Lk.baL.take 3 from rfl, HF.out]; rfl), n, HW.out⟩

theorem meth_long {s : List UInt8} (h : ¬ s.length ≤ 32) : Lk.methI s = 5 := by simp [Lk.methI, Lk.okL, h]
theorem meth_tok {s : List UInt8} (h : Lk.tokL s = false) : Lk.methI s = 5 := by simp [Lk.methI, Lk.okL, h]
theorem meth_bars {s : List UInt8} (h : Lk.barsL s = true) : Lk.methI s = 5 := by simp [Lk.methI, Lk.okL, h]
theorem meth_good {s : List UInt8} (h1 : s.length ≤ 32) (h2 : Lk.tokL s = true) (h3 : Lk.barsL s = false) : Lk.methI s = 0 := by simp [Lk.methI, Lk.okL, h1, h2, h3]

set_option maxHeartbeats 1000000 in
theorem Check_any (s : ByteArray) (w : World) (hs : s.size ≤ maxLen) (he : MEnv w) :
    Calls Tryd.prog 13 #[.string s] w fun e w' => e = .returned (.int .i64 (Lk.methI s.data.toList)) ∧ ∃ n, w' = w.drewN n := by
  have HE := Lib.hid he
  clear he
  have hlen : s.data.toList.length = s.size := by simp
  have HLen := Lib.hid hlen
  clear hlen
  by_cases hl : s.size ≤ 32
  · cases ht : Lk.tokL s.data.toList
    · have HT := Lib.hid ht
      clear ht
      go_enter Tryd.func13, Tryd.ntmps13
      go_wp2_with fail
      refine (Token_any s _ hs).mono ?_
      rintro e w' ⟨rfl, rfl⟩
      rw [HT.out]
      go_wp2
      go_ret
      exact ⟨ret_int (meth_tok HT.out).symm, 0, rfl⟩
    · have HT := Lib.hid ht
      clear ht
      cases hb : Lk.barsL s.data.toList
      · have HB := Lib.hid hb
        clear hb
        go_enter Tryd.func13, Tryd.ntmps13
        go_wp2_with fail
        refine (Token_any s _ hs).mono ?_
        rintro e w' ⟨rfl, rfl⟩
        rw [HT.out]
        go_wp2_with fail
        refine (Bars_any s _ hs HE.out).mono ?_
        rintro e w1 ⟨rfl, n, hw⟩
        rw [HB.out]
        have HW := Lib.hid hw
        clear hw
        go_wp2
        go_ret
        exact ⟨ret_int (meth_good (by rw [HLen.out]; exact hl) HT.out HB.out).symm, n, HW.out⟩
      · have HB := Lib.hid hb
        clear hb
        go_enter Tryd.func13, Tryd.ntmps13
        go_wp2_with fail
        refine (Token_any s _ hs).mono ?_
        rintro e w' ⟨rfl, rfl⟩
        rw [HT.out]
        go_wp2_with fail
        refine (Bars_any s _ hs HE.out).mono ?_
        rintro e w1 ⟨rfl, n, hw⟩
        rw [HB.out]
        have HW := Lib.hid hw
        clear hw
        go_wp2
        go_ret
        exact ⟨ret_int (meth_bars HB.out).symm, n, HW.out⟩
  · go_enter Tryd.func13, Tryd.ntmps13
    go_wp2
    go_ret
    exact ⟨ret_int (meth_long (by rw [HLen.out]; exact hl)).symm, 0, rfl⟩

theorem beq_bytes (a : ByteArray) (l : List UInt8) : (a.toList == l) = (a.data.toList == l) := by rw [ByteArray.toList_eq]

set_option maxHeartbeats 1000000 in
theorem Safe_any (s : ByteArray) (w : World) (hs : s.size ≤ maxLen) (he : MEnv w) :
    Calls Tryd.prog 15 #[.string s] w fun e w' => e = .returned (.bool (Lk.safeL s.data.toList)) ∧ ∃ n, w' = w.drewN n := by
  have HE := Lib.hid he
  clear he
  obtain ⟨r, hr⟩ : ∃ r, r = mk (Lk.normL s.data.toList) := ⟨_, rfl⟩
  have HS : Hid (Lk.safeL s.data.toList = ((r.toList == [71, 69, 84]) || (r.toList == [72, 69, 65, 68]) || (r.toList == [80, 79, 83, 84]))) := by
    show _ = _
    simp only [beq_bytes, hr, mk_data]; rfl
  go_enter Tryd.func15, Tryd.ntmps15
  go_wp2_with fail
  refine (Norm_any s _ hs HE.out).mono ?_
  rintro e w1 ⟨rfl, n, hw⟩
  rw [← hr]
  have HW := Lib.hid hw
  clear hw hr
  cases c1 : r.toList == [71, 69, 84] <;> cases c2 : r.toList == [72, 69, 65, 68] <;> cases c3 : r.toList == [80, 79, 83, 84]
  all_goals
    have HQ := HS
    rw [c1, c2, c3] at HQ
    go_wp2
    go_ret
    exact ⟨ret_bool HQ.out.symm, n, HW.out⟩
end Go.Proofs.YtpnajoehhjiigaaDoor
