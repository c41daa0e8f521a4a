/-
  Contracts of target over this seat's program. Conditions: those of each statement.
-/
import Derived.Test.YtlkneapidmdpbaaGreatDoorLOrg
import Derived.Test.YtlkneapidmdpbaaGreatDoorLBase
import Derived.Test.YtlkneapidmdpbaaGreatDoorLRef1
import Derived.Lib.IndexAny
import Derived.Test.YtlkneapidmdpbaaGreatDoorLAny
import Derived.Laws.RangeAny
import Derived.Laws.Runes
import Derived.WalkMore
import Derived.Deep.LoopGhost
import Derived.Test.YtlkneapidmdpbaaGreatDoorLOnly
import Derived.Lib.AppendStr
import Derived.Laws.MakeOwn
import Derived.KernelRfl
import Derived.Test.YtlkneapidmdpbaaGreatDoorLOct2
namespace Go.Proofs.YtlkneapidmdpbaaGreatDoor
open Go.RowKit

theorem IndexByte_in (bar : ByteArray) (c : UInt8) (w : World) : ∃ i : Int, decide (0 ≤ i) = bar.data.toList.contains c ∧
    Calls Tryz.prog 180 #[.string bar, .int .u8 (c.toNat : Int)] w fun e w' => e = .returned (.int .i64 i) ∧ w = w' := by
  refine ⟨Lib.indexByte bar.data.toList c, (Lib.contains_iff_indexByte _ _).symm, ?_⟩
  refine (Tryz.strings_IndexByte bar (c.toNat : Int) w).mono ?_
  rintro e w' ⟨rfl, rfl⟩
  exact ⟨by simp, rfl⟩

theorem freeB_lo {bar : List UInt8} {b : UInt8} (h : b.toNat < 33) : freeB bar b = false := by
  have : decide (33 ≤ b.toNat) = false := by simp; omega
  unfold freeB; rw [this]; rfl
theorem freeB_hi {bar : List UInt8} {b : UInt8} (h : 126 < b.toNat) : freeB bar b = false := by
  have : decide (b.toNat ≤ 126) = false := by simp; omega
  unfold freeB; rw [this]; simp
theorem freeB_mid {bar : List UInt8} {b : UInt8} (h1 : ¬ b.toNat < 33) (h2 : ¬ 126 < b.toNat) : freeB bar b = !bar.contains b := by
  have e1 : decide (33 ≤ b.toNat) = true := by simp; omega
  have e2 : decide (b.toNat ≤ 126) = true := by simp; omega
  unfold freeB; rw [e1, e2]; rfl

set_option maxHeartbeats 1000000 in
theorem isFree_any (s bar : ByteArray) (w : World) (hs : s.size ≤ maxLen) :
    Calls Tryz.prog 147 #[.string s, .string bar] w fun e w' => e = .returned (.bool (freeL bar.data.toList s.data.toList)) ∧ w = w' := by
  unfold maxLen at hs
  go_enter Tryz.func147, Tryz.ntmps147
  go_wp2
  go_loop [5, 6, 9] (fun _ _ i => ∃ k : Nat, k ≤ s.size ∧ i = .int .i64 k ∧ (s.data.toList.take k).all (freeB bar.data.toList) = true) (fun _ _ i => s.size - (intOf i).toNat)
  case atStart => exact ⟨0, Nat.zero_le _, rfl, rfl⟩
  case round =>
    obtain ⟨k, hk, rfl, ha⟩ := hrel
    have HA := Lib.hid ha
    clear ha
    by_cases hlt : k < s.size
    · have hb := Lk.byte_bd s[k]
      obtain ⟨i, hi, hcall⟩ := IndexByte_in bar s[k] w
      have HI := Lib.hid hcall
      have HC := Lib.hid hi
      clear hcall hi
      by_cases h1 : s[k].toNat < 33
      · have HN : Hid (freeB bar.data.toList s[k] = false) := freeB_lo h1
        go_wp2
        go_ret
        exact ⟨ret_bool (by rw [freeL, Lk.all_no hlt HN.out]), rfl⟩
      by_cases h2 : 126 < s[k].toNat
      · have HN : Hid (freeB bar.data.toList s[k] = false) := freeB_hi h2
        go_wp2
        go_ret
        exact ⟨ret_bool (by rw [freeL, Lk.all_no hlt HN.out]), rfl⟩
      have HG : Hid (freeB bar.data.toList s[k] = !decide (0 ≤ i)) := by show _ = _; rw [HC.out]; exact freeB_mid h1 h2
      by_cases h3 : 0 ≤ i
      · have HN : Hid (freeB bar.data.toList s[k] = false) := by show _ = _; rw [HG.out]; simpa using h3
        go_wp2_with (go_at_call 180; refine HI.out.mono ?_; rintro e w' ⟨rfl, rfl⟩)
        go_ret
        exact ⟨ret_bool (by rw [freeL, Lk.all_no hlt HN.out]), rfl⟩
      · have HY : Hid (freeB bar.data.toList s[k] = true) := by show _ = _; rw [HG.out]; simpa using h3
        go_wp2_with (go_at_call 180; refine HI.out.mono ?_; rintro e w' ⟨rfl, rfl⟩)
        go_round
        case rel => exact ⟨k + 1, by omega, by go_num, Lk.all_step hlt HA.out HY.out⟩
        case measure => simp [intOf]; omega
    · go_wp2
      go_ret
      exact ⟨ret_bool (by have := HA.out; rw [Lk.take_all s k (by omega)] at this; rw [freeL, this]), rfl⟩

theorem query_eq (s : ByteArray) (h0 : 0 < s.size) : queryL s.data.toList = (((s[0].toNat : Int) == 63) && freeL noQueryL s.data.toList) := by
  have e0 : s.data.toList.head? = some s[0] := by
    rw [List.head?_eq_getElem?, List.getElem?_eq_getElem (by simpa using h0)]; rfl
  have e1 : s.data.toList.isEmpty = false := by cases h : s.data.toList; (rw [h] at e0; simp at e0); rfl
  have b : ∀ c : UInt8, ((some c : Option UInt8) == some 63) = ((c.toNat : Int) == 63) := by
    intro c
    rw [Bool.eq_iff_iff, beq_iff_eq, beq_iff_eq]
    constructor
    · intro h; injection h with h; subst h; rfl
    · intro h; exact congrArg some (UInt8.toNat_inj.1 (by simpa using (by omega : c.toNat = 63)))
  unfold queryL
  rw [e0, e1, b]; rfl

set_option maxHeartbeats 1000000 in
theorem isQuery_any (s : ByteArray) (w : World) (hs : s.size ≤ maxLen) :
    Calls Tryz.prog 158 #[.string s] w fun e w' => e = .returned (.bool (queryL s.data.toList)) ∧ w = w' := by
  by_cases h0 : s.size = 0
  · have hn : s.data.toList = [] := List.length_eq_zero_iff.1 (by simpa using h0)
    have he : s.toList.isEmpty = true := ba_isEmpty hn
    have HE : Hid (queryL s.data.toList = true) := by show _ = _; rw [hn]; rfl
    clear hn
    go_enter Tryz.func158, Tryz.ntmps158
    go_wp2
    go_ret
    exact ⟨ret_bool HE.out.symm, rfl⟩
  have h1 : 0 < s.size := by omega
  have he : s.toList.isEmpty = false := ba_notEmpty (by intro h; have := congrArg List.length h; rw [show s.data.toList.length = s.size by simp] at this; exact h0 this)
  have HQ := Lib.hid (query_eq s h1)
  cases hq : ((s[0].toNat : Int) == 63)
  · go_enter Tryz.func158, Tryz.ntmps158
    go_wp2
    go_ret
    exact ⟨ret_bool (by rw [HQ.out, hq]; rfl), rfl⟩
  · go_enter Tryz.func158, Tryz.ntmps158
    go_wp2_with (go_at_call 147; refine (isFree_any _ _ _ hs).mono ?_; rintro e w' ⟨rfl, rfl⟩)
    go_ret
    exact ⟨ret_bool (by rw [HQ.out, hq]; rfl), rfl⟩

set_option maxHeartbeats 1000000 in
theorem dotsOf_any (s : ByteArray) (w : World) (hs : s.size ≤ maxLen) :
    Calls Tryz.prog 182 #[.string s] w fun e w' => e = .returned (.int .i64 (dotsL s.data.toList)) ∧ Below w.heap.size w w' := by
  have hs0 := hs
  unfold maxLen at hs
  by_cases h6 : 6 < s.size
  · have HD : Hid (dotsL s.data.toList = 0) := dots_long (by simpa using h6)
    go_enter Tryz.func182, Tryz.ntmps182
    go_wp2
    go_ret
    exact ⟨ret_int HD.out.symm, Below.refl _ _⟩
  obtain ⟨t, ht⟩ : ∃ t : ByteArray, t = mk (Lk.lower s.data.toList) := ⟨_, rfl⟩
  have HT := Lib.hid ht
  have HD : Hid (dotsL s.data.toList = dotsT t.data.toList) := by show _ = _; rw [ht, mk_data]; rfl
  clear ht
  go_enter Tryz.func182, Tryz.ntmps182
  go_wp2_with fail
  refine (Lower_as s t _ hs0 HT.out).mono ?_
  rintro e w1 ⟨rfl, hb⟩
  go_wp2
  all_goals
    go_ret
    exact ⟨ret_int (by rw [HD.out]; simp_all [dotsT, ByteArray.toList_eq]), hb⟩

set_option maxHeartbeats 1000000 in
theorem refDots_any (s : ByteArray) (w : World) (hs : s.size ≤ maxLen) :
    Calls Tryz.prog 171 #[.string s] w fun e w' => e = .returned (.int .i64 (dotsL s.data.toList)) ∧ Below w.heap.size w w' := by
  have hs0 := hs
  obtain ⟨t, ht⟩ : ∃ t : ByteArray, t = mk (Lk.lower s.data.toList) := ⟨_, rfl⟩
  have HT := Lib.hid ht
  have HD : Hid (dotsL s.data.toList = dotsT t.data.toList) := by show _ = _; rw [ht, mk_data]; rfl
  clear ht
  go_enter Tryz.func171, Tryz.ntmps171
  go_wp2_with fail
  refine (show Calls Tryz.prog 94 #[.string s] _ fun e w' => e = .returned (.string t) ∧ Below _ _ w' by rw [HT.out]; exact refLower_any s _ hs0).mono ?_
  rintro e w1 ⟨rfl, hb⟩
  go_wp2
  all_goals
    go_ret
    exact ⟨ret_int (by rw [HD.out]; simp_all [dotsT, ByteArray.toList_eq]), hb⟩
end Go.Proofs.YtlkneapidmdpbaaGreatDoor

namespace Go.Proofs.YtlkneapidmdpbaaGreatDoor
open Go.RowKit

theorem noAny_wide {s : ByteArray} {pos : Nat} (h : pos < s.size) (ha : 128 ≤ s[pos].toNat) (hno : Lib.NoAny s.data.toList [47, 63] pos) :
    Lib.NoAny s.data.toList [47, 63] (pos + (Utf8.decode s pos).2) := by
  intro j b hj hb
  by_cases hlt : j < pos
  · exact hno j b hlt hb
  · have hjs : j < s.size := by have := (List.getElem?_eq_some_iff.1 hb).1; simpa using this
    have h2 := (decode_wide s pos h (by rw [get_bang s pos h]; exact ha)).2.2 j (by omega) hj
    rw [get_bang s j hjs] at h2
    have e : s[j] = b := by
      have := (List.getElem?_eq_some_iff.1 hb).2
      rw [← this]; rfl
    rw [e] at h2
    have n1 : b ≠ 47 := by rintro rfl; simp at h2
    have n2 : b ≠ 63 := by rintro rfl; simp at h2
    simp [n1, n2]

theorem sq_size : (⟨#[47, 63]⟩ : ByteArray).size = 2 := rfl
theorem sq_get0 : ((⟨#[47, 63]⟩ : ByteArray)[0]'(by decide)).toNat = 47 := rfl
theorem sq_get1 : ((⟨#[47, 63]⟩ : ByteArray)[1]'(by decide)).toNat = 63 := rfl

theorem two_bytes {t : ByteArray} (h : t.size = 2) : ∃ a b, t = ⟨#[a, b]⟩ := by
  match t, h with
  | ⟨⟨[a, b]⟩⟩, _ => exact ⟨a, b, rfl⟩
theorem IndexByte_nil (x : ByteArray) (c : Int) (w : World) (hx : x.data.toList = []) :
    Calls Tryz.prog 180 #[.string x, .int .u8 c] w fun e w' => e = .returned (.int .i64 (-1)) ∧ w = w' := by
  refine (Tryz.strings_IndexByte x c w).mono ?_
  rintro e w' ⟨rfl, rfl⟩
  exact ⟨by rw [hx]; rfl, rfl⟩

set_option maxRecDepth 100000 in
set_option maxHeartbeats 4000000 in
theorem IndexRune_high (r : Int) (w : World) (h1 : 128 ≤ r) (h2 : r ≤ 2147483647) :
    Calls Tryz.prog 202 #[.string ⟨#[47, 63]⟩, .int .i32 r] w fun e w' => e = .returned (.int .i64 (-1)) ∧ Below w.heap.size w w' := by
  by_cases he : r = 65533
  · subst he
    go_enter Tryz.func202, Tryz.ntmps202
    go_wp2
    go_loopg [5, 6] 2 (fun g _ _ wx => ∃ i : Nat, i + g = 2 ∧ wx = w.iter ⟨#[47, 63]⟩ i)
    case atStart => exact ⟨0, rfl, rfl⟩
    case round =>
      obtain ⟨i, hig, rfl⟩ := hrel
      rcases (by omega : i = 0 ∨ i = 1 ∨ i = 2) with rfl | rfl | rfl
      · obtain rfl : gk = 2 := by omega
        have hnx := fun ty => run_next_ascii (P := Tryz.prog) w ⟨#[47, 63]⟩ 0 ty (by decide) (by decide)
        rw [sq_get0] at hnx
        go_wp2
        go_roundg 1
        case measure => omega
        case rel => exact ⟨1, rfl, rfl⟩
      · obtain rfl : gk = 1 := by omega
        have hnx := fun ty => run_next_ascii (P := Tryz.prog) w ⟨#[47, 63]⟩ 1 ty (by decide) (by decide)
        rw [sq_get1] at hnx
        go_wp2
        go_roundg 0
        case measure => omega
        case rel => exact ⟨2, rfl, rfl⟩
      · have hnx := fun ty => run_next_end (P := Tryz.prog) w ⟨#[47, 63]⟩ 2 ty (by decide)
        go_wp2
        go_ret
        exact ⟨rfl, (Below.refl _ _).alloc (Nat.le_refl _) _⟩
  · cases hv : Utf8.valid r
    · have HV := Lib.hid hv
      go_enter Tryz.func202, Tryz.ntmps202
      go_wp2_with (go_at_call 232; refine (ValidRune_any _ _).mono ?_; rintro e w' ⟨rfl, rfl⟩; rw [HV.out])
      go_ret
      exact ⟨rfl, Below.refl _ _⟩
    · obtain ⟨z1, z2, z3⟩ := encode_facts r hv h1
      have HV := Lib.hid hv
      have hcv := run_convert_int_string (P := Tryz.prog) w 21 9 .i32 r (by rw [Tryz.underlying21]; rfl) Tryz.underlying9
      obtain ⟨t, ht⟩ : ∃ t, t = Utf8.encode r := ⟨_, rfl⟩
      rw [← ht] at z1 z2 z3 hcv
      clear ht hv
      have hlt1 : t.size - 1 < t.size := by omega
      have z4 := z3 hlt1
      clear z3
      by_cases h3 : t.size = 2
      · obtain ⟨a, b, rfl⟩ := two_bytes h3
        have z5 : 128 ≤ b.toNat := z4
        have hne : ((((⟨#[47, 63]⟩ : ByteArray)[1]'(by decide)).toNat : Int) != (((⟨#[a, b]⟩ : ByteArray)[1]'(by show 1 < 2; decide)).toNat : Int)) = true := by rw [bne_iff_ne]; show (63 : Int) ≠ (b.toNat : Int); omega
        have hw2 : IntKind.i64.wrap 2 = 2 := by decide
        clear z4 hlt1 z1 z2 h3
        go_enter Tryz.func202, Tryz.ntmps202
        go_wp2_with (go_at_call 232; refine (ValidRune_any _ _).mono ?_; rintro e w' ⟨rfl, rfl⟩; rw [HV.out])
        go_step3
        go_wp2
        go_loopw [9, 10, 11, 12] (fun i _ _ _ wx => i = .int .i64 1 ∧ wx = w) (fun _ _ _ _ _ => 0)
        case atStart => exact ⟨by go_num, rfl⟩
        case round =>
          obtain ⟨rfl, rfl⟩ := hrel
          go_wp2_with fail
          go_step3
          go_wp2_with fail
          go_quiet (fail)
          generalize hwq : wr.drewN nq = wq
          go_wp2_with fail
          go_quiet ((go_at_call 180; exact quiet_mine (IndexByte_nil _ _ _ rfl)))
          go_wp2
          rw [Exit.noGoto_ret]
          go_wp2
          rw [Exit.noGoto_ret]
          go_ret
          subst hwq
          exact ⟨rfl, below_drewN (below_drewN (Below.refl _ _) _) _⟩
      · have hge : ¬ ((t.size : Int) - 1 < 2) := by omega
        go_enter Tryz.func202, Tryz.ntmps202
        go_wp2_with (go_at_call 232; refine (ValidRune_any _ _).mono ?_; rintro e w' ⟨rfl, rfl⟩; rw [HV.out])
        go_step3
        go_wp2
        go_loopw [9, 10, 11, 12] (fun i _ _ _ wx => i = .int .i64 ((t.size : Int) - 1) ∧ wx = w) (fun _ _ _ _ _ => 0)
        case atStart => exact ⟨by go_num, rfl⟩
        case round =>
          obtain ⟨rfl, rfl⟩ := hrel
          go_wp2
          try rw [Exit.noGoto_ret]
          go_ret
          exact ⟨rfl, Below.refl _ _⟩

set_option maxHeartbeats 4000000 in
set_option maxRecDepth 100000 in
theorem IndexAny_any (s : ByteArray) (w : World) (hs : s.size < 4294967281) :
    Calls Tryz.prog 179 #[.string s, .string ⟨#[47, 63]⟩] w fun e w' => e = .returned (.int .i64 (Lib.indexAny s.data.toList [47, 63])) ∧ Below w.heap.size w w' := by
  by_cases h8 : 8 < s.size
  · refine (Tryz.strings_IndexAny_long zero75 s ⟨#[47, 63]⟩ w (by decide) h8 hs (by decide) ?_).mono ?_
    · intro j b hb
      match j, hb with
      | 0, hb => simp at hb; subst hb; decide
      | 1, hb => simp at hb; subst hb; decide
    · rintro e w' ⟨rfl, rfl⟩
      exact ⟨rfl, ((Below.refl _ _).alloc (Nat.le_refl _) _).alloc (by simp) _⟩
  have h8z : decide ((8 : Int) < (s.size : Int)) = false := decide_eq_false (by omega)
  go_enter Tryz.func179, Tryz.ntmps179
  go_wp2_with (go_at_call 203; refine (Tryz.strings_shouldUseASCIISet _ _).mono ?_; rintro e w' ⟨rfl, hw⟩; rw [hw, h8z])
  go_loopg [9, 10] s.size (fun g _ _ wx => ∃ i : Nat, i ≤ s.size ∧ s.size - i ≤ g ∧ IterAt wx w.heap.size s i ∧ Below w.heap.size w wx ∧ Lib.NoAny s.data.toList [47, 63] i)
  case atStart => exact ⟨0, by omega, by omega, World.iter_heap w s 0, (Below.refl _ _).alloc (Nat.le_refl _) _, Lib.NoAny.zero _ _⟩
  case round =>
    obtain ⟨i, hi, hig, hit, hbl, hno⟩ := hrel
    have HN := Lib.hid hno
    have HB := Lib.hid hbl
    have HI := Lib.hid hit
    clear hno hbl hit
    by_cases hlt : i < s.size
    · obtain ⟨x, hx⟩ : ∃ x : UInt8, s[i]'hlt = x := ⟨_, rfl⟩
      have hxl : s.data.toList[i]? = some x := by rw [← hx]; exact Lib.data_getElem? s i hlt
      have Hx := Lib.hid hxl
      clear hxl
      by_cases hx128 : x.toNat < 128
      · have hdec : Utf8.decode s i = (x.toNat, 1) := by rw [decode_ascii s i hlt (by rw [hx]; exact hx128), hx]
        have hnx := fun ty => next_at HI.out hlt ty
        rw [hdec] at hnx
        have HI2 : Hid (IterAt (iterTo wr w.heap.size s (i + 1)) w.heap.size s (i + 1)) := HI.out.to _
        have HB2 : Hid (Below w.heap.size w (iterTo wr w.heap.size s (i + 1))) := below_iterTo HB.out (Nat.le_refl _) _ _
        clear hx hdec
        have hcon := Lib.contains_iff_indexByte [47, 63] x
        have hback : ((x.toNat : Int)).toNat.toUInt8 = x := by simp
        generalize iterTo wr w.heap.size s (i + 1) = wr2 at *
        cases hin : ([47, 63] : List UInt8).contains x
        · rw [hin] at hcon
          have hlt2 : ¬ ((0 : Int) ≤ Lib.indexByte [47, 63] x) := of_decide_eq_false hcon.symm
          have HC := Lib.hid hin
          clear hcon hin
          go_wp2_with (go_at_call 202; refine (Tryz.strings_IndexRune_ascii _ _ _ (by omega) (by omega)).mono ?_; rintro e w' ⟨rfl, hw⟩; rw [hw, hback])
          go_roundg (gk - 1)
          case measure => omega
          case rel => exact ⟨i + 1, by omega, by omega, HI2.out, HB2.out, HN.out.succ Hx.out HC.out⟩
        · rw [hin] at hcon
          have hge : (0 : Int) ≤ Lib.indexByte [47, 63] x := of_decide_eq_true hcon.symm
          have HC := Lib.hid hin
          clear hcon hin
          go_wp2_with (go_at_call 202; refine (Tryz.strings_IndexRune_ascii _ _ _ (by omega) (by omega)).mono ?_; rintro e w' ⟨rfl, hw⟩; rw [hw, hback])
          go_ret
          exact ⟨ret_int (by rw [Lib.indexAny_hit HN.out Hx.out HC.out]), HB2.out⟩
      · have hnx := fun ty => next_at HI.out hlt ty
        obtain ⟨d1, d2, _⟩ := decode_wide s i hlt (by rw [get_bang s i hlt, hx]; omega)
        have hd128 := (decode_high s i hlt (by rw [hx]; omega)).1
        have hdle := decode_le s i
        have HNW := Lib.hid (noAny_wide hlt (by rw [hx]; omega) HN.out)
        generalize Utf8.decode s i = d at *
        obtain ⟨r, k⟩ := d
        simp only at hnx d1 d2 hd128 hdle
        have HNW2 : Hid (Lib.NoAny s.data.toList [47, 63] (i + k)) := HNW.out
        have HI2 : Hid (IterAt (iterTo wr w.heap.size s (i + k)) w.heap.size s (i + k)) := HI.out.to _
        have HB2 : Hid (Below w.heap.size w (iterTo wr w.heap.size s (i + k))) := below_iterTo HB.out (Nat.le_refl _) _ _
        clear hx HNW
        generalize iterTo wr w.heap.size s (i + k) = wr2 at *
        go_wp2_with fail
        refine (IndexRune_high r _ (by omega) (by omega)).mono ?_
        rintro e w3 ⟨rfl, hb3⟩
        have HI3 : Hid (IterAt w3 w.heap.size s (i + k)) := HI2.out.below hb3
        have HB3 : Hid (Below w.heap.size w w3) := HB2.out.trans (hb3.mono HB2.out.size)
        clear hb3
        go_wp2
        go_roundg (gk - 1)
        case measure => omega
        case rel => exact ⟨i + k, by omega, by omega, HI3.out, HB3.out, HNW2.out⟩
    · have hnx := fun ty => next_end HI.out hlt ty
      go_wp2
      go_ret
      obtain rfl : i = s.size := by omega
      exact ⟨ret_int (by rw [Lib.indexAny_none (by rw [← Lib.size_eq]; exact HN.out)]), HB.out⟩
end Go.Proofs.YtlkneapidmdpbaaGreatDoor

namespace Go.Proofs.YtlkneapidmdpbaaGreatDoor
open Go.RowKit

/-- the first byte that P does not hold of -/
theorem while_cases (P : UInt8 → Bool) : ∀ l : List UInt8, (∀ b ∈ l, P b = true) ∨ ∃ x r, l.dropWhile P = x :: r ∧ P x = false
  | [] => .inl (by simp)
  | b :: l => by
    by_cases hb : P b = true
    · rcases while_cases P l with h | ⟨x, r, e, h⟩
      · exact .inl (fun y hy => by rcases List.mem_cons.1 hy with rfl | hy; exact hb; exact h y hy)
      · exact .inr ⟨x, r, by rw [List.dropWhile_cons, if_pos hb, e], h⟩
    · exact .inr ⟨b, l, by rw [List.dropWhile_cons, if_neg hb], by simpa using hb⟩
theorem take_all_while {P : UInt8 → Bool} {l : List UInt8} (h : ∀ b ∈ l, P b = true) : l.takeWhile P = l ∧ l.dropWhile P = [] := by
  have := take_stop (P := P) (a := l) (b := []) h (.inl rfl)
  simpa using this
theorem take_while_mem (P : UInt8 → Bool) : ∀ (l : List UInt8), ∀ x ∈ l.takeWhile P, P x = true
  | [], x, h => by simp at h
  | b :: l, x, h => by
    rw [List.takeWhile_cons] at h
    by_cases hb : P b = true
    · rw [if_pos hb] at h
      rcases List.mem_cons.1 h with rfl | h
      · exact hb
      · exact take_while_mem P l x h
    · rw [if_neg hb] at h; simp at h

theorem nq_false {x : UInt8} (h : nq x = false) : x = 63 := by simpa [nq] using h
theorem nsq_contains (b : UInt8) : ([47, 63] : List UInt8).contains b = !nsq b := by
  unfold nsq
  by_cases h1 : b = 47
  · subst h1; rfl
  · by_cases h2 : b = 63
    · subst h2; rfl
    · simp [h1, h2]
theorem indexAny_while : ∀ l : List UInt8, Lib.indexAny l [47, 63] = if l.dropWhile nsq = [] then -1 else ((l.takeWhile nsq).length : Int)
  | [] => rfl
  | b :: l => by
    rw [Lib.indexAny, nsq_contains, List.dropWhile_cons, List.takeWhile_cons, indexAny_while l]
    cases hb : nsq b
    · simp
    · simp only [Bool.not_true, Bool.false_eq_true, if_false, if_true]
      by_cases hd : l.dropWhile nsq = []
      · simp [hd]
      · have : (((l.takeWhile nsq).length : Int) == -1) = false := by rw [beq_eq_false_iff_ne]; omega
        simp [hd, this]

theorem ret_two {a a' b b' : ByteArray} (h : a = a') (k : b = b') : Ending.returned (.tuple #[.string a, .string b]) = .returned (.tuple #[.string a', .string b']) := by rw [h, k]

set_option maxHeartbeats 1000000 in
theorem cutQuery_any (s : ByteArray) (w : World) :
    Calls Tryz.prog 146 #[.string s] w fun e w' => e = .returned (.tuple #[.string (mk (s.data.toList.takeWhile nq)), .string (mk (s.data.toList.dropWhile nq))]) ∧ ∃ n, w' = w.drewN n := by
  have HI : Hid (∀ i, Lib.indexByte s.data.toList 63 = i → Calls Tryz.prog 180 #[.string s, .int .u8 63] w fun e w' => e = .returned (.int .i64 i) ∧ w = w') := by
    intro i hi
    refine (Tryz.strings_IndexByte s 63 w).mono ?_
    rintro e w' ⟨rfl, rfl⟩
    exact ⟨by rw [show ((63 : Int).toNat.toUInt8) = 63 from rfl, hi], rfl⟩
  rcases while_cases nq s.data.toList with h | ⟨x, r, e, h⟩
  · have ⟨t1, t2⟩ := take_all_while h
    have hi := indexByte_no s.data.toList 63 (fun b hb hx => by have := h b hb; rw [hx] at this; simp [nq] at this)
    have HC := Lib.hid (HI.out _ hi)
    have T1 : Hid (s = mk (s.data.toList.takeWhile nq)) := by show _ = _; rw [t1]; exact (mk_eq s).symm
    have T2 : Hid ((⟨#[]⟩ : ByteArray) = mk (s.data.toList.dropWhile nq)) := by show _ = _; rw [t2]; rfl
    clear t1 t2 hi h HI
    go_enter Tryz.func146, Tryz.ntmps146
    go_wp2_with (go_at_call 180; refine HC.out.mono ?_; rintro e w' ⟨rfl, rfl⟩)
    go_ret2
    exact ⟨ret_two T1.out T2.out, 0, rfl⟩
  · have hx := nq_false h
    subst hx
    obtain ⟨a, ha⟩ : ∃ a, a = s.data.toList.takeWhile nq := ⟨_, rfl⟩
    have es : s.data.toList = a ++ 63 :: r := by rw [ha, ← e, List.takeWhile_append_dropWhile]
    have hna : ∀ x ∈ a, x ≠ 63 := by
      intro x hx hx63
      rw [ha] at hx
      have := take_while_mem nq _ x hx
      rw [hx63] at this
      simp [nq] at this
    have hi := indexByte_at a r 63 hna
    rw [← es] at hi
    have HC := Lib.hid (HI.out _ hi)
    have hsz : s.size = a.length + (r.length + 1) := by have := congrArg List.length es; simpa using this
    have E1 : Hid (s.extract 0 a.length = mk (s.data.toList.takeWhile nq)) := by show _ = _; rw [← ha, Lib.extract_eq, es]; simp [mk]
    have E2 : Hid (s.extract a.length s.size = mk (s.data.toList.dropWhile nq)) := by
      show _ = _; rw [e, Lib.extract_eq, es]; simp [mk]; exact List.take_of_length_le (by simp; omega)
    have hle : a.length ≤ s.size := by omega
    clear es hna hi HI e ha h hsz
    go_enter Tryz.func146, Tryz.ntmps146
    go_wp2_with (go_at_call 180; refine HC.out.mono ?_; rintro e w' ⟨rfl, rfl⟩)
    go_quiet (fail)
    go_wp2
    go_ret2
    exact ⟨ret_two E1.out E2.out, _, rfl⟩

def cutOV (l : List UInt8) : Value :=
  match seek l with
  | none => .tuple #[.string ⟨#[]⟩, .string ⟨#[]⟩, .bool false]
  | some (a, b) => .tuple #[.string (mk (headL a b)), .string (mk (b.dropWhile nsq)), .bool true]

theorem IndexSch (s : ByteArray) (w : World) (hs : s.size ≤ 512) (he : Env w) : ∃ i : Int, i = (match seek s.data.toList with | some (a, _) => (a.length : Int) | none => -1) ∧
    Calls Tryz.prog 178 #[.string s, .string ⟨#[58, 47, 47]⟩] w fun e w' => e = .returned (.int .i64 i) ∧ w = w' := by
  refine ⟨_, rfl, ?_⟩
  obtain ⟨m, hm⟩ := he.len
  refine (Tryz.strings_Index s ⟨#[58, 47, 47]⟩ m w (by omega) hm).mono ?_
  rintro e w' ⟨rfl, rfl⟩
  exact ⟨congrArg (fun i => Ending.returned (.int .i64 i)) (index_seek s.data.toList), rfl⟩
theorem IndexAny_as (s : ByteArray) (w : World) (i : Int) (hs : s.size ≤ 512) (hi : i = Lib.indexAny s.data.toList [47, 63]) :
    Calls Tryz.prog 179 #[.string s, .string ⟨#[47, 63]⟩] w fun e w' => e = .returned (.int .i64 i) ∧ Below w.heap.size w w' := by
  rw [hi]; exact IndexAny_any s w (by omega)
theorem ret_cut' {a a' b b' : ByteArray} (h : a = a') (k : b = b') : Ending.returned (.tuple #[.string a, .string b, .bool true]) = .returned (.tuple #[.string a', .string b', .bool true]) := by rw [h, k]

set_option maxHeartbeats 2000000 in
theorem cutOrigin_any (s : ByteArray) (w : World) (hs : s.size ≤ 512) (he : Env w) :
    Calls Tryz.prog 145 #[.string s] w fun e w' => e = .returned (cutOV s.data.toList) ∧ Below w.heap.size w w' := by
  obtain ⟨i, hi, hc⟩ := IndexSch s w hs he
  have HC := Lib.hid hc
  clear hc he
  cases hsk : seek s.data.toList with
  | none =>
    rw [hsk] at hi
    have HV : Hid (cutOV s.data.toList = .tuple #[.string ⟨#[]⟩, .string ⟨#[]⟩, .bool false]) := by show _ = _; rw [cutOV, hsk]
    clear hsk
    simp only at hi
    subst hi
    go_enter Tryz.func145, Tryz.ntmps145
    go_wp2_with (go_at_call 178; refine HC.out.mono ?_; rintro e w' ⟨rfl, rfl⟩)
    go_ret3
    exact ⟨(congrArg Ending.returned HV.out).symm, Below.refl _ _⟩
  | some q =>
    obtain ⟨a, b⟩ := q
    rw [hsk] at hi
    have es := seek_eq _ _ _ hsk
    have HV : Hid (cutOV s.data.toList = .tuple #[.string (mk (headL a b)), .string (mk (b.dropWhile nsq)), .bool true]) := by show _ = _; rw [cutOV, hsk]
    clear hsk
    simp only at hi
    subst hi
    have hsz : s.size = a.length + 3 + b.length := by have := congrArg List.length es; simp at this; omega
    have eb : s.extract (a.length + 3) s.size = mk b := by
      rw [Lib.extract_eq, es]; simp [mk, hsz]
    obtain ⟨t, ht⟩ : ∃ t, t = mk b := ⟨_, rfl⟩
    rw [← ht] at eb
    have htz : t.size ≤ 512 := by rw [ht, mk_size]; omega
    have htl : t.data.toList = b := by rw [ht, mk_data]
    obtain ⟨k, hk⟩ : ∃ k, k = Lib.indexAny t.data.toList [47, 63] := ⟨_, rfl⟩
    have HK := Lib.hid hk
    have hk2 := hk
    rw [htl, indexAny_while] at hk2
    have hw3 : IntKind.i64.wrap ((a.length : Int) + 3) = (a.length : Int) + 3 := IntWalk.i64_in _ (by omega)
    by_cases hd : b.dropWhile nsq = []
    · rw [if_pos hd] at hk2
      have hal : b.takeWhile nsq = b := by
        have := List.takeWhile_append_dropWhile (p := nsq) (l := b)
        rw [hd, List.append_nil] at this; exact this
      have E1 : Hid (s = mk (headL a b)) := by show _ = _; rw [headL, hal, ← es]; exact (mk_eq s).symm
      have E2 : Hid ((⟨#[]⟩ : ByteArray) = mk (b.dropWhile nsq)) := by show _ = _; rw [hd]; rfl
      subst hk2
      clear hk hd hal es ht htl
      have hle3 : a.length + 3 ≤ s.size := by omega
      clear hsz
      go_enter Tryz.func145, Tryz.ntmps145
      go_wp2_with (go_at_call 178; refine HC.out.mono ?_; rintro e w' ⟨rfl, rfl⟩)
      rw [eb]
      refine (IndexAny_as t _ _ htz HK.out).mono ?_
      rintro e w2 ⟨rfl, hb⟩
      go_wp2
      go_ret3
      exact ⟨(ret_cut' E1.out E2.out).trans (congrArg Ending.returned HV.out).symm, hb⟩
    · rw [if_neg hd] at hk2
      obtain ⟨t1, h1⟩ : ∃ t1, t1 = b.takeWhile nsq := ⟨_, rfl⟩
      obtain ⟨t2, h2⟩ : ∃ t2, t2 = b.dropWhile nsq := ⟨_, rfl⟩
      have e12 : b = t1 ++ t2 := by rw [h1, h2, List.takeWhile_append_dropWhile]
      have es2 : s.data.toList = (a ++ [58, 47, 47] ++ t1) ++ t2 := by rw [es]; simp [e12]
      have hl12 : b.length = t1.length + t2.length := by rw [e12]; simp
      have E1 : Hid (s.extract 0 (a.length + 3 + t1.length) = mk (headL a b)) := by
        show _ = _
        rw [Lib.extract_eq, es2, headL, ← h1]
        simp only [Nat.sub_zero, List.drop_zero]
        rw [List.take_left' (by simp; omega)]; rfl
      have E2 : Hid (s.extract (a.length + 3 + t1.length) s.size = mk (b.dropWhile nsq)) := by
        show _ = _
        rw [Lib.extract_eq, es2, List.drop_left' (by simp; omega), List.take_of_length_le (by omega), ← h2]; rfl
      rw [← h1] at hk2
      have hlen : t1.length ≤ b.length := by omega
      clear e12 es2 h1
      generalize t1.length = m at *
      subst hk2
      have hw4 : IntKind.i64.wrap ((a.length : Int) + 3 + (m : Int)) = (a.length : Int) + 3 + (m : Int) := IntWalk.i64_in _ (by omega)
      have et : ((a.length : Int) + 3 + (m : Int)).toNat = a.length + 3 + m := by omega
      have hle : a.length + 3 + m ≤ s.size := by omega
      have hle3 : a.length + 3 ≤ s.size := by omega
      clear hk hd es ht htl hsz h2 hl12 hlen
      go_enter Tryz.func145, Tryz.ntmps145
      go_wp2_with (go_at_call 178; refine HC.out.mono ?_; rintro e w' ⟨rfl, rfl⟩)
      rw [eb]
      refine (IndexAny_as t _ _ htz HK.out).mono ?_
      rintro e w2 ⟨rfl, hb⟩
      go_wp2_with fail
      go_quiet (fail)
      go_wp2
      go_ret3
      exact ⟨(ret_cut' E1.out E2.out).trans (congrArg Ending.returned HV.out).symm, below_drewN hb _⟩
end Go.Proofs.YtlkneapidmdpbaaGreatDoor

namespace Go.Proofs.YtlkneapidmdpbaaGreatDoor
open Go.RowKit

theorem KeptAt.below {w w' : World} {base : Nat} {v : Value} {l : List UInt8} (h : KeptAt w base v l) (hb : Below w.heap.size w w') : KeptAt w' base v l := ownsRow_below h hb
theorem KeptAt.drewN {w : World} {base : Nat} {v : Value} {l : List UInt8} (h : KeptAt w base v l) (n : Nat) : KeptAt (w.drewN n) base v l := h
theorem bv_bytes (s : ByteArray) : Lib.strCells s = s.data.toList.map bv := by
  unfold Lib.strCells
  first | rfl | simp [bv]

def lastP (l : List UInt8) (i : Int) : Prop := (i = -1 ∧ ∀ b ∈ l, b ≠ 47) ∨ ∃ a b, l = a ++ 47 :: b ∧ (∀ x ∈ b, x ≠ 47) ∧ i = a.length
theorem bv_eq (b : UInt8) : ((b.toNat : Int) == 47) = decide (b = 47) := by
  rw [Bool.eq_iff_iff, beq_iff_eq, decide_eq_true_eq]
  constructor
  · intro h; exact UInt8.toNat_inj.1 (by simpa using (by omega : b.toNat = 47))
  · rintro rfl; rfl

set_option maxHeartbeats 1000000 in
theorem bytealgLast_any (A : Option Addr) (n cap : Nat) (l : List UInt8) (w : World) (hn : n = l.length) (hl : l.length ≤ maxLen)
    (hc : ∀ j (hj : j < l.length), ∃ ad, A = some ad ∧ w.cell? (ad.add j) = some (bv l[j])) :
    Calls Tryz.prog 234 #[.slice A n cap, .int .u8 47] w fun e w' => (∃ i, e = .returned (.int .i64 i) ∧ lastP l i) ∧ w = w' := by
  subst hn
  unfold maxLen at hl
  have HC := Lib.hid hc
  clear hc
  go_enter Tryz.func234, Tryz.ntmps234
  go_wp2
  go_loop [5] (fun i => ∃ k : Nat, k ≤ l.length ∧ i = .int .i64 ((k : Int) - 1) ∧ ∀ x ∈ l.drop k, x ≠ 47) (fun i => (intOf i + 1).toNat)
  case atStart => exact ⟨l.length, Nat.le_refl _, by go_num, by simp⟩
  case round =>
    obtain ⟨k, hk, rfl, ha⟩ := hrel
    have HA := Lib.hid ha
    clear ha
    cases k with
    | zero =>
      go_wp2
      go_ret
      exact ⟨⟨-1, rfl, .inl ⟨rfl, by simpa using HA.out⟩⟩, rfl⟩
    | succ m =>
      have hm : m < l.length := by omega
      have em : ((m + 1 : Nat) : Int) - 1 = (m : Int) := by omega
      rw [em]
      obtain ⟨ad, ea, hcell⟩ := HC.out m hm
      subst ea
      unfold bv at hcell
      have hq := bv_eq l[m]
      have hdrop : l.drop m = l[m] :: l.drop (m + 1) := List.drop_eq_getElem_cons hm
      have HD := Lib.hid hdrop
      have HS : Hid (l = l.take m ++ l.drop m) := (List.take_append_drop m l).symm
      have hlen : (l.take m).length = m := by simp; omega
      have HLn := Lib.hid hlen
      clear hdrop hlen
      by_cases h47 : l[m] = 47
      · have HX := Lib.hid h47
        rw [h47] at hq
        generalize l[m] = c at *
        subst h47
        go_wp2
        go_ret
        refine ⟨⟨m, rfl, .inr ⟨l.take m, l.drop (m + 1), ?_, HA.out, by rw [HLn.out]⟩⟩, rfl⟩
        have := HS.out
        rw [HD.out] at this
        exact this
      · have HX := Lib.hid h47
        have hq2 : ((l[m].toNat : Int) == 47) = false := by rw [hq]; simpa using h47
        clear hq h47
        generalize l[m] = c at *
        go_wp2
        go_round
        case rel =>
          refine ⟨m, by omega, by go_num, ?_⟩
          rw [HD.out]
          intro x hx
          rcases List.mem_cons.1 hx with rfl | hx
          · exact HX.out
          · exact HA.out x hx
        case measure => simp [intOf]

set_option maxHeartbeats 1000000 in
theorem LastIndexByte_any (A : Option Addr) (n cap : Nat) (l : List UInt8) (w : World) (hn : n = l.length) (hl : l.length ≤ maxLen)
    (hc : ∀ j (hj : j < l.length), ∃ ad, A = some ad ∧ w.cell? (ad.add j) = some (bv l[j])) :
    Calls Tryz.prog 208 #[.slice A n cap, .int .u8 47] w fun e w' => (∃ i, e = .returned (.int .i64 i) ∧ lastP l i) ∧ w = w' := by
  have HB := Lib.hid (bytealgLast_any A n cap l w hn hl hc)
  clear hn hl hc
  go_enter Tryz.func208, Tryz.ntmps208
  go_wp2_with fail
  refine HB.out.mono ?_
  rintro e w' ⟨⟨i, rfl, hi⟩, rfl⟩
  go_wp2
  go_ret
  exact ⟨⟨i, rfl, hi⟩, rfl⟩

/-- what the last slash of the kept segments is worth -/
theorem last_join {acc : List (List UInt8)} (h : ∀ t ∈ acc, noSl t) {i : Int} (hi : lastP (joinS acc) i) : ∃ m : Nat, m ≤ (joinS acc).length ∧ max 0 i = (m : Int) ∧ (joinS acc).take m = joinS acc.dropLast := by
  rcases List.eq_nil_or_concat acc with rfl | ⟨b, s, rfl⟩
  · refine ⟨0, Nat.zero_le _, ?_, rfl⟩
    rcases hi with ⟨rfl, _⟩ | ⟨x, y, e, _⟩
    · decide
    · simp [joinS] at e
  · rw [List.concat_eq_append] at *
    have e := joinS_snoc b s
    rw [List.dropLast_concat]
    rcases hi with ⟨_, hno⟩ | ⟨x, y, e2, hy, rfl⟩
    · exact absurd rfl (hno 47 (by rw [e]; simp))
    · have hx : x = joinS b := app_inj_last (e2.symm.trans e) hy (h s (by simp))
      subst hx
      refine ⟨(joinS b).length, by rw [e]; simp, by omega, by rw [e, List.take_left' rfl]⟩

set_option maxHeartbeats 1000000 in
theorem withoutLast_any (v : Value) (base : Nat) (acc : List (List UInt8)) (w : World) (hk : KeptAt w base v (joinS acc)) (hn : ∀ t ∈ acc, noSl t) :
    Calls Tryz.prog 183 #[v] w fun e w' => ∃ v, e = .returned v ∧ KeptAt w' base v (joinS acc.dropLast) ∧ ∃ n, w' = w.drewN n := by
  obtain ⟨A, cap, rfl, hlc, hcm, hcells, htake⟩ := hk.view
  have HC := Lib.hid hcells
  have HT := Lib.hid htake
  have HN := Lib.hid hn
  unfold maxLen at hcm
  clear hcells htake hn hk
  go_enter Tryz.func183, Tryz.ntmps183
  go_wp2_with fail
  refine (LastIndexByte_any A _ cap (joinS acc) _ rfl (by unfold maxLen; omega) HC.out).mono ?_
  rintro e w' ⟨⟨i, rfl, hi⟩, rfl⟩
  obtain ⟨m, hm, hmax, htk⟩ := last_join HN.out hi
  have HK : Hid (KeptAt w base (.slice A m cap) (joinS acc.dropLast)) := by
    have := HT.out m hm
    rw [htk] at this
    exact this
  clear htk hi HC HT
  generalize (joinS acc).length = len at *
  go_wp2
  go_ret
  exact ⟨_, rfl, HK.out, 0, rfl⟩
end Go.Proofs.YtlkneapidmdpbaaGreatDoor

namespace Go.Proofs.YtlkneapidmdpbaaGreatDoor
open Go.RowKit

theorem trim_strip (l : List UInt8) : Lib.trimPrefix l [47] = stripS l := by
  cases l with
  | nil => rfl
  | cons b r =>
    by_cases h : b = 47
    · subst h; simp [Lib.trimPrefix, Lib.hasPrefix, stripS]
    · have : ((47 : UInt8) == b) = false := by rw [beq_eq_false_iff_ne]; exact Ne.symm h
      simp [Lib.trimPrefix, Lib.hasPrefix, stripS, List.isPrefixOf, this, h]
theorem TrimSl_as (s t : ByteArray) (w : World) (ht : t = mk (stripS s.data.toList)) :
    Calls Tryz.prog 181 #[.string s, .string ⟨#[47]⟩] w fun e w' => e = .returned (.string t) ∧ w = w' := by
  refine (Tryz.strings_TrimPrefix s ⟨#[47]⟩ w).mono ?_
  rintro e w' ⟨rfl, rfl⟩
  exact ⟨by rw [ht, ← trim_strip]; rfl, rfl⟩

/-- one round's cut at a slash -/
theorem CutSl_any (r : ByteArray) (w : World) (hs : r.size ≤ maxLen) : ∃ (p q : ByteArray) (f : Bool),
    (Calls Tryz.prog 144 #[.string r, .string ⟨#[47]⟩] w fun e w' => e = .returned (.tuple #[.string p, .string q, .bool f]) ∧ ∃ n, w' = w.drewN n) ∧
    p.size + (if f then q.size + 1 else 0) = r.size ∧ q.size ≤ r.size ∧ (f = true → q.size < r.size) ∧ noSl p.data.toList ∧
    parts 47 r.data.toList = p.data.toList :: (if f then parts 47 q.data.toList else []) := by
  rcases at_cases 47 r.data.toList with h | ⟨a, b, e, h⟩
  · exact ⟨r, ⟨#[]⟩, false, Cut_no r 47 w hs h, rfl, Nat.zero_le _, by simp, h, by rw [parts_none 47 _ h]; rfl⟩
  · have hl : r.size = a.length + (b.length + 1) := by have := congrArg List.length e; simpa using this
    have ha : (⟨a.toArray⟩ : ByteArray).size = a.length := by show a.toArray.size = _; simp
    have hb : (⟨b.toArray⟩ : ByteArray).size = b.length := by show b.toArray.size = _; simp
    refine ⟨⟨a.toArray⟩, ⟨b.toArray⟩, true, Cut_yes r a b 47 w hs e h, by simp only [if_true]; omega, by omega, fun _ => by omega, h, ?_⟩
    rw [e, parts_at 47 a b h]; rfl

/-- one more slash, one more text, behind a row -/
theorem kept_slash {w : World} {base : Nat} {v : Value} {l : List UInt8} (h : w.ownsRow base 5 1 v (l.length + 1) (l.map bv ++ [.int .u8 47])) : KeptAt w base v (l ++ [47]) := by
  unfold KeptAt
  rw [List.length_append, List.map_append]
  exact h
theorem kept_text {w : World} {base : Nat} {v : Value} {l : List UInt8} {s : ByteArray} (h : w.ownsRow base 5 1 v (l.length + s.size) (l.map bv ++ Lib.strCells s)) : KeptAt w base v (l ++ s.data.toList) := by
  unfold KeptAt
  rw [List.length_append, List.map_append, ← bv_bytes, show s.data.toList.length = s.size by simp]
  exact h
theorem kept_both {w : World} {base : Nat} {v : Value} {l : List UInt8} {s : ByteArray} (h : w.ownsRow base 5 1 v (l.length + 1 + s.size) (l.map bv ++ bv 47 :: Lib.strCells s)) : KeptAt w base v (l ++ 47 :: s.data.toList) := by
  have := kept_text (l := l ++ [47]) (s := s) (w := w) (base := base) (v := v) (by rw [List.length_append, List.map_append, List.append_assoc]; exact h)
  rw [List.append_assoc] at this
  exact this
theorem kept_back {w : World} {base : Nat} {v : Value} {l : List UInt8} (h : KeptAt w base v l) (h0 : l ≠ []) : (convert 130 9 v).run Tryz.prog w = .ok (.string (mk l)) w := by
  obtain ⟨A, cap, rfl, _, _, hc, _⟩ := h.view
  obtain ⟨ad, rfl, _⟩ := hc 0 (List.length_pos_iff.2 h0)
  exact run_convert_bytes_back w 130 9 5 ad cap l Tryz.underlying130 Tryz.underlying5 Tryz.underlying9 (fun j hj => by
    obtain ⟨ad', e, hcell⟩ := hc j hj
    injection e with e
    subst e
    exact hcell)

/-- what holds at the head of a round -/
structure CleanAt (w wr : World) (p : ByteArray) (v : Value) (acc : List (List UInt8)) (mo : Bool) (r : ByteArray) : Prop where
  row : KeptAt wr w.heap.size v (joinS acc)
  bel : Below w.heap.size w wr
  nos : ∀ t ∈ acc, noSl t
  len : (joinS acc).length + (if mo then r.size + 1 else 0) ≤ p.size + 1
  eqn : cleanL p.data.toList = joinS (if mo then keepL acc (parts 47 r.data.toList) else acc)

theorem join_dropLast_noSl {acc : List (List UInt8)} (h : ∀ t ∈ acc, noSl t) : ∀ t ∈ acc.dropLast, noSl t := fun t ht => h t (List.dropLast_subset _ ht)
theorem snoc_noSl {acc : List (List UInt8)} {s : List UInt8} (h : ∀ t ∈ acc, noSl t) (hs : noSl s) : ∀ t ∈ acc ++ [s], noSl t := by
  intro t ht
  rcases List.mem_append.1 ht with ht | ht
  · exact h t ht
  · simp at ht; subst ht; exact hs
theorem nil_noSl : noSl [] := by intro b hb; simp at hb

set_option maxHeartbeats 4000000 in
theorem Clean_any (p : ByteArray) (w : World) (hp : p.size ≤ 100000) :
    Calls Tryz.prog 148 #[.string p] w fun e w' => e = .returned (.string (mk (cleanL p.data.toList))) ∧ Below w.heap.size w w' := by
  obtain ⟨i0, hi, hz0, hz1, hz2⟩ := info_parts infoU8
  obtain ⟨c, hc⟩ : ∃ c : Nat, c = p.size + 1 := ⟨_, rfl⟩
  obtain ⟨wm, hmake, hmown, hmgr⟩ := run_make_own (P := Tryz.prog) w w.heap.size 130 5 i0 (.int .u8 0) 1 Tryz.underlying130 hi hz0 hz1 .i64 .i64 c (by rw [hz2]; omega) (by unfold maxLen; omega) (Nat.le_refl _)
  obtain ⟨t, ht⟩ : ∃ t, t = mk (stripS p.data.toList) := ⟨_, rfl⟩
  have htl : t.data.toList = stripS p.data.toList := by rw [ht, mk_data]
  have htz : t.size ≤ p.size := by
    have := strip_len p.data.toList
    rw [← htl] at this
    simpa using this
  have HT := Lib.hid ht
  have HTL := Lib.hid htl
  have HMO := Lib.hid hmown
  have HMB : Hid (Below w.heap.size w wm) := Below.grown (Below.refl _ _) hmgr (Nat.le_refl _) (fun k hk => by cases hk)
  clear ht htl hmown hmgr
  have hw1 : IntKind.i64.wrap ((p.size : Int) + 1) = (c : Int) := by rw [IntWalk.i64_in _ (by omega)]; omega
  clear hc
  go_enter Tryz.func148, Tryz.ntmps148
  go_wp2_with fail
  refine (TrimSl_as p t _ HT.out).mono ?_
  rintro e w' ⟨rfl, rfl⟩
  go_wp2
  clear hmake hw1
  go_loopw [3, 4, 5, 6, 7] (fun v s0 m _ _ wr => ∃ (r : ByteArray) (mo : Bool) (acc : List (List UInt8)), s0 = .string r ∧ m = .bool mo ∧ r.size ≤ p.size ∧ CleanAt w wr p v acc mo r)
    (fun _ s0 m _ _ _ => boolN m * (strSize s0 + 1))
  case atStart => exact ⟨t, true, [], rfl, rfl, htz, HMO.out, HMB.out, by simp, by simp [joinS]; omega, by rw [if_pos rfl, HTL.out]; rfl⟩
  case round =>
    obtain ⟨r, mo, acc, rfl, rfl, hr, hca⟩ := hrel
    have HCA := Lib.hid hca
    have hbs := hca.bel.size
    clear hca
    cases mo
    · have heq : cleanL p.data.toList = joinS acc := HCA.out.eqn
      have hcv := kept_back HCA.out.row (by rw [← heq]; intro h; have := clean_head p.data.toList; rw [h] at this; cases this)
      have HEQ := Lib.hid heq
      clear heq
      go_wp2
      go_ret
      exact ⟨ret_string (by rw [HEQ.out]), HCA.out.bel⟩
    · obtain ⟨x, q, f, hcut, hsz, hq1, hq2, hxn, hparts⟩ := CutSl_any r wr (by unfold maxLen; omega)
      have hlen := HCA.out.len
      rw [if_pos rfl] at hlen
      have hx1 : x.size ≤ r.size := by cases f <;> simp at hsz <;> omega
      have HQ := Lib.hid hq2
      have HC := Lib.hid hcut
      have HSZ := Lib.hid hsz
      have HXN := Lib.hid hxn
      have HEQ : Hid (cleanL p.data.toList = joinS (if f then keepL (stepL acc x.data.toList false) (parts 47 q.data.toList) else stepL acc x.data.toList true)) := by
        show _ = _
        rw [HCA.out.eqn, if_pos rfl, hparts]
        cases f
        · simp [keepL]
        · simp only [if_true, keepL]
          rw [show (parts 47 q.data.toList).isEmpty = false by cases h : parts 47 q.data.toList; exact absurd h (parts_ne _ _); rfl]
      clear hcut hsz hxn hparts hq2
      rcases dots_cases x.data.toList with hd | hd | hd
      · have HD := Lib.hid hd
        have HST : Hid (∀ b, stepL acc x.data.toList b = acc ++ [x.data.toList]) := by intro b; unfold stepL; rw [if_pos hd]
        clear hd
        go_wp2_with fail
        refine HC.out.mono ?_
        rintro e w' ⟨rfl, n, hwn⟩
        obtain ⟨wa, hwa⟩ : ∃ wa, wa = w' := ⟨_, rfl⟩
        subst hwa
        have HRA : Hid (KeptAt wa w.heap.size u3 (joinS acc)) := by rw [hwn]; exact HCA.out.row.drewN n
        have HBA : Hid (Below w.heap.size w wa) := by rw [hwn]; exact below_drewN HCA.out.bel n
        clear hwn
        go_wp2_with fail
        refine (dotsOf_any x _ (by unfold maxLen; omega)).mono ?_
        rintro e wb ⟨rfl, hb⟩
        rw [HD.out]
        have HRB : Hid (KeptAt wb w.heap.size u3 (joinS acc)) := HRA.out.below hb
        have HBB : Hid (Below w.heap.size w wb) := HBA.out.trans (hb.mono HBA.out.size)
        have hbs2 := HBB.out.size
        clear hb
        go_wp2_with (at_builtin; refine wpList_append_own _ rfl (.tmp 26) (.tmp 27) 130 rfl w.heap.size 5 i0 (.int .u8 0) 1 1 Tryz.underlying130 hi hz0 hz1 hz2 rfl (by decide) _ _ _ rfl (World.ownsRow.alloc (w := wb) HRB.out _) ⟨wb.heap.size, 0, none⟩ 1 1 [.int .u8 47] rfl rfl ?c1 ?c2 ?c3 ?c4 ?c5 ?_)
        case c1 => exact cell_one_new _ _ _
        case c2 => intro u hu; simp at hu; subst hu; rfl
        case c3 => unfold maxLen; omega
        case c4 => omega
        case c5 => simp; omega
        intro v1 w1 hown hgrow _
        have HR1 : Hid (KeptAt w1 w.heap.size v1 (joinS acc ++ [47])) := kept_slash hown
        have HB1 : Hid (Below w.heap.size w w1) := Below.grown (HBB.out.alloc HBB.out.size _) hgrow (by simp; omega) (fun k hk => (World.ownsRow.lt HRB.out k hk).1)
        have hs1 := HB1.out.size
        clear hown hgrow
        have hl1 : (joinS acc ++ [47]).length = (joinS acc).length + 1 := by simp
        go_wp2_with (at_builtin; refine Lib.wpList_append_own_string _ rfl (.tmp 29) (.tmp 30) 130 9 rfl w.heap.size 5 i0 Tryz.underlying130 Tryz.underlying9 hi hz0 hz1 hz2 _ _ _ rfl HR1.out x rfl ?c3 ?c4 ?c5 ?_)
        case c3 => unfold maxLen; omega
        case c4 => omega
        case c5 => omega
        intro v2 w2 hown hgrow _
        have HR2 : Hid (KeptAt w2 w.heap.size v2 (joinS (acc ++ [x.data.toList]))) := by
          rw [joinS_snoc]; exact kept_both hown
        have HB2 : Hid (Below w.heap.size w w2) := Below.grown HB1.out hgrow (by omega) (fun k hk => (World.ownsRow.lt HR1.out k hk).1)
        clear hown hgrow hl1
        go_wp2
        go_roundw
        case rel =>
          refine ⟨q, f, acc ++ [x.data.toList], rfl, rfl, by omega, HR2.out, HB2.out, snoc_noSl HCA.out.nos HXN.out, ?_, ?_⟩
          · have h1 := HSZ.out
            have h2 : x.data.toList.length = x.size := by simp
            rw [joinS_snoc, List.length_append, List.length_cons, h2]
            omega
          · rw [HEQ.out, HST.out, HST.out]
        case measure =>
          cases f
          · simp [boolN]
          · simp [boolN, strSize]; exact HQ.out rfl
      · have HD := Lib.hid hd
        have HST : Hid (∀ b, stepL acc x.data.toList b = acc ++ (if b then [[]] else [])) := by intro b; unfold stepL; rw [if_neg (by rw [hd]; decide), if_neg (by rw [hd]; decide)]
        clear hd
        go_wp2_with fail
        refine HC.out.mono ?_
        rintro e w' ⟨rfl, n, hwn⟩
        obtain ⟨wa, hwa⟩ : ∃ wa, wa = w' := ⟨_, rfl⟩
        subst hwa
        have HRA : Hid (KeptAt wa w.heap.size u3 (joinS acc)) := by rw [hwn]; exact HCA.out.row.drewN n
        have HBA : Hid (Below w.heap.size w wa) := by rw [hwn]; exact below_drewN HCA.out.bel n
        clear hwn
        go_wp2_with fail
        refine (dotsOf_any x _ (by unfold maxLen; omega)).mono ?_
        rintro e wb ⟨rfl, hb⟩
        rw [HD.out]
        have HRB : Hid (KeptAt wb w.heap.size u3 (joinS acc)) := HRA.out.below hb
        have HBB : Hid (Below w.heap.size w wb) := HBA.out.trans (hb.mono HBA.out.size)
        have hbs2 := HBB.out.size
        clear hb
        have HNS : Hid (∀ t ∈ acc, noSl t) := HCA.out.nos
        have hl0 : (joinS acc).length + (r.size + 1) ≤ p.size + 1 := hlen
        cases f
        · go_wp2_with (at_builtin; refine wpList_append_own _ rfl (.tmp 42) (.tmp 43) 130 rfl w.heap.size 5 i0 (.int .u8 0) 1 1 Tryz.underlying130 hi hz0 hz1 hz2 rfl (by decide) _ _ _ rfl (World.ownsRow.alloc (w := wb) HRB.out _) ⟨wb.heap.size, 0, none⟩ 1 1 [.int .u8 47] rfl rfl ?c1 ?c2 ?c3 ?c4 ?c5 ?_)
          case c1 => exact cell_one_new _ _ _
          case c2 => intro u hu; simp at hu; subst hu; rfl
          case c3 => unfold maxLen; omega
          case c4 => omega
          case c5 => simp; omega
          intro v1 w1 hown hgrow _
          have HR1 : Hid (KeptAt w1 w.heap.size v1 (joinS acc ++ [47])) := kept_slash hown
          have HB1 : Hid (Below w.heap.size w w1) := Below.grown (HBB.out.alloc HBB.out.size _) hgrow (by simp; omega) (fun k hk => (World.ownsRow.lt HRB.out k hk).1)
          have hs1 := HB1.out.size
          clear hown hgrow
          go_wp2
          go_roundw
          case rel =>
            refine ⟨q, false, acc ++ [[]], rfl, rfl, by omega, by rw [joinS_snoc]; exact HR1.out, HB1.out, snoc_noSl HNS.out nil_noSl, ?_, ?_⟩
            · have h1 := HSZ.out
              rw [joinS_snoc, List.length_append, List.length_cons, List.length_nil]
              simp
              omega
            · rw [HEQ.out]; simp [HST.out]
          case measure => simp [boolN]
        · go_wp2
          go_roundw
          case rel =>
            refine ⟨q, true, acc, rfl, rfl, by omega, HRB.out, HBB.out, HNS.out, ?_, ?_⟩
            · have h1 := HSZ.out
              simp only [if_true] at h1 ⊢
              omega
            · rw [HEQ.out, HST.out]; simp
          case measure => simp [boolN, strSize]; exact HQ.out (by trivial)
      · have HD := Lib.hid hd
        have HST : Hid (∀ b, stepL acc x.data.toList b = acc.dropLast ++ (if b then [[]] else [])) := by intro b; unfold stepL; rw [if_neg (by rw [hd]; decide), if_pos hd]
        clear hd
        go_wp2_with fail
        refine HC.out.mono ?_
        rintro e w' ⟨rfl, n, hwn⟩
        obtain ⟨wa, hwa⟩ : ∃ wa, wa = w' := ⟨_, rfl⟩
        subst hwa
        have HRA : Hid (KeptAt wa w.heap.size u3 (joinS acc)) := by rw [hwn]; exact HCA.out.row.drewN n
        have HBA : Hid (Below w.heap.size w wa) := by rw [hwn]; exact below_drewN HCA.out.bel n
        clear hwn
        go_wp2_with fail
        refine (dotsOf_any x _ (by unfold maxLen; omega)).mono ?_
        rintro e wb ⟨rfl, hb⟩
        rw [HD.out]
        have HRB : Hid (KeptAt wb w.heap.size u3 (joinS acc)) := HRA.out.below hb
        have HBB : Hid (Below w.heap.size w wb) := HBA.out.trans (hb.mono HBA.out.size)
        have hbs2 := HBB.out.size
        clear hb
        go_wp2_with fail
        refine (withoutLast_any _ _ acc _ HRB.out HCA.out.nos).mono ?_
        rintro e wc ⟨v0, rfl, hk0, n0, hwc⟩
        have HRC : Hid (KeptAt wc w.heap.size v0 (joinS acc.dropLast)) := hk0
        have HBC : Hid (Below w.heap.size w wc) := by rw [hwc]; exact below_drewN HBB.out n0
        have hbs3 := HBC.out.size
        have HNS : Hid (∀ t ∈ acc.dropLast, noSl t) := join_dropLast_noSl HCA.out.nos
        have hl0 : (joinS acc.dropLast).length + (r.size + 1) ≤ p.size + 1 := by have := joinS_dropLast acc; omega
        clear hk0 hwc
        cases f
        · go_wp2_with (at_builtin; refine wpList_append_own _ rfl (.tmp 42) (.tmp 43) 130 rfl w.heap.size 5 i0 (.int .u8 0) 1 1 Tryz.underlying130 hi hz0 hz1 hz2 rfl (by decide) _ _ _ rfl (World.ownsRow.alloc (w := wc) HRC.out _) ⟨wc.heap.size, 0, none⟩ 1 1 [.int .u8 47] rfl rfl ?c1 ?c2 ?c3 ?c4 ?c5 ?_)
          case c1 => exact cell_one_new _ _ _
          case c2 => intro u hu; simp at hu; subst hu; rfl
          case c3 => unfold maxLen; omega
          case c4 => omega
          case c5 => simp; omega
          intro v1 w1 hown hgrow _
          have HR1 : Hid (KeptAt w1 w.heap.size v1 (joinS acc.dropLast ++ [47])) := kept_slash hown
          have HB1 : Hid (Below w.heap.size w w1) := Below.grown (HBC.out.alloc HBC.out.size _) hgrow (by simp; omega) (fun k hk => (World.ownsRow.lt HRC.out k hk).1)
          have hs1 := HB1.out.size
          clear hown hgrow
          go_wp2
          go_roundw
          case rel =>
            refine ⟨q, false, acc.dropLast ++ [[]], rfl, rfl, by omega, by rw [joinS_snoc]; exact HR1.out, HB1.out, snoc_noSl HNS.out nil_noSl, ?_, ?_⟩
            · have h1 := HSZ.out
              rw [joinS_snoc, List.length_append, List.length_cons, List.length_nil]
              simp
              omega
            · rw [HEQ.out]; simp [HST.out]
          case measure => simp [boolN]
        · go_wp2
          go_roundw
          case rel =>
            refine ⟨q, true, acc.dropLast, rfl, rfl, by omega, HRC.out, HBC.out, HNS.out, ?_, ?_⟩
            · have h1 := HSZ.out
              simp only [if_true] at h1 ⊢
              omega
            · rw [HEQ.out, HST.out]; simp
          case measure => simp [boolN, strSize]; exact HQ.out (by trivial)
end Go.Proofs.YtlkneapidmdpbaaGreatDoor

namespace Go.Proofs.YtlkneapidmdpbaaGreatDoor
open Go.RowKit

/-- block g holds a URL -/
structure UrlAt (W : World) (g : Nat) (s h : ByteArray) (p : Int) (pa q : ByteArray) : Prop where
  c0 : W.cell? ⟨g, 0, none⟩ = some (.string s)
  c1 : W.cell? ⟨g, 1, none⟩ = some (.string h)
  c2 : W.cell? ⟨g, 2, none⟩ = some (.int .i64 p)
  c3 : W.cell? ⟨g, 3, none⟩ = some (.string pa)
  c4 : W.cell? ⟨g, 4, none⟩ = some (.string q)
theorem UrlAt.below {W W' : World} {g B : Nat} {s h pa q : ByteArray} {p : Int} (o : UrlAt W g s h p pa q) (hb : Below B W W') (hg : g < B) : UrlAt W' g s h p pa q :=
  ⟨(hb.cell hg).trans o.c0, (hb.cell hg).trans o.c1, (hb.cell hg).trans o.c2, (hb.cell hg).trans o.c3, (hb.cell hg).trans o.c4⟩
theorem UrlAt.new (w : World) (s h : ByteArray) (p : Int) (pa q : ByteArray) (t : TypeId) : UrlAt (w.alloc (.cells #[.string s, .string h, .int .i64 p, .string pa, .string q] t)) w.heap.size s h p pa q :=
  ⟨by simp, by simp, by simp, by simp, by simp⟩
theorem UrlAt.drew {W : World} {g : Nat} {s h pa q : ByteArray} {p : Int} (o : UrlAt W g s h p pa q) : UrlAt W.drew g s h p pa q := ⟨o.c0, o.c1, o.c2, o.c3, o.c4⟩
theorem UrlAt.lt {W : World} {g : Nat} {s h pa q : ByteArray} {p : Int} (o : UrlAt W g s h p pa q) : g < W.heap.size := block_of_cell o.c0
theorem UrlAt.alloc {W : World} {g : Nat} {s h pa q : ByteArray} {p : Int} (o : UrlAt W g s h p pa q) (x : Obj) : UrlAt (W.alloc x) g s h p pa q :=
  o.below ((Below.refl _ _).alloc (Nat.le_refl _) x) o.lt

/-- a URL as a value, and as the mathematics has it -/
def urlV (s h : ByteArray) (p : Int) (pa q : ByteArray) : Value := .agg #[.string s, .string h, .int .i64 p, .string pa, .string q]
def urlOf (s h : ByteArray) (p : Int) (pa q : ByteArray) : Url := ⟨s.data.toList, h.data.toList, p, pa.data.toList, q.data.toList⟩

theorem Clean_as (p t : ByteArray) (w : World) (hp : p.size ≤ 100000) (ht : t = mk (cleanL p.data.toList)) :
    Calls Tryz.prog 148 #[.string p] w fun e w' => e = .returned (.string t) ∧ Below w.heap.size w w' := by rw [ht]; exact Clean_any p w hp
theorem eq_clean (s : ByteArray) (t : ByteArray) (ht : t = mk (cleanL s.data.toList)) : (t.toList == s.toList) = (cleanL s.data.toList == s.data.toList) := by
  rw [ByteArray.toList_eq, ByteArray.toList_eq, ht, mk_data]

set_option maxHeartbeats 1000000 in
theorem isPath_any (s : ByteArray) (w : World) (hs : s.size ≤ 100000) :
    Calls Tryz.prog 157 #[.string s] w fun e w' => e = .returned (.bool (pathL s.data.toList)) ∧ Below w.heap.size w w' := by
  obtain ⟨t, ht⟩ : ∃ t, t = mk (cleanL s.data.toList) := ⟨_, rfl⟩
  have HE := Lib.hid (eq_clean s t ht)
  have HT := Lib.hid ht
  clear ht
  cases hf : freeL noPathL s.data.toList
  · have HF : Hid (freeL (ByteArray.mk #[34, 35, 60, 62, 63, 92, 94, 96, 123, 124, 125]).data.toList s.data.toList = false) := hf
    go_enter Tryz.func157, Tryz.ntmps157
    go_wp2_with (go_at_call 147; refine (isFree_any _ _ _ (by unfold maxLen; omega)).mono ?_; rintro e w' ⟨rfl, rfl⟩; rw [HF.out])
    go_ret
    exact ⟨ret_bool (by unfold pathL; rw [hf]; rfl), Below.refl _ _⟩
  · have HF : Hid (freeL (ByteArray.mk #[34, 35, 60, 62, 63, 92, 94, 96, 123, 124, 125]).data.toList s.data.toList = true) := hf
    go_enter Tryz.func157, Tryz.ntmps157
    go_wp2_with (go_at_call 147; refine (isFree_any _ _ _ (by unfold maxLen; omega)).mono ?_; rintro e w' ⟨rfl, rfl⟩; rw [HF.out])
    refine (Clean_as s t _ hs HT.out).mono ?_
    rintro e w' ⟨rfl, hb⟩
    go_wp2
    go_ret
    exact ⟨ret_bool (by unfold pathL; rw [hf, ← HE.out]; rfl), hb⟩

theorem Show_as (s h : ByteArray) (p : Int) (t : ByteArray) (w : World) (hh : h.size ≤ maxLen) (he : Env w) (ht : t = mk (showL s.data.toList h.data.toList p)) :
    Calls Tryz.prog 62 #[.agg #[.string s, .string h, .int .i64 p]] w fun e w' => e = .returned (.string t) ∧ Below w.heap.size w w' := by rw [ht]; exact Show_any s h p w hh he

set_option maxHeartbeats 2000000 in
theorem fits_any (s h : ByteArray) (p : Int) (pa q : ByteArray) (w : World) (hh : h.size ≤ maxLen) (hpa : pa.size ≤ 100001) (hq : q.size ≤ 100000) (he : Env w) :
    Calls Tryz.prog 149 #[urlV s h p pa q] w fun e w' => e = .returned (.bool (decide ((urlOf s h p pa q).len ≤ 512))) ∧ Below w.heap.size w w' := by
  have hb : Below w.heap.size w (w.alloc (.cells #[.string s, .string h, .int .i64 p, .string pa, .string q] 84)) := (Below.refl _ _).alloc (Nat.le_refl _) _
  have ho := UrlAt.new w s h p pa q 84
  have HB := Lib.hid hb
  have HE := Lib.hid he
  obtain ⟨t, ht⟩ : ∃ t, t = mk (showL s.data.toList h.data.toList p) := ⟨_, rfl⟩
  have htz : t.size ≤ 270 := by rw [ht, mk_size]; exact show_len
  have HL : Hid ((urlOf s h p pa q).len = t.size + pa.size + q.size) := by
    show _ = _
    rw [ht, mk_size]
    unfold Url.len urlOf
    simp
  have HT := Lib.hid ht
  clear hb he ht
  unfold urlV
  go_enter Tryz.func149, Tryz.ntmps149
  go_wp2_with fail
  refine mix_start (fun W => UrlAt W w.heap.size s h p pa q) (by kernel_rfl) ?_
  have hne : Nonempty (Held (fun W => UrlAt W w.heap.size s h p pa q)) := ⟨⟨_, ho⟩⟩
  have hx0 : ∀ z : Held (fun W => UrlAt W w.heap.size s h p pa q), z.w.cell? ⟨w.heap.size, 0, none⟩ = some (.string s) := fun z => z.h.c0
  have hx1 : ∀ z : Held (fun W => UrlAt W w.heap.size s h p pa q), z.w.cell? ⟨w.heap.size, 1, none⟩ = some (.string h) := fun z => z.h.c1
  have hx2 : ∀ z : Held (fun W => UrlAt W w.heap.size s h p pa q), z.w.cell? ⟨w.heap.size, 2, none⟩ = some (.int .i64 p) := fun z => z.h.c2
  have hx3 : ∀ z : Held (fun W => UrlAt W w.heap.size s h p pa q), z.w.cell? ⟨w.heap.size, 3, none⟩ = some (.string pa) := fun z => z.h.c3
  have hx4 : ∀ z : Held (fun W => UrlAt W w.heap.size s h p pa q), z.w.cell? ⟨w.heap.size, 4, none⟩ = some (.string q) := fun z => z.h.c4
  refine mix_seg [0, 1, 4, 5, 6, 8, 9, 10] (by kernel_rfl) ho.drew ?_
  simp only [segOf, pickOps, pickOp]
  repeat (go_big_quiet_step (fail))
  refine wpQuiet_nil ?_
  refine mix_run 2 (by kernel_rfl) ?_
  simp only [segOf, pickOps, pickOp]
  go_wp2_with fail
  refine (Show_as _ _ _ t _ hh (HE.out.below HB.out).drew HT.out).mono ?_
  rintro e w1 ⟨rfl, hb2⟩
  have ho1 : UrlAt w1 w.heap.size s h p pa q := ho.drew.below hb2 (by simp)
  have HB1 : Hid (Below w.heap.size w w1) := HB.out.drew.trans (hb2.mono HB.out.size)
  clear hb2
  go_wp2_with fail
  refine MixPost.normal ho1 ?_
  refine mix_seg [3, 7, 11, 12, 13] (by kernel_rfl) ho1 ?_
  simp only [segOf, pickOps, pickOp]
  repeat (go_big_quiet_step (fail))
  refine wpQuiet_nil ?_
  refine mix_done (by kernel_rfl) ?_
  go_wp2
  go_ret
  refine ⟨ret_bool ?_, HB1.out⟩
  rw [HL.out]
  rw [decide_eq_decide]
  omega

theorem ok_at (s h : ByteArray) (p : Int) (pa q : ByteArray) : (urlOf s h p pa q).ok = (checkL s.data.toList h.data.toList p && pathL pa.data.toList && queryL q.data.toList && decide ((urlOf s h p pa q).len ≤ 512)) := rfl

set_option maxHeartbeats 2000000 in
theorem tCheck_any (s h : ByteArray) (p : Int) (pa q : ByteArray) (w : World) (hh : h.size ≤ maxLen) (hpa : pa.size ≤ 100000) (hq : q.size ≤ 100000) (he : Env w) :
    Calls Tryz.prog 106 #[urlV s h p pa q] w fun e w' => e = .returned (.bool (urlOf s h p pa q).ok) ∧ Below w.heap.size w w' := by
  have hb : Below w.heap.size w (w.alloc (.cells #[.string s, .string h, .int .i64 p, .string pa, .string q] 84)) := (Below.refl _ _).alloc (Nat.le_refl _) _
  have ho := UrlAt.new w s h p pa q 84
  have HB := Lib.hid hb
  have HE := Lib.hid he
  have HO := Lib.hid ho
  have HK := Lib.hid (ok_at s h p pa q)
  clear hb he ho
  unfold urlV
  go_enter Tryz.func106, Tryz.ntmps106
  go_wp2_with fail
  refine (Check_any _ _ _ _ hh).mono ?_
  rintro e w1 ⟨rfl, hb1⟩
  have ho1 := HO.out.below hb1 (by simp)
  have HB1 : Hid (Below w.heap.size w w1) := HB.out.trans (hb1.mono HB.out.size)
  clear hb1
  have HO1 := Lib.hid ho1
  obtain ⟨a0, a1, a2, a3, a4⟩ := ho1
  cases h1 : checkL s.data.toList h.data.toList p
  · go_wp2
    go_ret
    exact ⟨ret_bool (by rw [HK.out, h1]; rfl), HB1.out⟩
  have H1 := Lib.hid h1
  clear h1
  go_wp2_with fail
  refine (isPath_any _ _ hpa).mono ?_
  rintro e w2 ⟨rfl, hb2⟩
  have ho2 := HO1.out.below hb2 HO1.out.lt
  have HB2 : Hid (Below w.heap.size w w2) := HB1.out.trans (hb2.mono HB1.out.size)
  clear hb2 a0 a1 a2 a3 a4
  have HO2 := Lib.hid ho2
  obtain ⟨a0, a1, a2, a3, a4⟩ := ho2
  cases h2 : pathL pa.data.toList
  · go_wp2
    go_ret
    exact ⟨ret_bool (by rw [HK.out, H1.out, h2]; rfl), HB2.out⟩
  have H2 := Lib.hid h2
  clear h2
  go_wp2_with fail
  refine (isQuery_any _ _ (by unfold maxLen; omega)).mono ?_
  rintro e w3 ⟨rfl, rfl⟩
  cases h3 : queryL q.data.toList
  · go_wp2
    go_ret
    exact ⟨ret_bool (by rw [HK.out, H1.out, H2.out, h3]; rfl), HB2.out⟩
  have H3 := Lib.hid h3
  clear h3
  go_wp2_with fail
  refine (fits_any s h p pa q _ hh (by omega) hq (HE.out.below HB2.out)).mono ?_
  rintro e w4 ⟨rfl, hb4⟩
  go_wp2
  go_ret
  exact ⟨ret_bool (by rw [HK.out, H1.out, H2.out, H3.out]; rfl), HB2.out.trans (hb4.mono HB2.out.size)⟩

theorem show_mk {s h : ByteArray} {p : Int} {pa q : ByteArray} {t : ByteArray} (ht : t = mk (showL s.data.toList h.data.toList p)) (hc : (urlOf s h p pa q).ok = true) :
    t ++ pa ++ q = mk (urlOf s h p pa q).show_ := by
  rw [show_ok hc, ht]
  show mk (showL s.data.toList h.data.toList p) ++ pa ++ q = mk (showL s.data.toList h.data.toList p ++ pa.data.toList ++ q.data.toList)
  conv => lhs; rw [← mk_eq pa, ← mk_eq q]
  rw [mk_append, mk_append]

set_option maxHeartbeats 2000000 in
theorem tShow_any (s h : ByteArray) (p : Int) (pa q : ByteArray) (w : World) (hh : h.size ≤ maxLen) (hpa : pa.size ≤ 100000) (hq : q.size ≤ 100000) (he : Env w) :
    Calls Tryz.prog 61 #[urlV s h p pa q] w fun e w' => e = .returned (.string (mk (urlOf s h p pa q).show_)) ∧ Below w.heap.size w w' := by
  have hb : Below w.heap.size w (w.alloc (.cells #[.string s, .string h, .int .i64 p, .string pa, .string q] 84)) := (Below.refl _ _).alloc (Nat.le_refl _) _
  have ho := UrlAt.new w s h p pa q 84
  have HB := Lib.hid hb
  have HE := Lib.hid he
  have HE0 : Hid (Env (w.alloc (.cells #[.string s, .string h, .int .i64 p, .string pa, .string q] 84))) := he.alloc _
  have HO := Lib.hid ho
  clear hb he ho
  unfold urlV
  go_enter Tryz.func61, Tryz.ntmps61
  go_wp2_with fail
  refine (tCheck_any s h p pa q _ hh hpa hq HE0.out).mono ?_
  rintro e w1 ⟨rfl, hb1⟩
  have ho1 := HO.out.below hb1 (by simp)
  have HB1 : Hid (Below w.heap.size w w1) := HB.out.trans (hb1.mono HB.out.size)
  have HE1 : Hid (Env w1) := HE.out.below HB1.out
  clear hb1
  cases hc : (urlOf s h p pa q).ok
  · have HS : Hid (mk (urlOf s h p pa q).show_ = ⟨#[]⟩) := by show _ = _; rw [show_no hc]; rfl
    go_wp2
    go_ret
    exact ⟨ret_string HS.out.symm, HB1.out⟩
  obtain ⟨t, ht⟩ : ∃ t, t = mk (showL s.data.toList h.data.toList p) := ⟨_, rfl⟩
  have htz : t.size ≤ 270 := by rw [ht, mk_size]; exact show_len
  have HS := Lib.hid (show_mk (pa := pa) (q := q) ht hc)
  have HT := Lib.hid ht
  clear hc ht
  go_wp2_with fail
  refine mix_start (fun W => UrlAt W w.heap.size s h p pa q) (by kernel_rfl) ?_
  have hne : Nonempty (Held (fun W => UrlAt W w.heap.size s h p pa q)) := ⟨⟨_, ho1⟩⟩
  have hx0 : ∀ z : Held (fun W => UrlAt W w.heap.size s h p pa q), z.w.cell? ⟨w.heap.size, 0, none⟩ = some (.string s) := fun z => z.h.c0
  have hx1 : ∀ z : Held (fun W => UrlAt W w.heap.size s h p pa q), z.w.cell? ⟨w.heap.size, 1, none⟩ = some (.string h) := fun z => z.h.c1
  have hx2 : ∀ z : Held (fun W => UrlAt W w.heap.size s h p pa q), z.w.cell? ⟨w.heap.size, 2, none⟩ = some (.int .i64 p) := fun z => z.h.c2
  have hx3 : ∀ z : Held (fun W => UrlAt W w.heap.size s h p pa q), z.w.cell? ⟨w.heap.size, 3, none⟩ = some (.string pa) := fun z => z.h.c3
  have hx4 : ∀ z : Held (fun W => UrlAt W w.heap.size s h p pa q), z.w.cell? ⟨w.heap.size, 4, none⟩ = some (.string q) := fun z => z.h.c4
  refine mix_seg [0, 1, 3, 4, 6, 7] (by kernel_rfl) ho1.drew ?_
  simp only [segOf, pickOps, pickOp]
  repeat (go_big_quiet_step (fail))
  refine wpQuiet_nil ?_
  refine mix_run 2 (by kernel_rfl) ?_
  simp only [segOf, pickOps, pickOp]
  go_wp2_with fail
  refine (Show_as _ _ _ t _ hh HE1.out.drew HT.out).mono ?_
  rintro e w2 ⟨rfl, hb2⟩
  have ho2 : UrlAt w2 w.heap.size s h p pa q := ho1.drew.below hb2 ho1.lt
  have HB2 : Hid (Below w.heap.size w w2) := HB1.out.drew.trans (hb2.mono HB1.out.size)
  clear hb2
  go_wp2_with fail
  refine MixPost.normal ho2 ?_
  refine mix_seg [5, 8, 9] (by kernel_rfl) ho2 ?_
  simp only [segOf, pickOps, pickOp]
  repeat (go_big_quiet_step (fail))
  refine wpQuiet_nil ?_
  refine mix_done (by kernel_rfl) ?_
  go_wp2
  go_ret
  exact ⟨ret_string HS.out, HB2.out⟩
end Go.Proofs.YtlkneapidmdpbaaGreatDoor

namespace Go.Proofs.YtlkneapidmdpbaaGreatDoor
open Go.RowKit

def urlVal (u : Url) : Value := urlV (mk u.sc) (mk u.h) u.p (mk u.pa) (mk u.q)
def tgtV (l : List UInt8) : Value := .tuple #[urlVal (tgtL l).1, .int .i64 (tgtL l).2]
theorem tgtV_err {l : List UInt8} {k : Int} (h : tgtL l = (Url.zero, k)) : tgtV l = .tuple #[.agg #[.string ⟨#[]⟩, .string ⟨#[]⟩, .int .i64 0, .string ⟨#[]⟩, .string ⟨#[]⟩], .int .i64 k] := by rw [tgtV, h]; rfl

/-- none of the five cells of block g is frozen -/
structure Own5 (W : World) (g : Nat) : Prop where
  f0 : W.frozen? ⟨g, 0, none⟩ = false
  f1 : W.frozen? ⟨g, 1, none⟩ = false
  f2 : W.frozen? ⟨g, 2, none⟩ = false
  f3 : W.frozen? ⟨g, 3, none⟩ = false
  f4 : W.frozen? ⟨g, 4, none⟩ = false
theorem Own5.below {W W' : World} {g B : Nat} (o : Own5 W g) (hb : Below B W W') (hg : g < B) : Own5 W' g :=
  ⟨(hb.frozen hg).trans o.f0, (hb.frozen hg).trans o.f1, (hb.frozen hg).trans o.f2, (hb.frozen hg).trans o.f3, (hb.frozen hg).trans o.f4⟩
theorem Own5.new (w : World) (cs : Array Value) (t : TypeId) : Own5 (w.alloc (.cells cs t)) w.heap.size := ⟨by simp, by simp, by simp, by simp, by simp⟩

def set5 (W : World) (g : Nat) (a b : ByteArray) (p : Int) (c d : ByteArray) : World :=
  ((((W.setCell ⟨g, 0, none⟩ (.string a)).setCell ⟨g, 1, none⟩ (.string b)).setCell ⟨g, 2, none⟩ (.int .i64 p)).setCell ⟨g, 3, none⟩ (.string c)).setCell ⟨g, 4, none⟩ (.string d)
theorem cell_keep {W : World} {g i j : Nat} {u v : Value} (h : W.cell? ⟨g, i, none⟩ = some u) (hij : j ≠ i) : (W.setCell ⟨g, j, none⟩ v).cell? ⟨g, i, none⟩ = some u := by
  rw [World.cell?_setCell_other _ _ _ _ (by intro h; injection h with _ h2; exact hij h2)]; exact h
theorem set5_url {W : World} {g : Nat} {s h : ByteArray} {n : Int} {x y : ByteArray} (o : UrlAt W g s h n x y) (a b : ByteArray) (p : Int) (c d : ByteArray) : UrlAt (set5 W g a b p c d) g a b p c d := by
  obtain ⟨c0, c1, c2, c3, c4⟩ := o
  have d1 := cell_keep (v := .string a) c1 (j := 0) (by decide)
  have d2 := cell_keep (v := .string b) (cell_keep (v := .string a) c2 (j := 0) (by decide)) (j := 1) (by decide)
  have d3 := cell_keep (v := .int .i64 p) (cell_keep (v := .string b) (cell_keep (v := .string a) c3 (j := 0) (by decide)) (j := 1) (by decide)) (j := 2) (by decide)
  have d4 := cell_keep (v := .string c) (cell_keep (v := .int .i64 p) (cell_keep (v := .string b) (cell_keep (v := .string a) c4 (j := 0) (by decide)) (j := 1) (by decide)) (j := 2) (by decide)) (j := 3) (by decide)
  refine ⟨?_, ?_, ?_, ?_, ?_⟩
  · exact cell_keep (cell_keep (cell_keep (cell_keep (World.cell?_setCell_same _ _ _ c0) (by decide)) (by decide)) (by decide)) (by decide)
  · exact cell_keep (cell_keep (cell_keep (World.cell?_setCell_same _ _ _ d1) (by decide)) (by decide)) (by decide)
  · exact cell_keep (cell_keep (World.cell?_setCell_same _ _ _ d2) (by decide)) (by decide)
  · exact cell_keep (World.cell?_setCell_same _ _ _ d3) (by decide)
  · exact World.cell?_setCell_same _ _ _ d4
theorem set5_below {B : Nat} {w W : World} {g : Nat} (h : Below B w W) (hg : B ≤ g) (a b : ByteArray) (p : Int) (c d : ByteArray) : Below B w (set5 W g a b p c d) :=
  ((((h.setCell hg _).setCell hg _).setCell hg _).setCell hg _).setCell hg _

/-- what holds all through the reading: block w.heap.size is the result's -/
structure PAt (w W : World) : Prop where
  bel : Below w.heap.size w W
  env0 : Env w
  res : UrlAt W w.heap.size ⟨#[]⟩ ⟨#[]⟩ 0 ⟨#[]⟩ ⟨#[]⟩
  own : Own5 W w.heap.size
theorem PAt.env {w W : World} (h : PAt w W) : Env W := h.env0.below h.bel
theorem PAt.next {w W W' : World} (h : PAt w W) (hb : Below W.heap.size W W') : PAt w W' :=
  ⟨h.bel.trans (hb.mono h.bel.size), h.env0, h.res.below hb h.res.lt, h.own.below hb h.res.lt⟩
theorem PAt.drewN {w W : World} (h : PAt w W) (n : Nat) : PAt w (W.drewN n) := h.next (below_drewN (Below.refl _ _) n)
theorem PAt.alloc {w W : World} (h : PAt w W) (o : Obj) : PAt w (W.alloc o) := h.next ((Below.refl _ _).alloc (Nat.le_refl _) o)
theorem PAt.new {w : World} (he : Env w) (t : TypeId) : PAt w (w.alloc (.cells #[.string ⟨#[]⟩, .string ⟨#[]⟩, .int .i64 0, .string ⟨#[]⟩, .string ⟨#[]⟩] t)) :=
  ⟨(Below.refl _ _).alloc (Nat.le_refl _) _, he, UrlAt.new _ _ _ _ _ _ _, Own5.new _ _ _⟩

theorem cell_other {W : World} {g g' i j : Nat} {v : Value} (hg : g ≠ g') : (W.setCell ⟨g', j, none⟩ v).cell? ⟨g, i, none⟩ = W.cell? ⟨g, i, none⟩ :=
  World.cell?_setCell_other _ _ _ _ (by intro h; injection h with h1 _; exact hg h1.symm)
theorem UrlAt.other {W : World} {g g' j : Nat} {s h pa q : ByteArray} {p : Int} {v : Value} (o : UrlAt W g s h p pa q) (hg : g ≠ g') : UrlAt (W.setCell ⟨g', j, none⟩ v) g s h p pa q :=
  ⟨(cell_other hg).trans o.c0, (cell_other hg).trans o.c1, (cell_other hg).trans o.c2, (cell_other hg).trans o.c3, (cell_other hg).trans o.c4⟩
theorem OrgAt.other {W : World} {g g' j : Nat} {s h : ByteArray} {p : Int} {v : Value} (o : OrgAt W g s h p) (hg : g ≠ g') : OrgAt (W.setCell ⟨g', j, none⟩ v) g s h p :=
  ⟨(cell_other hg).trans o.c0, (cell_other hg).trans o.c1, (cell_other hg).trans o.c2⟩
theorem Own5.set {W : World} {g : Nat} (o : Own5 W g) (a : Addr) (v : Value) : Own5 (W.setCell a v) g :=
  ⟨by rw [World.frozen?_setCell]; exact o.f0, by rw [World.frozen?_setCell]; exact o.f1, by rw [World.frozen?_setCell]; exact o.f2, by rw [World.frozen?_setCell]; exact o.f3, by rw [World.frozen?_setCell]; exact o.f4⟩
theorem PAt.set {w W : World} {g j : Nat} {v : Value} (h : PAt w W) (hg : w.heap.size < g) : PAt w (W.setCell ⟨g, j, none⟩ v) :=
  ⟨h.bel.setCell (by show w.heap.size ≤ g; omega) _, h.env0, h.res.other (by omega), h.own.set _ _⟩
theorem PAt.set5 {w W : World} {g : Nat} (h : PAt w W) (hg : w.heap.size < g) (a b : ByteArray) (p : Int) (c d : ByteArray) : PAt w (set5 W g a b p c d) := ((((h.set hg).set hg).set hg).set hg).set hg
theorem OrgAt.set5 {W : World} {g g' : Nat} {s h : ByteArray} {n : Int} (o : OrgAt W g s h n) (hg : g ≠ g') (a b : ByteArray) (p : Int) (c d : ByteArray) : OrgAt (set5 W g' a b p c d) g s h n := ((((o.other hg).other hg).other hg).other hg).other hg
theorem urlVal_of (s h : ByteArray) (p : Int) (pa q : ByteArray) : urlVal (urlOf s h p pa q) = urlV s h p pa q := by
  unfold urlVal urlOf urlV
  simp only [mk_eq]

theorem CutHash_any (s : ByteArray) (w : World) (hs : s.size ≤ maxLen) : ∃ (t q : ByteArray) (f : Bool),
    (Calls Tryz.prog 144 #[.string s, .string ⟨#[35]⟩] w fun e w' => e = .returned (.tuple #[.string t, .string q, .bool f]) ∧ ∃ n, w' = w.drewN n) ∧
    t.size ≤ s.size ∧ t.data.toList = (split1 35 s.data.toList).1 := by
  rcases at_cases 35 s.data.toList with h | ⟨a, b, e, h⟩
  · exact ⟨s, ⟨#[]⟩, false, Cut_no s 35 w hs h, Nat.le_refl _, by rw [split1_none 35 _ h]⟩
  · have hl : s.size = a.length + (b.length + 1) := by have := congrArg List.length e; simpa using this
    have ha : (⟨a.toArray⟩ : ByteArray).size = a.length := by show a.toArray.size = _; simp
    exact ⟨⟨a.toArray⟩, ⟨b.toArray⟩, true, Cut_yes s a b 35 w hs e h, by omega, by rw [e, split1_at 35 a b h]⟩

theorem head_sub {l a b : List UInt8} (h : seek l = some (a, b)) : (headL a b).length ≤ l.length ∧ (b.dropWhile nsq).length ≤ l.length := by
  have e := congrArg List.length (seek_eq _ _ _ h)
  have h1 := congrArg List.length (List.takeWhile_append_dropWhile (p := nsq) (l := b))
  rw [headL]
  simp only [List.length_append, List.length_cons, List.length_nil] at e h1 ⊢
  omega

set_option maxHeartbeats 4000000 in
theorem tParse_any (s : ByteArray) (w : World) (hs : s.size ≤ maxLen) (he : Env w) :
    Calls Tryz.prog 99 #[.string s] w fun e w' => e = .returned (tgtV s.data.toList) ∧ Below w.heap.size w w' := by
  have hs0 := hs
  unfold maxLen at hs
  have hl : s.data.toList.length = s.size := by simp
  by_cases h512 : 512 < s.size
  · have HV := Lib.hid (tgtV_err (k := 4) (l := s.data.toList) (by rw [tgtL, if_pos (by rw [hl]; exact h512)]))
    clear hl
    go_enter Tryz.func99, Tryz.ntmps99
    go_wp2
    refine bodyPost_ret (v := .tuple #[.agg #[.string ⟨#[]⟩, .string ⟨#[]⟩, .int .i64 0, .string ⟨#[]⟩, .string ⟨#[]⟩], .int .i64 4]) (by simp [results, Tryz.results99, go_sem]) rfl ?_
    exact ⟨by rw [HV.out], (Below.refl _ _).alloc (Nat.le_refl _) _⟩
  have HTG : Hid (tgtL s.data.toList = textL (split1 35 s.data.toList).1) := by show _ = _; rw [tgtL, if_neg (by rw [hl]; exact h512)]
  clear hl
  have HP0 := Lib.hid (PAt.new he 84)
  obtain ⟨t, x1, x2, hcut, htz, htl⟩ := CutHash_any s (w.alloc (.cells #[.string ⟨#[]⟩, .string ⟨#[]⟩, .int .i64 0, .string ⟨#[]⟩, .string ⟨#[]⟩] 84)) hs0
  have HC := Lib.hid hcut
  have HT : Hid (tgtL s.data.toList = textL t.data.toList) := by show _ = _; rw [HTG.out, htl]
  clear hcut htl he HTG
  go_enter Tryz.func99, Tryz.ntmps99
  go_wp2_with fail
  refine HC.out.mono ?_
  rintro e w1 ⟨rfl, n1, hw1⟩
  have HP1 : Hid (PAt w w1) := by rw [hw1]; exact HP0.out.drewN n1
  clear hw1 HP0 HC
  go_wp2_with fail
  refine (cutOrigin_any t _ (by omega) HP1.out.env).mono ?_
  rintro e w2 ⟨rfl, hb2⟩
  have HP2 : Hid (PAt w w2) := HP1.out.next hb2
  clear hb2
  unfold cutOV
  cases hsk : seek t.data.toList with
  | none =>
    have HV := Lib.hid (tgtV_err (k := 3) (l := s.data.toList) (by rw [HT.out]; unfold textL; rw [hsk]))
    clear hsk
    obtain ⟨c0, c1, c2, c3, c4⟩ := HP2.out.res
    obtain ⟨f0, f1, f2, f3, f4⟩ := HP2.out.own
    go_wp2
    obtain ⟨q0, q1, q2, q3, q4⟩ := set5_url HP2.out.res ⟨#[]⟩ ⟨#[]⟩ 0 ⟨#[]⟩ ⟨#[]⟩
    unfold set5 at q0 q1 q2 q3 q4
    refine bodyPost_ret (v := .tuple #[.agg #[.string ⟨#[]⟩, .string ⟨#[]⟩, .int .i64 0, .string ⟨#[]⟩, .string ⟨#[]⟩], .int .i64 3]) (by simp [results, Tryz.results99, go_sem, q0, q1, q2, q3, q4]) rfl ?_
    exact ⟨by rw [HV.out], set5_below HP2.out.bel (Nat.le_refl _) _ _ _ _ _⟩
  | some qq =>
    obtain ⟨la, lb⟩ := qq
    have ⟨hz1, hz2⟩ := head_sub hsk
    have htl2 : t.data.toList.length = t.size := by simp
    obtain ⟨hd, ehd⟩ : ∃ hd, hd = mk (headL la lb) := ⟨_, rfl⟩
    obtain ⟨rs, ers⟩ : ∃ rs, rs = mk (lb.dropWhile nsq) := ⟨_, rfl⟩
    have hhz : hd.size ≤ 512 := by rw [ehd, mk_size]; omega
    have hrz : rs.size ≤ 512 := by rw [ers, mk_size]; omega
    have hhl : hd.data.toList = headL la lb := by rw [ehd, mk_data]
    have hrl : rs.data.toList = lb.dropWhile nsq := by rw [ers, mk_data]
    have HTX : Hid (tgtL s.data.toList = match parseL hd.data.toList with
        | none => (Url.zero, 3)
        | some (sc, h, p) => restL sc h p rs.data.toList) := by show _ = _; rw [HT.out, hhl, hrl]; unfold textL; rw [hsk]; rfl
    have HEH := Lib.hid ehd
    have HER := Lib.hid ers
    clear hsk hz1 hz2 htl2 ehd ers hhl hrl HT
    simp only
    rw [← HEH.out, ← HER.out]
    go_wp2_with fail
    refine (Parse_any hd _ (by unfold maxLen; omega) HP2.out.env).mono ?_
    rintro e w3 ⟨rfl, hb3⟩
    have HP3 : Hid (PAt w w3) := HP2.out.next hb3
    clear hb3
    have HPV : Hid (parseV hd.data.toList = match parseL hd.data.toList with
      | some (a, b, p) => .tuple #[orgV a b p, .int .i64 0]
      | none => .tuple #[orgV [] [] 0, .int .i64 3]) := by show _ = _; rw [parseV, if_neg (by simp; omega)]; cases parseL hd.data.toList <;> rfl
    cases hpl : parseL hd.data.toList with
    | none =>
      rw [HPV.out, hpl]
      have HV := Lib.hid (tgtV_err (k := 3) (l := s.data.toList) (by rw [HTX.out, hpl]))
      clear hpl HPV
      simp only [orgV]
      have HP4 := Lib.hid (HP3.out.alloc (.cells #[.string (mk []), .string (mk []), .int .i64 0] 82))
      obtain ⟨c0, c1, c2, c3, c4⟩ := HP4.out.res
      obtain ⟨f0, f1, f2, f3, f4⟩ := HP4.out.own
      go_wp2
      obtain ⟨q0, q1, q2, q3, q4⟩ := set5_url HP4.out.res ⟨#[]⟩ ⟨#[]⟩ 0 ⟨#[]⟩ ⟨#[]⟩
      unfold set5 at q0 q1 q2 q3 q4
      refine bodyPost_ret (v := .tuple #[.agg #[.string ⟨#[]⟩, .string ⟨#[]⟩, .int .i64 0, .string ⟨#[]⟩, .string ⟨#[]⟩], .int .i64 3]) (by simp [results, Tryz.results99, go_sem, q0, q1, q2, q3, q4]) rfl ?_
      exact ⟨by rw [HV.out], set5_below HP4.out.bel (Nat.le_refl _) _ _ _ _ _⟩
    | some oo =>
      obtain ⟨sc, ho, po⟩ := oo
      rw [HPV.out, hpl]
      have HTR : Hid (tgtL s.data.toList = restL sc ho po rs.data.toList) := by show _ = _; rw [HTX.out, hpl]
      have hck := parse_check hpl
      clear HPV HTX hpl
      simp only [orgV]
      obtain ⟨A, eA⟩ : ∃ A, A = mk sc := ⟨_, rfl⟩
      obtain ⟨H, eH⟩ : ∃ H, H = mk ho := ⟨_, rfl⟩
      rw [← eA, ← eH]
      have hHz : H.size ≤ 253 := by rw [eH, mk_size]; exact host_len (check_parts hck).2.1
      have HA : Hid (A.data.toList = sc) := by show _ = _; rw [eA, mk_data]
      have HH : Hid (H.data.toList = ho) := by show _ = _; rw [eH, mk_data]
      clear eA eH hck
      have HP4 := Lib.hid (HP3.out.alloc (.cells #[.string A, .string H, .int .i64 po] 82))
      have HO4 := Lib.hid (OrgAt.new w3 A H po 82)
      obtain ⟨pa, epa⟩ : ∃ pa, pa = mk (rs.data.toList.takeWhile nq) := ⟨_, rfl⟩
      obtain ⟨qr, eqr⟩ : ∃ qr, qr = mk (rs.data.toList.dropWhile nq) := ⟨_, rfl⟩
      have hpl : pa.data.toList = rs.data.toList.takeWhile nq := by rw [epa, mk_data]
      have hql : qr.data.toList = rs.data.toList.dropWhile nq := by rw [eqr, mk_data]
      have hsum : pa.size + qr.size = rs.size := by
        have := congrArg List.length (List.takeWhile_append_dropWhile (p := nq) (l := rs.data.toList))
        rw [List.length_append, ← hpl, ← hql] at this
        simpa using this
      have hpz : pa.size ≤ 512 := by omega
      have hqz : qr.size ≤ 512 := by omega
      obtain ⟨cl, ecl⟩ : ∃ cl, cl = mk (cleanL pa.data.toList) := ⟨_, rfl⟩
      have hcz : cl.size ≤ 513 := by rw [ecl, mk_size]; have := clean_len pa.data.toList; rw [show pa.data.toList.length = pa.size by simp] at this; omega
      have HR : Hid (restL sc ho po rs.data.toList = if (freeL noPathL pa.data.toList && freeL noQueryL qr.data.toList) = false then (Url.zero, 3)
          else if 512 < (urlOf A H po cl qr).len then (Url.zero, 4) else (urlOf A H po cl qr, 0)) := by
        show _ = _
        have e : (⟨sc, ho, po, cleanL (rs.data.toList.takeWhile nq), rs.data.toList.dropWhile nq⟩ : Url) = urlOf A H po cl qr := by
          unfold urlOf; rw [HA.out, HH.out, hql, ecl, mk_data, hpl]
        rw [hpl, hql]
        unfold restL
        rw [e]
      have HCL := Lib.hid ecl
      have HPE := Lib.hid epa
      have HQE := Lib.hid eqr
      clear hsum hpl hql epa eqr ecl
      go_wp2_with fail
      refine (cutQuery_any rs _).mono ?_
      rintro e w5 ⟨rfl, n5, hw5⟩
      rw [← HPE.out, ← HQE.out]
      obtain ⟨g1, hg1⟩ : ∃ g1, g1 = w3.heap.size := ⟨_, rfl⟩
      have HP5 : Hid (PAt w w5) := by rw [hw5]; exact HP4.out.drewN n5
      have HO5 : Hid (OrgAt w5 g1 A H po) := by rw [hw5, hg1]; exact ⟨HO4.out.c0, HO4.out.c1, HO4.out.c2⟩
      rw [← hg1]
      clear hw5 hg1 HP4 HO4
      go_wp2_with fail
      refine (isFree_any pa _ _ (by unfold maxLen; omega)).mono ?_
      rintro e w' ⟨rfl, rfl⟩
      cases hf1 : freeL noPathL pa.data.toList
      · have HF1 : Hid (freeL (ByteArray.mk #[34, 35, 60, 62, 63, 92, 94, 96, 123, 124, 125]).data.toList pa.data.toList = false) := hf1
        have HV := Lib.hid (tgtV_err (k := 3) (l := s.data.toList) (by rw [HTR.out, HR.out, hf1]; rfl))
        clear hf1
        rw [HF1.out]
        obtain ⟨c0, c1, c2, c3, c4⟩ := HP5.out.res
        obtain ⟨f0, f1, f2, f3, f4⟩ := HP5.out.own
        go_wp2
        obtain ⟨q0, q1, q2, q3, q4⟩ := set5_url HP5.out.res ⟨#[]⟩ ⟨#[]⟩ 0 ⟨#[]⟩ ⟨#[]⟩
        unfold set5 at q0 q1 q2 q3 q4
        refine bodyPost_ret (v := .tuple #[.agg #[.string ⟨#[]⟩, .string ⟨#[]⟩, .int .i64 0, .string ⟨#[]⟩, .string ⟨#[]⟩], .int .i64 3]) (by simp [results, Tryz.results99, go_sem, q0, q1, q2, q3, q4]) rfl ?_
        exact ⟨by rw [HV.out], set5_below HP5.out.bel (Nat.le_refl _) _ _ _ _ _⟩
      have HF1 : Hid (freeL (ByteArray.mk #[34, 35, 60, 62, 63, 92, 94, 96, 123, 124, 125]).data.toList pa.data.toList = true) := hf1
      have HF1' := Lib.hid hf1
      clear hf1
      rw [HF1.out]
      go_wp2_with fail
      refine (isFree_any qr _ _ (by unfold maxLen; omega)).mono ?_
      rintro e w' ⟨rfl, rfl⟩
      cases hf2 : freeL noQueryL qr.data.toList
      · have HF2 : Hid (freeL (ByteArray.mk #[34, 35, 60, 62]).data.toList qr.data.toList = false) := hf2
        have HV := Lib.hid (tgtV_err (k := 3) (l := s.data.toList) (by rw [HTR.out, HR.out, HF1'.out, hf2]; rfl))
        clear hf2
        rw [HF2.out]
        obtain ⟨c0, c1, c2, c3, c4⟩ := HP5.out.res
        obtain ⟨f0, f1, f2, f3, f4⟩ := HP5.out.own
        go_wp2
        obtain ⟨q0, q1, q2, q3, q4⟩ := set5_url HP5.out.res ⟨#[]⟩ ⟨#[]⟩ 0 ⟨#[]⟩ ⟨#[]⟩
        unfold set5 at q0 q1 q2 q3 q4
        refine bodyPost_ret (v := .tuple #[.agg #[.string ⟨#[]⟩, .string ⟨#[]⟩, .int .i64 0, .string ⟨#[]⟩, .string ⟨#[]⟩], .int .i64 3]) (by simp [results, Tryz.results99, go_sem, q0, q1, q2, q3, q4]) rfl ?_
        exact ⟨by rw [HV.out], set5_below HP5.out.bel (Nat.le_refl _) _ _ _ _ _⟩
      have HF2 : Hid (freeL (ByteArray.mk #[34, 35, 60, 62]).data.toList qr.data.toList = true) := hf2
      have HRR : Hid (tgtL s.data.toList = if 512 < (urlOf A H po cl qr).len then (Url.zero, 4) else (urlOf A H po cl qr, 0)) := by
        show _ = _; rw [HTR.out, HR.out, HF1'.out, hf2]; rfl
      clear hf2 HTR HR
      rw [HF2.out]
      go_wp2_with fail
      refine mix_start (fun W => OrgAt W g1 A H po) (by kernel_rfl) ?_
      have hne : Nonempty (Held (fun W => OrgAt W g1 A H po)) := ⟨⟨_, HO5.out⟩⟩
      have hx0 : ∀ z : Held (fun W => OrgAt W g1 A H po), z.w.cell? ⟨g1, 0, none⟩ = some (.string A) := fun z => z.h.c0
      have hx1 : ∀ z : Held (fun W => OrgAt W g1 A H po), z.w.cell? ⟨g1, 1, none⟩ = some (.string H) := fun z => z.h.c1
      have hx2 : ∀ z : Held (fun W => OrgAt W g1 A H po), z.w.cell? ⟨g1, 2, none⟩ = some (.int .i64 po) := fun z => z.h.c2
      refine mix_seg [0, 1, 3] (by kernel_rfl) HO5.out.drew ?_
      simp only [segOf, pickOps, pickOp]
      repeat (go_big_quiet_step (fail))
      refine wpQuiet_nil ?_
      obtain ⟨w6, hw6⟩ : ∃ w6, w6 = w5.drew := ⟨_, rfl⟩
      have HP6 : Hid (PAt w w6) := by rw [hw6]; exact HP5.out.drewN 1
      have HO6 : Hid (OrgAt w6 g1 A H po) := by rw [hw6]; exact HO5.out.drew
      rw [← hw6]
      clear hw6
      refine mix_several [2, 5] (by kernel_rfl) ?_
      intro i hi
      rcases List.mem_cons.1 hi with rfl | hi
      · simp only [segOf, pickOps, pickOp]
        go_wp2_with fail
        refine (Clean_as pa cl _ (by omega) HCL.out).mono ?_
        rintro e w7 ⟨rfl, hb7⟩
        have HP7 : Hid (PAt w w7) := HP6.out.next hb7
        have ho7 : OrgAt w7 g1 A H po := HO6.out.below hb7 HO6.out.lt
        clear hb7
        go_wp2_with fail
        refine MixPost.normal ho7 ?_
        refine mix_seg [4] (by kernel_rfl) ho7 ?_
        simp only [segOf, pickOps, pickOp]
        repeat (go_big_quiet_step (fail))
        refine wpQuiet_nil ?_
        refine mix_run 5 (by kernel_rfl) ?_
        simp only [segOf, pickOps, pickOp]
        go_wp2_with fail
        obtain ⟨g2, hg2⟩ : ∃ g2, g2 = w7.heap.size := ⟨_, rfl⟩
        obtain ⟨w8, hw8⟩ : ∃ w8, w8 = w7.alloc (.cells #[.string ⟨#[]⟩, .string ⟨#[]⟩, .int .i64 0, .string ⟨#[]⟩, .string ⟨#[]⟩] 84) := ⟨_, rfl⟩
        have HP8 : Hid (PAt w w8) := by rw [hw8]; exact HP7.out.alloc _
        have ho8 : OrgAt w8 g1 A H po := by rw [hw8]; exact OrgAt.below ho7 ((Below.refl _ _).alloc (Nat.le_refl _) _) (OrgAt.lt ho7)
        have HU8 : Hid (UrlAt w8 g2 ⟨#[]⟩ ⟨#[]⟩ 0 ⟨#[]⟩ ⟨#[]⟩) := by rw [hw8, hg2]; exact UrlAt.new _ _ _ _ _ _ _
        have HW8 : Hid (Own5 w8 g2) := by rw [hw8, hg2]; exact Own5.new _ _ _
        have hgl : w.heap.size < g2 := by rw [hg2]; exact HP7.out.res.lt
        have hgn : g1 ≠ g2 := by rw [hg2]; have := OrgAt.lt ho7; omega
        rw [← hw8, ← hg2]
        clear hw8 hg2
        refine MixPost.normal ho8 ?_
        refine mix_run 6 (by kernel_rfl) ?_
        simp only [segOf, pickOps, pickOp]
        obtain ⟨b0, b1, b2, b3, b4⟩ := HU8.out
        obtain ⟨e0, e1, e2, e3, e4⟩ := HW8.out
        go_wp2_with fail
        have ho9 : OrgAt (set5 w8 g2 A H po cl qr) g1 A H po := OrgAt.set5 ho8 hgn _ _ _ _ _
        have HP9' := Lib.hid (HP8.out.set5 hgl A H po cl qr)
        have HU9' := Lib.hid (set5_url HU8.out A H po cl qr)
        refine MixPost.normal ho9 ?_
        refine mix_done (by kernel_rfl) ?_
        obtain ⟨w9, hw9⟩ : ∃ w9, w9 = set5 w8 g2 A H po cl qr := ⟨_, rfl⟩
        have HP9 : Hid (PAt w w9) := by rw [hw9]; exact HP9'.out
        have HU9 : Hid (UrlAt w9 g2 A H po cl qr) := by rw [hw9]; exact HU9'.out
        unfold set5 at hw9
        rw [← hw9]
        clear hw9 ho9 HP9' HU9' b0 b1 b2 b3 b4 e0 e1 e2 e3 e4
        obtain ⟨b0, b1, b2, b3, b4⟩ := HU9.out
        go_wp2_with fail
        refine (fits_any A H po cl qr _ (by unfold maxLen; omega) (by omega) (by omega) HP9.out.env).mono ?_
        rintro e w10 ⟨rfl, hb10⟩
        have HP10 : Hid (PAt w w10) := HP9.out.next hb10
        have HU10 : Hid (UrlAt w10 g2 A H po cl qr) := HU9.out.below hb10 HU9.out.lt
        clear hb10 b0 b1 b2 b3 b4
        obtain ⟨c0, c1, c2, c3, c4⟩ := HP10.out.res
        obtain ⟨f0, f1, f2, f3, f4⟩ := HP10.out.own
        obtain ⟨b0, b1, b2, b3, b4⟩ := HU10.out
        cases hln : decide ((urlOf A H po cl qr).len ≤ 512)
        · have HV := Lib.hid (tgtV_err (k := 4) (l := s.data.toList) (by rw [HRR.out, if_pos (by have := of_decide_eq_false hln; omega)]))
          clear hln
          go_wp2
          obtain ⟨q0, q1, q2, q3, q4⟩ := set5_url HP10.out.res ⟨#[]⟩ ⟨#[]⟩ 0 ⟨#[]⟩ ⟨#[]⟩
          unfold set5 at q0 q1 q2 q3 q4
          refine bodyPost_ret (v := .tuple #[.agg #[.string ⟨#[]⟩, .string ⟨#[]⟩, .int .i64 0, .string ⟨#[]⟩, .string ⟨#[]⟩], .int .i64 4]) (by simp [results, Tryz.results99, go_sem, q0, q1, q2, q3, q4]) rfl ?_
          exact ⟨by rw [HV.out], set5_below HP10.out.bel (Nat.le_refl _) _ _ _ _ _⟩
        · have HV : Hid (tgtV s.data.toList = .tuple #[.agg #[.string A, .string H, .int .i64 po, .string cl, .string qr], .int .i64 0]) := by
            show _ = _
            rw [tgtV, HRR.out, if_neg (by have := of_decide_eq_true hln; omega)]
            show Value.tuple #[urlVal (urlOf A H po cl qr), _] = _
            rw [urlVal_of]; rfl
          clear hln
          go_wp2
          obtain ⟨q0, q1, q2, q3, q4⟩ := set5_url HP10.out.res A H po cl qr
          unfold set5 at q0 q1 q2 q3 q4
          refine bodyPost_ret (v := .tuple #[.agg #[.string A, .string H, .int .i64 po, .string cl, .string qr], .int .i64 0]) (by simp [results, Tryz.results99, go_sem, q0, q1, q2, q3, q4]) rfl ?_
          exact ⟨by rw [HV.out], set5_below HP10.out.bel (Nat.le_refl _) _ _ _ _ _⟩
      · obtain rfl : i = 5 := by simpa using hi
        simp only [segOf, pickOps, pickOp]
        go_wp2_with fail
        obtain ⟨g2, hg2⟩ : ∃ g2, g2 = w6.heap.size := ⟨_, rfl⟩
        obtain ⟨w7, hw7⟩ : ∃ w7, w7 = w6.alloc (.cells #[.string ⟨#[]⟩, .string ⟨#[]⟩, .int .i64 0, .string ⟨#[]⟩, .string ⟨#[]⟩] 84) := ⟨_, rfl⟩
        have HP7 : Hid (PAt w w7) := by rw [hw7]; exact HP6.out.alloc _
        have ho7 : OrgAt w7 g1 A H po := by rw [hw7]; exact OrgAt.below HO6.out ((Below.refl _ _).alloc (Nat.le_refl _) _) (OrgAt.lt HO6.out)
        have HU7 : Hid (UrlAt w7 g2 ⟨#[]⟩ ⟨#[]⟩ 0 ⟨#[]⟩ ⟨#[]⟩) := by rw [hw7, hg2]; exact UrlAt.new _ _ _ _ _ _ _
        have HW7 : Hid (Own5 w7 g2) := by rw [hw7, hg2]; exact Own5.new _ _ _
        have hgl : w.heap.size < g2 := by rw [hg2]; exact HP6.out.res.lt
        have hgn : g1 ≠ g2 := by rw [hg2]; have := OrgAt.lt HO6.out; omega
        rw [← hw7, ← hg2]
        clear hw7 hg2
        refine MixPost.normal ho7 ?_
        refine mix_run 2 (by kernel_rfl) ?_
        simp only [segOf, pickOps, pickOp]
        go_wp2_with fail
        refine (Clean_as pa cl _ (by omega) HCL.out).mono ?_
        rintro e w8 ⟨rfl, hb8⟩
        have HP8 : Hid (PAt w w8) := HP7.out.next hb8
        have HU8 : Hid (UrlAt w8 g2 ⟨#[]⟩ ⟨#[]⟩ 0 ⟨#[]⟩ ⟨#[]⟩) := HU7.out.below hb8 HU7.out.lt
        have HW8 : Hid (Own5 w8 g2) := HW7.out.below hb8 HU7.out.lt
        have ho8 : OrgAt w8 g1 A H po := OrgAt.below ho7 hb8 (OrgAt.lt ho7)
        clear hb8
        go_wp2_with fail
        refine MixPost.normal ho8 ?_
        refine mix_seg [4] (by kernel_rfl) ho8 ?_
        simp only [segOf, pickOps, pickOp]
        repeat (go_big_quiet_step (fail))
        refine wpQuiet_nil ?_
        refine mix_run 6 (by kernel_rfl) ?_
        simp only [segOf, pickOps, pickOp]
        obtain ⟨b0, b1, b2, b3, b4⟩ := HU8.out
        obtain ⟨e0, e1, e2, e3, e4⟩ := HW8.out
        go_wp2_with fail
        have ho9 : OrgAt (set5 w8 g2 A H po cl qr) g1 A H po := OrgAt.set5 ho8 hgn _ _ _ _ _
        have HP9' := Lib.hid (HP8.out.set5 hgl A H po cl qr)
        have HU9' := Lib.hid (set5_url HU8.out A H po cl qr)
        refine MixPost.normal ho9 ?_
        refine mix_done (by kernel_rfl) ?_
        obtain ⟨w9, hw9⟩ : ∃ w9, w9 = set5 w8 g2 A H po cl qr := ⟨_, rfl⟩
        have HP9 : Hid (PAt w w9) := by rw [hw9]; exact HP9'.out
        have HU9 : Hid (UrlAt w9 g2 A H po cl qr) := by rw [hw9]; exact HU9'.out
        unfold set5 at hw9
        rw [← hw9]
        clear hw9 ho9 HP9' HU9' b0 b1 b2 b3 b4 e0 e1 e2 e3 e4
        obtain ⟨b0, b1, b2, b3, b4⟩ := HU9.out
        go_wp2_with fail
        refine (fits_any A H po cl qr _ (by unfold maxLen; omega) (by omega) (by omega) HP9.out.env).mono ?_
        rintro e w10 ⟨rfl, hb10⟩
        have HP10 : Hid (PAt w w10) := HP9.out.next hb10
        have HU10 : Hid (UrlAt w10 g2 A H po cl qr) := HU9.out.below hb10 HU9.out.lt
        clear hb10 b0 b1 b2 b3 b4
        obtain ⟨c0, c1, c2, c3, c4⟩ := HP10.out.res
        obtain ⟨f0, f1, f2, f3, f4⟩ := HP10.out.own
        obtain ⟨b0, b1, b2, b3, b4⟩ := HU10.out
        cases hln : decide ((urlOf A H po cl qr).len ≤ 512)
        · have HV := Lib.hid (tgtV_err (k := 4) (l := s.data.toList) (by rw [HRR.out, if_pos (by have := of_decide_eq_false hln; omega)]))
          clear hln
          go_wp2
          obtain ⟨q0, q1, q2, q3, q4⟩ := set5_url HP10.out.res ⟨#[]⟩ ⟨#[]⟩ 0 ⟨#[]⟩ ⟨#[]⟩
          unfold set5 at q0 q1 q2 q3 q4
          refine bodyPost_ret (v := .tuple #[.agg #[.string ⟨#[]⟩, .string ⟨#[]⟩, .int .i64 0, .string ⟨#[]⟩, .string ⟨#[]⟩], .int .i64 4]) (by simp [results, Tryz.results99, go_sem, q0, q1, q2, q3, q4]) rfl ?_
          exact ⟨by rw [HV.out], set5_below HP10.out.bel (Nat.le_refl _) _ _ _ _ _⟩
        · have HV : Hid (tgtV s.data.toList = .tuple #[.agg #[.string A, .string H, .int .i64 po, .string cl, .string qr], .int .i64 0]) := by
            show _ = _
            rw [tgtV, HRR.out, if_neg (by have := of_decide_eq_true hln; omega)]
            show Value.tuple #[urlVal (urlOf A H po cl qr), _] = _
            rw [urlVal_of]; rfl
          clear hln
          go_wp2
          obtain ⟨q0, q1, q2, q3, q4⟩ := set5_url HP10.out.res A H po cl qr
          unfold set5 at q0 q1 q2 q3 q4
          refine bodyPost_ret (v := .tuple #[.agg #[.string A, .string H, .int .i64 po, .string cl, .string qr], .int .i64 0]) (by simp [results, Tryz.results99, go_sem, q0, q1, q2, q3, q4]) rfl ?_
          exact ⟨by rw [HV.out], set5_below HP10.out.bel (Nat.le_refl _) _ _ _ _ _⟩
end Go.Proofs.YtlkneapidmdpbaaGreatDoor

namespace Go.Proofs.YtlkneapidmdpbaaGreatDoor
open Go.RowKit

theorem h_aw1 : tgtV (ByteArray.mk #[72, 84, 84, 80, 58, 47, 47, 104, 63, 113, 35, 102]).data.toList = .tuple #[.agg #[.string ⟨#[104, 116, 116, 112]⟩, .string ⟨#[104]⟩, .int .i64 80, .string ⟨#[47]⟩, .string ⟨#[63, 113]⟩], .int .i64 0] := by kernel_rfl
theorem h_aw2 : mk (urlOf ⟨#[104, 116, 116, 112]⟩ ⟨#[104]⟩ 80 ⟨#[47]⟩ ⟨#[63, 113]⟩).show_ = ⟨#[104, 116, 116, 112, 58, 47, 47, 104, 47, 63, 113]⟩ := by kernel_rfl
theorem h_aw3 : mk (cleanL (ByteArray.mk #[47, 97, 47, 46, 47, 98, 47, 46, 46, 47, 99, 47, 46, 46]).data.toList) = ⟨#[47, 97, 47]⟩ := by kernel_rfl
theorem h_aw4 : mk (cleanL (ByteArray.mk #[47, 46, 46, 47, 120]).data.toList) = ⟨#[47, 120]⟩ := by kernel_rfl
theorem h_aw5 : mk (cleanL (ByteArray.mk #[]).data.toList) = ⟨#[47]⟩ := by kernel_rfl

end Go.Proofs.YtlkneapidmdpbaaGreatDoor

namespace Go.Proofs.YtlkneapidmdpbaaGreatDoor
open Go.RowKit

theorem SRow.four_at (w : World) (x y z u : ByteArray) (t : TypeId) (g : Nat) (hg : g = w.heap.size) : SRow (w.alloc (.cells #[.string x, .string y, .string z, .string u] t)) (g + 1) (some ⟨g, 0, none⟩) [x, y, z, u] := by
  subst hg
  intro j v hj
  match j, hj with
  | 0, hj => simp at hj; subst hj; exact ⟨_, rfl, by simp, by simp [Addr.add]⟩
  | 1, hj => simp at hj; subst hj; exact ⟨_, rfl, by simp, by simp [Addr.add]⟩
  | 2, hj => simp at hj; subst hj; exact ⟨_, rfl, by simp, by simp [Addr.add]⟩
  | 3, hj => simp at hj; subst hj; exact ⟨_, rfl, by simp, by simp [Addr.add]⟩
theorem urlOf_mk (u : Url) : urlOf (mk u.sc) (mk u.h) u.p (mk u.pa) (mk u.q) = u := by
  obtain ⟨a, b, c, d, e⟩ := u
  simp only [urlOf, mk_data]
theorem tgt_code (l : List UInt8) : (tgtL l).1.ok = ((tgtL l).2 == 0) := by
  rcases tgt_cases l with e | e | ⟨h1, h2⟩
  · rw [e]; exact zero_ok
  · rw [e]; exact zero_ok
  · rw [h1, h2]; rfl
theorem tgt_bound (l : List UInt8) : (tgtL l).1.h.length ≤ 512 ∧ (tgtL l).1.pa.length ≤ 512 ∧ (tgtL l).1.q.length ≤ 512 := by
  rcases tgt_cases l with e | e | ⟨h1, h2⟩
  · rw [e]; exact ⟨by decide, by decide, by decide⟩
  · rw [e]; exact ⟨by decide, by decide, by decide⟩
  · obtain ⟨a, b, c, d⟩ := ok_parts h2
    have := host_len (check_parts a).2.1
    unfold Url.len at d
    omega
/-- what is read of a text, as one value: its five parts, its code -/
theorem tgt_view (l : List UInt8) : ∃ (A B : ByteArray) (n : Int) (C D : ByteArray) (k : Int), tgtV l = .tuple #[.agg #[.string A, .string B, .int .i64 n, .string C, .string D], .int .i64 k] ∧
    (tgtL l) = (urlOf A B n C D, k) ∧ (urlOf A B n C D).ok = (k == 0) ∧ B.size ≤ 512 ∧ C.size ≤ 512 ∧ D.size ≤ 512 := by
  obtain ⟨h1, h2, h3⟩ := tgt_bound l
  refine ⟨mk (tgtL l).1.sc, mk (tgtL l).1.h, (tgtL l).1.p, mk (tgtL l).1.pa, mk (tgtL l).1.q, (tgtL l).2, rfl, ?_, ?_, by rw [mk_size]; exact h1, by rw [mk_size]; exact h2, by rw [mk_size]; exact h3⟩
  · rw [urlOf_mk]
  · rw [urlOf_mk, tgt_code]
theorem tgtV_of {l : List UInt8} {A B C D : ByteArray} {n k : Int} (h : tgtL l = (urlOf A B n C D, k)) : tgtV l = .tuple #[.agg #[.string A, .string B, .int .i64 n, .string C, .string D], .int .i64 k] := by
  rw [tgtV, h]
  show Value.tuple #[urlVal (urlOf A B n C D), _] = _
  rw [urlVal_of]; rfl
end Go.Proofs.YtlkneapidmdpbaaGreatDoor
