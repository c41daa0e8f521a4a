/-
  Contracts of origin's functions of one scheme, one byte, one label, one host, one port, over this seat's program: each returns what the plain mathematics says. Conditions: the text's size is such as any text's.
-/
import Derived.Test.YtfamllkmmiajoaaDoorGEnv
import Derived.Test.YtfamllkmmiajoaaDoorGMath2
import Derived.Test.YtfamllkmmiajoaaDoorOSplit
namespace Go.Proofs.YtfamllkmmiajoaaDoor
open Go.RowKit

set_option maxHeartbeats 400000 in
theorem Default_any (s : ByteArray) (w : World) :
    Calls Tryd.prog 47 #[.string s] w fun e w' => e = .returned (.int .i64 (defL s.data.toList)) ∧ w = w' := by
  go_enter Tryd.func47, Tryd.ntmps47
  go_wp2
  all_goals
    go_ret
    exact ⟨ret_int (by simp_all [defL, ByteArray.toList_eq]), rfl⟩

set_option maxHeartbeats 400000 in
theorem refDefault_any (s : ByteArray) (w : World) :
    Calls Tryd.prog 54 #[.string s] w fun e w' => e = .returned (.int .i64 (defL s.data.toList)) ∧ w = w' := by
  go_enter Tryd.func54, Tryd.ntmps54
  go_wp2
  all_goals
    go_ret
    exact ⟨ret_int (by simp_all [defL, ByteArray.toList_eq]), rfl⟩

set_option maxHeartbeats 400000 in
theorem isHostByte_any (c : Int) (w : World) :
    Calls Tryd.prog 84 #[.int .u8 c] w fun e w' => e = .returned (.bool (hostB c)) ∧ w = w' := by
  go_enter Tryd.func84, Tryd.ntmps84
  go_wp2
  all_goals
    go_ret
    exact ⟨ret_bool (by rw [Bool.eq_iff_iff]; simp [hostB, Lk.smB, Lk.digB]; omega), rfl⟩

theorem label_eq (s : ByteArray) (h0 : 0 < s.size) (h1 : s.size - 1 < s.size) : labelL s.data.toList =
    (decide (s.size ≤ 63) && s.data.toList.all (fun b => hostB b.toNat) && ((s[0].toNat : Int) != 45) && ((s[s.size - 1].toNat : Int) != 45)) := by
  have hl : s.data.toList.length = s.size := by simp
  have e0 : s.data.toList.head? = some s[0] := by
    rw [List.head?_eq_getElem?, List.getElem?_eq_getElem (by omega)]; rfl
  have e1 : s.data.toList.getLast? = some s[s.size - 1] := by
    rw [List.getLast?_eq_getElem?, hl, List.getElem?_eq_getElem (by omega)]; rfl
  have b : ∀ c : UInt8, ((some c : Option UInt8) != some 45) = ((c.toNat : Int) != 45) := by
    intro c
    rw [Bool.eq_iff_iff, bne_iff_ne, bne_iff_ne]
    constructor
    · intro h e; exact h (congrArg some (UInt8.toNat_inj.1 (by simpa using (by omega : c.toNat = 45))))
    · intro h e; injection e with e; subst e; exact h rfl
  unfold labelL
  rw [e0, e1, b, b, hl]
  have : decide (1 ≤ s.size) = true := by simp; omega
  rw [this, Bool.true_and]

set_option maxHeartbeats 1000000 in
theorem isLabel_any (s : ByteArray) (w : World) (hs : s.size ≤ maxLen) :
    Calls Tryd.prog 75 #[.string s] w fun e w' => e = .returned (.bool (labelL s.data.toList)) ∧ w = w' := by
  unfold maxLen at hs
  by_cases h0 : s.size = 0
  · have he : s.toList = [] := by rw [ByteArray.toList_eq]; exact List.length_eq_zero_iff.1 (by simpa using h0)
    have HE : Hid (labelL s.data.toList = false) := by
      show labelL s.data.toList = false
      rw [ByteArray.toList_eq] at he; rw [he]; rfl
    clear h0
    go_enter Tryd.func75, Tryd.ntmps75
    go_wp2
    go_ret
    exact ⟨ret_bool HE.out.symm, rfl⟩
  have he : s.toList.isEmpty = false := by rw [ByteArray.toList_eq]; cases h : s.data.toList.isEmpty; rfl; (exact absurd (by have := congrArg List.length (List.isEmpty_iff.1 h); simpa using this) h0)
  have h1 : 0 < s.size := by omega
  have h2 : s.size - 1 < s.size := by omega
  have eb : ((s.size : Int) - 1).toNat = s.size - 1 := by omega
  have HL := Lib.hid (label_eq s h1 h2)
  by_cases h63 : 63 < s.size
  · go_enter Tryd.func75, Tryd.ntmps75
    go_wp2
    go_ret
    exact ⟨ret_bool (by rw [HL.out]; have : decide (s.size ≤ 63) = false := by simp; omega
                        rw [this]; simp), rfl⟩
  go_enter Tryd.func75, Tryd.ntmps75
  go_wp2
  go_loop [3, 13] (fun _ i => ∃ k : Nat, k ≤ s.size ∧ i = .int .i64 k ∧ (s.data.toList.take k).all (fun b => hostB b.toNat) = true) (fun _ i => s.size - (intOf i).toNat)
  case atStart => exact ⟨0, Nat.zero_le _, rfl, rfl⟩
  case round =>
    obtain ⟨k, hk, rfl, ha⟩ := hrel
    have HA := Lib.hid ha
    clear ha
    by_cases hlt : k < s.size
    · cases hc : hostB s[k].toNat
      · have HC := Lib.hid hc
        go_wp2_with (go_at_call 84; refine (isHostByte_any _ _).mono ?_; rintro e w' ⟨rfl, rfl⟩)
        go_ret
        exact ⟨ret_bool (by rw [HL.out, Lk.all_no hlt HC.out]; simp), rfl⟩
      · have HC := Lib.hid hc
        go_wp2_with (go_at_call 84; refine (isHostByte_any _ _).mono ?_; rintro e w' ⟨rfl, rfl⟩)
        go_round
        case rel => exact ⟨k + 1, by omega, by go_num, Lk.all_step hlt HA.out HC.out⟩
        case measure => simp [intOf]; omega
    · have HR : Hid (labelL s.data.toList = (((s[0].toNat : Int) != 45) && ((s[s.size - 1].toNat : Int) != 45))) := by
        show _ = _
        have := HA.out
        rw [Lk.take_all s k (by omega)] at this
        have h3 : decide (s.size ≤ 63) = true := by simp; omega
        rw [HL.out, this, h3]; rfl
      cases hc0 : ((s[0].toNat : Int) != 45)
      · go_wp2
        go_ret
        exact ⟨ret_bool (by rw [HR.out, hc0]; rfl), rfl⟩
      · go_wp2
        go_ret
        exact ⟨ret_bool (by rw [HR.out, hc0]; rfl), rfl⟩

/-- one round's cut at a point -/
theorem CutDot_any (r : ByteArray) (w : World) (hs : r.size ≤ maxLen) : ∃ (p q : ByteArray) (f : Bool),
    (Calls Tryd.prog 26 #[.string r, .string ⟨#[46]⟩] w fun e w' => e = .returned (.tuple #[.string p, .string q, .bool f]) ∧ ∃ n, w' = w.drewN n) ∧
    p.size ≤ r.size ∧ q.size ≤ r.size ∧ (f = true → q.size < r.size) ∧
    (parts 46 r.data.toList).all labelL = (labelL p.data.toList && (if f then (parts 46 q.data.toList).all labelL else true)) := by
  rcases at_cases 46 r.data.toList with h | ⟨a, b, e, h⟩
  · exact ⟨r, ⟨#[]⟩, false, Cut_no r 46 w hs h, Nat.le_refl _, Nat.zero_le _, by simp, by rw [parts_none 46 _ h]; simp⟩
  · have hl : r.size = a.length + (b.length + 1) := by have := congrArg List.length e; simpa using this
    have ha : (⟨a.toArray⟩ : ByteArray).size = a.length := by show a.toArray.size = _; simp
    have hb : (⟨b.toArray⟩ : ByteArray).size = b.length := by show b.toArray.size = _; simp
    refine ⟨⟨a.toArray⟩, ⟨b.toArray⟩, true, Cut_yes r a b 46 w hs e h, by omega, by omega, fun _ => by omega, ?_⟩
    rw [e, parts_at 46 a b h]; rfl

set_option maxHeartbeats 1000000 in
theorem isHost_any (s : ByteArray) (w : World) (hs : s.size ≤ maxLen) :
    Calls Tryd.prog 60 #[.string s] w fun e w' => e = .returned (.bool (hostL s.data.toList)) ∧ ∃ n, w' = w.drewN n := by
  unfold maxLen at hs
  have hl : s.data.toList.length = s.size := by simp
  by_cases h253 : 253 < s.size
  · have HF : Hid (hostL s.data.toList = false) := by
      show _ = _
      have : decide (s.data.toList.length ≤ 253) = false := by rw [hl]; simp; omega
      rw [hostL, this]; rfl
    go_enter Tryd.func60, Tryd.ntmps60
    go_wp2
    go_ret
    exact ⟨ret_bool HF.out.symm, 0, rfl⟩
  have HT : Hid (hostL s.data.toList = (parts 46 s.data.toList).all labelL) := by
    show _ = _
    have : decide (s.data.toList.length ≤ 253) = true := by rw [hl]; simp; omega
    rw [hostL, this]; rfl
  clear hl
  go_enter Tryd.func60, Tryd.ntmps60
  go_wp2
  go_loopw [0, 3, 4] (fun s0 m _ wr => ∃ (r : ByteArray) (mo : Bool) (n : Nat), s0 = .string r ∧ m = .bool mo ∧ r.size ≤ s.size ∧ wr = w.drewN n ∧ (parts 46 s.data.toList).all labelL = (if mo then (parts 46 r.data.toList).all labelL else true))
    (fun s0 m _ _ => boolN m * (strSize s0 + 1))
  case atStart => exact ⟨s, true, 0, rfl, rfl, Nat.le_refl _, rfl, rfl⟩
  case round =>
    obtain ⟨r, mo, n, rfl, rfl, hr, hw, hsp⟩ := hrel
    have HS := Lib.hid hsp
    have HW := Lib.hid hw
    clear hsp hw
    cases mo
    · go_wp2
      go_ret
      exact ⟨ret_bool (by rw [HT.out, HS.out]; rfl), n, HW.out⟩
    · obtain ⟨p, q, f, hcut, hp, hq, hqr, hsplit⟩ := CutDot_any r wr (by unfold maxLen; omega)
      have HC := Lib.hid hcut
      have HQ := Lib.hid hqr
      have HP := Lib.hid hsplit
      clear hcut hqr hsplit
      cases hb : labelL p.data.toList
      · have HB := Lib.hid hb
        clear hb
        go_wp2_with fail
        refine HC.out.mono ?_
        rintro e w' ⟨rfl, n2, rfl⟩
        go_wp2_with fail
        refine (isLabel_any p _ (by unfold maxLen; omega)).mono ?_
        rintro e w' ⟨rfl, rfl⟩
        rw [HB.out]
        go_wp2
        go_ret
        exact ⟨ret_bool (by rw [HT.out, HS.out, if_pos trivial, HP.out, HB.out]; rfl), _, by rw [HW.out, World.drewN_drewN]⟩
      · have HB := Lib.hid hb
        clear hb
        go_wp2_with fail
        refine HC.out.mono ?_
        rintro e w' ⟨rfl, n2, rfl⟩
        go_wp2_with fail
        refine (isLabel_any p _ (by unfold maxLen; omega)).mono ?_
        rintro e w' ⟨rfl, rfl⟩
        rw [HB.out]
        go_wp2
        go_roundw
        case rel => exact ⟨q, f, _, rfl, rfl, by omega, by rw [HW.out, World.drewN_drewN], by rw [HS.out, if_pos trivial, HP.out, HB.out, Bool.true_and]⟩
        case measure =>
          cases f
          · simp [boolN]
          · simp [boolN, strSize]; exact HQ.out rfl

set_option maxHeartbeats 1000000 in
theorem portOf_any (s : ByteArray) (w : World) (hs : s.size ≤ maxLen) :
    Calls Tryd.prog 48 #[.string s] w fun e w' => e = .returned (.int .i64 (portL s.data.toList)) ∧ w = w' := by
  have hs0 := hs
  unfold maxLen at hs
  have hl : s.data.toList.length = s.size := by simp
  by_cases h5 : 5 < s.size
  · have HF : Hid (portL s.data.toList = 0) := by show _ = _; rw [portL, if_pos (.inl (by rw [hl]; exact h5))]
    go_enter Tryd.func48, Tryd.ntmps48
    go_wp2
    go_ret
    exact ⟨ret_int (by rw [HF.out]; rfl), rfl⟩
  have hpx : Lib.hasPrefix s.data.toList [48] = decide (s.data.toList.head? = some 48) := by
    cases h : s.data.toList with
    | nil => rfl
    | cons b r =>
      have e : ((48 : UInt8) == b) = decide (b = 48) := by rw [Bool.eq_iff_iff, beq_iff_eq, decide_eq_true_eq]; exact eq_comm
      simp only [Lib.hasPrefix, List.isPrefixOf, List.head?_cons, Option.some.injEq, e, Bool.and_true]
  by_cases h48 : s.data.toList.head? = some 48
  · have HF : Hid (portL s.data.toList = 0) := by show _ = _; rw [portL, if_pos (.inr h48)]
    have HP : Hid (Lib.hasPrefix s.data.toList [48] = true) := by show _ = _; rw [hpx, h48]; rfl
    clear h48 hpx hl
    go_enter Tryd.func48, Tryd.ntmps48
    go_wp2_with (go_at_call 64; refine (Tryd.strings_HasPrefix _ _ _).mono ?_; rintro e w' ⟨rfl, rfl⟩; rw [show Lib.hasPrefix s.data.toList (ByteArray.mk #[48]).data.toList = true from HP.out])
    go_ret
    exact ⟨ret_int (by rw [HF.out]; rfl), rfl⟩
  have HF : Hid (portL s.data.toList = if Lk.digL s.data.toList then Lk.valL s.data.toList else 0) := by
    show _ = _; rw [portL, if_neg (by rintro (h | h); omega; exact h48 h)]
  have HP : Hid (Lib.hasPrefix s.data.toList [48] = false) := by show _ = _; rw [hpx]; simpa using h48
  clear h48 hpx
  cases hd : Lk.digL s.data.toList
  · have HD := Lib.hid (digRes_f hd)
    have HD2 := Lib.hid hd
    clear hd hl
    go_enter Tryd.func48, Tryd.ntmps48
    go_wp2_with (go_at_call 64; refine (Tryd.strings_HasPrefix _ _ _).mono ?_; rintro e w' ⟨rfl, rfl⟩; rw [show Lib.hasPrefix s.data.toList (ByteArray.mk #[48]).data.toList = false from HP.out])
    refine (Digits_any s _ hs0).mono ?_
    rintro e w' ⟨rfl, rfl⟩
    rw [HD.out]
    go_wp2
    go_ret
    exact ⟨ret_int (by rw [HF.out, HD2.out]; rfl), rfl⟩
  · have hv := val_lt _ hd
    have hp : (10 : Nat) ^ s.data.toList.length ≤ 10 ^ 5 := Nat.pow_le_pow_right (by omega) (by omega)
    have hsat : Lk.sat (Lk.valL s.data.toList) = Lk.valL s.data.toList := by unfold Lk.sat Lk.M64; omega
    have HD : Hid (digRes s.data.toList = .tuple #[.int .u64 (Lk.valL s.data.toList : Int), .bool true]) := by show _ = _; rw [digRes_t hd, hsat]
    have HD2 := Lib.hid hd
    have hv2 : Lk.valL s.data.toList < 1000000 := by omega
    clear hd hl hp hsat hv
    have HV : Hid (portL s.data.toList = Lk.valL s.data.toList) := by show _ = _; rw [HF.out, HD2.out]; rfl
    generalize Lk.valL s.data.toList = v at *
    go_enter Tryd.func48, Tryd.ntmps48
    go_wp2_with (go_at_call 64; refine (Tryd.strings_HasPrefix _ _ _).mono ?_; rintro e w' ⟨rfl, rfl⟩; rw [show Lib.hasPrefix s.data.toList (ByteArray.mk #[48]).data.toList = false from HP.out])
    refine (Digits_any s _ hs0).mono ?_
    rintro e w' ⟨rfl, rfl⟩
    rw [HD.out]
    go_wp2
    go_ret
    exact ⟨ret_int (by rw [HV.out]), rfl⟩
end Go.Proofs.YtfamllkmmiajoaaDoor
