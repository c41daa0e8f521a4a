/-
  Contracts of origin over this seat's program. Conditions: those of each statement.
-/
import Derived.Test.YtlkneapidmdpbaaGreatDoorLOct2
import Derived.Test.YtlkneapidmdpbaaGreatDoorLBase
import Derived.Lib.LaidTab
import Derived.KernelRfl
namespace Go.Proofs.YtlkneapidmdpbaaGreatDoor
open Go.RowKit

/-- the search's limit is some number, the table of powers is what it is laid as -/
structure Env (w : World) : Prop where
  len : ∃ m, w.cell? ⟨2, 0, none⟩ = some (.int .i64 m)
  tab : Lib.TabIs Tryz.prog w "internal/strconv.uint64pow10" .u64 Lib.pow10Tab
theorem tab_below {P : Program} {w w' : World} {n : String} {k : IntKind} {zs : List Int} (h : Lib.TabIs P w n k zs) (hb : Below w.heap.size w w') : Lib.TabIs P w' n k zs := by
  unfold Lib.TabIs World.var? at *
  cases hg : P.globalNamed n with
  | none => simp [hg] at h
  | some g =>
    simp only [hg, Option.bind_some] at h ⊢
    have hlt : g < w.heap.size := by
      rcases Nat.lt_or_ge g w.heap.size with h' | h'
      · exact h'
      · rw [Array.getElem?_eq_none h'] at h; simp at h
    rw [hb.block g hlt]
    exact h
theorem Env.below {w w' : World} (h : Env w) (hb : Below w.heap.size w w') : Env w' := by
  obtain ⟨m, hm⟩ := h.len
  exact ⟨⟨m, (hb.cell (block_of_cell hm)).trans hm⟩, tab_below h.tab hb⟩
theorem Env.drewN {w : World} (h : Env w) (n : Nat) : Env (w.drewN n) := h.below ⟨rfl, rfl, rfl, Nat.le_refl _, fun _ _ => rfl⟩
theorem Env.drew {w : World} (h : Env w) : Env w.drew := h.below ⟨rfl, rfl, rfl, Nat.le_refl _, fun _ _ => rfl⟩
theorem Env.alloc {w : World} (h : Env w) (o : Obj) : Env (w.alloc o) := h.below ((Below.refl _ _).alloc (Nat.le_refl _) o)
end Go.Proofs.YtlkneapidmdpbaaGreatDoor

namespace Go.Proofs.YtlkneapidmdpbaaGreatDoor
open Go.RowKit

set_option maxHeartbeats 400000 in
theorem Default_any (s : ByteArray) (w : World) :
    Calls Tryz.prog 108 #[.string s] w fun e w' => e = .returned (.int .i64 (defL s.data.toList)) ∧ w = w' := by
  go_enter Tryz.func108, Tryz.ntmps108
  go_wp2
  all_goals
    go_ret
    exact ⟨ret_int (by simp_all [defL, ByteArray.toList_eq]), rfl⟩

set_option maxHeartbeats 400000 in
theorem refDefault_any (s : ByteArray) (w : World) :
    Calls Tryz.prog 133 #[.string s] w fun e w' => e = .returned (.int .i64 (defL s.data.toList)) ∧ w = w' := by
  go_enter Tryz.func133, Tryz.ntmps133
  go_wp2
  all_goals
    go_ret
    exact ⟨ret_int (by simp_all [defL, ByteArray.toList_eq]), rfl⟩

set_option maxHeartbeats 400000 in
theorem isHostByte_any (c : Int) (w : World) :
    Calls Tryz.prog 224 #[.int .u8 c] w fun e w' => e = .returned (.bool (hostB c)) ∧ w = w' := by
  go_enter Tryz.func224, Tryz.ntmps224
  go_wp2
  all_goals
    go_ret
    exact ⟨ret_bool (by rw [Bool.eq_iff_iff]; simp [hostB, Lk.smB, Lk.digB]; omega), rfl⟩

theorem label_eq (s : ByteArray) (h0 : 0 < s.size) (h1 : s.size - 1 < s.size) : labelL s.data.toList =
    (decide (s.size ≤ 63) && s.data.toList.all (fun b => hostB b.toNat) && ((s[0].toNat : Int) != 45) && ((s[s.size - 1].toNat : Int) != 45)) := by
  have hl : s.data.toList.length = s.size := by simp
  have e0 : s.data.toList.head? = some s[0] := by
    rw [List.head?_eq_getElem?, List.getElem?_eq_getElem (by omega)]; rfl
  have e1 : s.data.toList.getLast? = some s[s.size - 1] := by
    rw [List.getLast?_eq_getElem?, hl, List.getElem?_eq_getElem (by omega)]; rfl
  have b : ∀ c : UInt8, ((some c : Option UInt8) != some 45) = ((c.toNat : Int) != 45) := by
    intro c
    rw [Bool.eq_iff_iff, bne_iff_ne, bne_iff_ne]
    constructor
    · intro h e; exact h (congrArg some (UInt8.toNat_inj.1 (by simpa using (by omega : c.toNat = 45))))
    · intro h e; injection e with e; subst e; exact h rfl
  unfold labelL
  rw [e0, e1, b, b, hl]
  have : decide (1 ≤ s.size) = true := by simp; omega
  rw [this, Bool.true_and]

set_option maxHeartbeats 1000000 in
theorem isLabel_any (s : ByteArray) (w : World) (hs : s.size ≤ maxLen) :
    Calls Tryz.prog 195 #[.string s] w fun e w' => e = .returned (.bool (labelL s.data.toList)) ∧ w = w' := by
  unfold maxLen at hs
  by_cases h0 : s.size = 0
  · have he : s.toList = [] := by rw [ByteArray.toList_eq]; exact List.length_eq_zero_iff.1 (by simpa using h0)
    have HE : Hid (labelL s.data.toList = false) := by
      show labelL s.data.toList = false
      rw [ByteArray.toList_eq] at he; rw [he]; rfl
    clear h0
    go_enter Tryz.func195, Tryz.ntmps195
    go_wp2
    go_ret
    exact ⟨ret_bool HE.out.symm, rfl⟩
  have he : s.toList.isEmpty = false := by rw [ByteArray.toList_eq]; cases h : s.data.toList.isEmpty; rfl; (exact absurd (by have := congrArg List.length (List.isEmpty_iff.1 h); simpa using this) h0)
  have h1 : 0 < s.size := by omega
  have h2 : s.size - 1 < s.size := by omega
  have eb : ((s.size : Int) - 1).toNat = s.size - 1 := by omega
  have HL := Lib.hid (label_eq s h1 h2)
  by_cases h63 : 63 < s.size
  · go_enter Tryz.func195, Tryz.ntmps195
    go_wp2
    go_ret
    exact ⟨ret_bool (by rw [HL.out]; have : decide (s.size ≤ 63) = false := by simp; omega
                        rw [this]; simp), rfl⟩
  go_enter Tryz.func195, Tryz.ntmps195
  go_wp2
  go_loop [3, 13] (fun _ i => ∃ k : Nat, k ≤ s.size ∧ i = .int .i64 k ∧ (s.data.toList.take k).all (fun b => hostB b.toNat) = true) (fun _ i => s.size - (intOf i).toNat)
  case atStart => exact ⟨0, Nat.zero_le _, rfl, rfl⟩
  case round =>
    obtain ⟨k, hk, rfl, ha⟩ := hrel
    have HA := Lib.hid ha
    clear ha
    by_cases hlt : k < s.size
    · cases hc : hostB s[k].toNat
      · have HC := Lib.hid hc
        go_wp2_with (go_at_call 224; refine (isHostByte_any _ _).mono ?_; rintro e w' ⟨rfl, rfl⟩)
        go_ret
        exact ⟨ret_bool (by rw [HL.out, Lk.all_no hlt HC.out]; simp), rfl⟩
      · have HC := Lib.hid hc
        go_wp2_with (go_at_call 224; refine (isHostByte_any _ _).mono ?_; rintro e w' ⟨rfl, rfl⟩)
        go_round
        case rel => exact ⟨k + 1, by omega, by go_num, Lk.all_step hlt HA.out HC.out⟩
        case measure => simp [intOf]; omega
    · have HR : Hid (labelL s.data.toList = (((s[0].toNat : Int) != 45) && ((s[s.size - 1].toNat : Int) != 45))) := by
        show _ = _
        have := HA.out
        rw [Lk.take_all s k (by omega)] at this
        have h3 : decide (s.size ≤ 63) = true := by simp; omega
        rw [HL.out, this, h3]; rfl
      cases hc0 : ((s[0].toNat : Int) != 45)
      · go_wp2
        go_ret
        exact ⟨ret_bool (by rw [HR.out, hc0]; rfl), rfl⟩
      · go_wp2
        go_ret
        exact ⟨ret_bool (by rw [HR.out, hc0]; rfl), rfl⟩

/-- one round's cut at a point -/
theorem CutDot_any (r : ByteArray) (w : World) (hs : r.size ≤ maxLen) : ∃ (p q : ByteArray) (f : Bool),
    (Calls Tryz.prog 144 #[.string r, .string ⟨#[46]⟩] w fun e w' => e = .returned (.tuple #[.string p, .string q, .bool f]) ∧ ∃ n, w' = w.drewN n) ∧
    p.size ≤ r.size ∧ q.size ≤ r.size ∧ (f = true → q.size < r.size) ∧
    (parts 46 r.data.toList).all labelL = (labelL p.data.toList && (if f then (parts 46 q.data.toList).all labelL else true)) := by
  rcases at_cases 46 r.data.toList with h | ⟨a, b, e, h⟩
  · exact ⟨r, ⟨#[]⟩, false, Cut_no r 46 w hs h, Nat.le_refl _, Nat.zero_le _, by simp, by rw [parts_none 46 _ h]; simp⟩
  · have hl : r.size = a.length + (b.length + 1) := by have := congrArg List.length e; simpa using this
    have ha : (⟨a.toArray⟩ : ByteArray).size = a.length := by show a.toArray.size = _; simp
    have hb : (⟨b.toArray⟩ : ByteArray).size = b.length := by show b.toArray.size = _; simp
    refine ⟨⟨a.toArray⟩, ⟨b.toArray⟩, true, Cut_yes r a b 46 w hs e h, by omega, by omega, fun _ => by omega, ?_⟩
    rw [e, parts_at 46 a b h]; rfl

set_option maxHeartbeats 1000000 in
theorem isHost_any (s : ByteArray) (w : World) (hs : s.size ≤ maxLen) :
    Calls Tryz.prog 159 #[.string s] w fun e w' => e = .returned (.bool (hostL s.data.toList)) ∧ ∃ n, w' = w.drewN n := by
  unfold maxLen at hs
  have hl : s.data.toList.length = s.size := by simp
  by_cases h253 : 253 < s.size
  · have HF : Hid (hostL s.data.toList = false) := by
      show _ = _
      have : decide (s.data.toList.length ≤ 253) = false := by rw [hl]; simp; omega
      rw [hostL, this]; rfl
    go_enter Tryz.func159, Tryz.ntmps159
    go_wp2
    go_ret
    exact ⟨ret_bool HF.out.symm, 0, rfl⟩
  have HT : Hid (hostL s.data.toList = (parts 46 s.data.toList).all labelL) := by
    show _ = _
    have : decide (s.data.toList.length ≤ 253) = true := by rw [hl]; simp; omega
    rw [hostL, this]; rfl
  clear hl
  go_enter Tryz.func159, Tryz.ntmps159
  go_wp2
  go_loopw [0, 3, 4] (fun s0 m _ wr => ∃ (r : ByteArray) (mo : Bool) (n : Nat), s0 = .string r ∧ m = .bool mo ∧ r.size ≤ s.size ∧ wr = w.drewN n ∧ (parts 46 s.data.toList).all labelL = (if mo then (parts 46 r.data.toList).all labelL else true))
    (fun s0 m _ _ => boolN m * (strSize s0 + 1))
  case atStart => exact ⟨s, true, 0, rfl, rfl, Nat.le_refl _, rfl, rfl⟩
  case round =>
    obtain ⟨r, mo, n, rfl, rfl, hr, hw, hsp⟩ := hrel
    have HS := Lib.hid hsp
    have HW := Lib.hid hw
    clear hsp hw
    cases mo
    · go_wp2
      go_ret
      exact ⟨ret_bool (by rw [HT.out, HS.out]; rfl), n, HW.out⟩
    · obtain ⟨p, q, f, hcut, hp, hq, hqr, hsplit⟩ := CutDot_any r wr (by unfold maxLen; omega)
      have HC := Lib.hid hcut
      have HQ := Lib.hid hqr
      have HP := Lib.hid hsplit
      clear hcut hqr hsplit
      cases hb : labelL p.data.toList
      · have HB := Lib.hid hb
        clear hb
        go_wp2_with fail
        refine HC.out.mono ?_
        rintro e w' ⟨rfl, n2, rfl⟩
        go_wp2_with fail
        refine (isLabel_any p _ (by unfold maxLen; omega)).mono ?_
        rintro e w' ⟨rfl, rfl⟩
        rw [HB.out]
        go_wp2
        go_ret
        exact ⟨ret_bool (by rw [HT.out, HS.out, if_pos trivial, HP.out, HB.out]; rfl), _, by rw [HW.out, World.drewN_drewN]⟩
      · have HB := Lib.hid hb
        clear hb
        go_wp2_with fail
        refine HC.out.mono ?_
        rintro e w' ⟨rfl, n2, rfl⟩
        go_wp2_with fail
        refine (isLabel_any p _ (by unfold maxLen; omega)).mono ?_
        rintro e w' ⟨rfl, rfl⟩
        rw [HB.out]
        go_wp2
        go_roundw
        case rel => exact ⟨q, f, _, rfl, rfl, by omega, by rw [HW.out, World.drewN_drewN], by rw [HS.out, if_pos trivial, HP.out, HB.out, Bool.true_and]⟩
        case measure =>
          cases f
          · simp [boolN]
          · simp [boolN, strSize]; exact HQ.out rfl

set_option maxHeartbeats 1000000 in
theorem portOf_any (s : ByteArray) (w : World) (hs : s.size ≤ maxLen) :
    Calls Tryz.prog 150 #[.string s] w fun e w' => e = .returned (.int .i64 (portL s.data.toList)) ∧ w = w' := by
  have hs0 := hs
  unfold maxLen at hs
  have hl : s.data.toList.length = s.size := by simp
  by_cases h5 : 5 < s.size
  · have HF : Hid (portL s.data.toList = 0) := by show _ = _; rw [portL, if_pos (.inl (by rw [hl]; exact h5))]
    go_enter Tryz.func150, Tryz.ntmps150
    go_wp2
    go_ret
    exact ⟨ret_int (by rw [HF.out]; rfl), rfl⟩
  have hpx : Lib.hasPrefix s.data.toList [48] = decide (s.data.toList.head? = some 48) := by
    cases h : s.data.toList with
    | nil => rfl
    | cons b r =>
      have e : ((48 : UInt8) == b) = decide (b = 48) := by rw [Bool.eq_iff_iff, beq_iff_eq, decide_eq_true_eq]; exact eq_comm
      simp only [Lib.hasPrefix, List.isPrefixOf, List.head?_cons, Option.some.injEq, e, Bool.and_true]
  by_cases h48 : s.data.toList.head? = some 48
  · have HF : Hid (portL s.data.toList = 0) := by show _ = _; rw [portL, if_pos (.inr h48)]
    have HP : Hid (Lib.hasPrefix s.data.toList [48] = true) := by show _ = _; rw [hpx, h48]; rfl
    clear h48 hpx hl
    go_enter Tryz.func150, Tryz.ntmps150
    go_wp2_with (go_at_call 184; refine (Tryz.strings_HasPrefix _ _ _).mono ?_; rintro e w' ⟨rfl, rfl⟩; rw [show Lib.hasPrefix s.data.toList (ByteArray.mk #[48]).data.toList = true from HP.out])
    go_ret
    exact ⟨ret_int (by rw [HF.out]; rfl), rfl⟩
  have HF : Hid (portL s.data.toList = if Lk.digL s.data.toList then Lk.valL s.data.toList else 0) := by
    show _ = _; rw [portL, if_neg (by rintro (h | h); omega; exact h48 h)]
  have HP : Hid (Lib.hasPrefix s.data.toList [48] = false) := by show _ = _; rw [hpx]; simpa using h48
  clear h48 hpx
  cases hd : Lk.digL s.data.toList
  · have HD := Lib.hid (digRes_f hd)
    have HD2 := Lib.hid hd
    clear hd hl
    go_enter Tryz.func150, Tryz.ntmps150
    go_wp2_with (go_at_call 184; refine (Tryz.strings_HasPrefix _ _ _).mono ?_; rintro e w' ⟨rfl, rfl⟩; rw [show Lib.hasPrefix s.data.toList (ByteArray.mk #[48]).data.toList = false from HP.out])
    refine (Digits_any s _ hs0).mono ?_
    rintro e w' ⟨rfl, rfl⟩
    rw [HD.out]
    go_wp2
    go_ret
    exact ⟨ret_int (by rw [HF.out, HD2.out]; rfl), rfl⟩
  · have hv := val_lt _ hd
    have hp : (10 : Nat) ^ s.data.toList.length ≤ 10 ^ 5 := Nat.pow_le_pow_right (by omega) (by omega)
    have hsat : Lk.sat (Lk.valL s.data.toList) = Lk.valL s.data.toList := by unfold Lk.sat Lk.M64; omega
    have HD : Hid (digRes s.data.toList = .tuple #[.int .u64 (Lk.valL s.data.toList : Int), .bool true]) := by show _ = _; rw [digRes_t hd, hsat]
    have HD2 := Lib.hid hd
    have hv2 : Lk.valL s.data.toList < 1000000 := by omega
    clear hd hl hp hsat hv
    have HV : Hid (portL s.data.toList = Lk.valL s.data.toList) := by show _ = _; rw [HF.out, HD2.out]; rfl
    generalize Lk.valL s.data.toList = v at *
    go_enter Tryz.func150, Tryz.ntmps150
    go_wp2_with (go_at_call 184; refine (Tryz.strings_HasPrefix _ _ _).mono ?_; rintro e w' ⟨rfl, rfl⟩; rw [show Lib.hasPrefix s.data.toList (ByteArray.mk #[48]).data.toList = false from HP.out])
    refine (Digits_any s _ hs0).mono ?_
    rintro e w' ⟨rfl, rfl⟩
    rw [HD.out]
    go_wp2
    go_ret
    exact ⟨ret_int (by rw [HV.out]), rfl⟩
end Go.Proofs.YtlkneapidmdpbaaGreatDoor

namespace Go.Proofs.YtlkneapidmdpbaaGreatDoor
open Go.RowKit

/-- block g holds an origin -/
structure OrgAt (W : World) (g : Nat) (s h : ByteArray) (p : Int) : Prop where
  c0 : W.cell? ⟨g, 0, none⟩ = some (.string s)
  c1 : W.cell? ⟨g, 1, none⟩ = some (.string h)
  c2 : W.cell? ⟨g, 2, none⟩ = some (.int .i64 p)
theorem OrgAt.below {W W' : World} {g B : Nat} {s h : ByteArray} {p : Int} (o : OrgAt W g s h p) (hb : Below B W W') (hg : g < B) : OrgAt W' g s h p :=
  ⟨(hb.cell hg).trans o.c0, (hb.cell hg).trans o.c1, (hb.cell hg).trans o.c2⟩
theorem OrgAt.new (w : World) (s h : ByteArray) (p : Int) (t : TypeId) : OrgAt (w.alloc (.cells #[.string s, .string h, .int .i64 p] t)) w.heap.size s h p :=
  ⟨by simp, by simp, by simp⟩
theorem OrgAt.drew {W : World} {g : Nat} {s h : ByteArray} {p : Int} (o : OrgAt W g s h p) : OrgAt W.drew g s h p := ⟨o.c0, o.c1, o.c2⟩
theorem OrgAt.lt {W : World} {g : Nat} {s h : ByteArray} {p : Int} (o : OrgAt W g s h p) : g < W.heap.size := block_of_cell o.c0

theorem dec_num (n : Nat) : n ≤ Lk.M64 → Lib.decDigits n = numL n := by
  induction n using Nat.strongRecOn with
  | _ n ih =>
    intro hm
    rw [Lib.decDigits]
    by_cases h : n < 10
    · rw [dif_pos h, numL_small (by omega)]
    · rw [dif_neg h, ih (n / 10) (by omega) (by unfold Lk.M64 at *; omega), numL_big (n := n) (by omega) (by unfold Lk.M64 at hm; omega)]
theorem itoa_num {p : Int} (h0 : 0 ≤ p) (h1 : p ≤ 65535) : Lib.itoa p = numL p.toNat := by
  rw [Lib.itoa, if_neg (by omega), dec_num _ (by unfold Lk.M64; omega)]

set_option maxHeartbeats 1000000 in
theorem Check_any (s h : ByteArray) (p : Int) (w : World) (hh : h.size ≤ maxLen) :
    Calls Tryz.prog 107 #[.agg #[.string s, .string h, .int .i64 p]] w fun e w' => e = .returned (.bool (checkL s.data.toList h.data.toList p)) ∧ Below w.heap.size w w' := by
  obtain ⟨d, hd⟩ : ∃ d, d = defL s.data.toList := ⟨_, rfl⟩
  have HE : Hid (checkL s.data.toList h.data.toList p = ((d != 0) && hostL h.data.toList && decide (1 ≤ p) && decide (p ≤ 65535))) := by show _ = _; rw [hd]; rfl
  have HD := Lib.hid hd
  clear hd
  have hb : Below w.heap.size w (w.alloc (.cells #[.string s, .string h, .int .i64 p] 82)) := (Below.refl _ _).alloc (Nat.le_refl _) _
  have HB := Lib.hid hb
  clear hb
  cases h0 : (d != 0)
  · have H0 := Lib.hid h0
    go_enter Tryz.func107, Tryz.ntmps107
    go_wp2_with fail
    refine (Default_any _ _).mono ?_
    rintro e w' ⟨rfl, rfl⟩
    rw [← HD.out]
    go_wp2
    go_ret
    exact ⟨ret_bool (by rw [HE.out, H0.out]; rfl), HB.out⟩
  have H0 := Lib.hid h0
  cases h1 : hostL h.data.toList
  · have H1 := Lib.hid h1
    clear h1
    go_enter Tryz.func107, Tryz.ntmps107
    go_wp2_with fail
    refine (Default_any _ _).mono ?_
    rintro e w' ⟨rfl, rfl⟩
    rw [← HD.out]
    go_wp2_with fail
    refine (isHost_any _ _ hh).mono ?_
    rintro e w' ⟨rfl, n, rfl⟩
    rw [H1.out]
    go_wp2
    go_ret
    exact ⟨ret_bool (by rw [HE.out, H0.out, H1.out]; rfl), below_drewN HB.out n⟩
  · have H1 := Lib.hid h1
    clear h1
    go_enter Tryz.func107, Tryz.ntmps107
    go_wp2_with fail
    refine (Default_any _ _).mono ?_
    rintro e w' ⟨rfl, rfl⟩
    rw [← HD.out]
    go_wp2_with fail
    refine (isHost_any _ _ hh).mono ?_
    rintro e w' ⟨rfl, n, rfl⟩
    rw [H1.out]
    go_wp2
    all_goals
      go_ret
      refine ⟨ret_bool ?_, below_drewN HB.out n⟩
      rw [HE.out, H0.out, H1.out]
      simp
      try omega

theorem key_mk {s h : ByteArray} {p : Int} (hc : checkL s.data.toList h.data.toList p = true) :
    s ++ ByteArray.mk #[58, 47, 47] ++ h ++ ByteArray.mk #[58] ++ ByteArray.mk (Lib.itoa p).toArray = mk (keyL s.data.toList h.data.toList p) := by
  obtain ⟨_, _, h3, h4⟩ := check_parts hc
  rw [key_eq hc, itoa_num (by omega) h4]
  show s ++ mk [58, 47, 47] ++ h ++ mk [58] ++ mk (numL p.toNat) = _
  conv => lhs; rw [← mk_eq s, ← mk_eq h]
  rw [mk_append, mk_append, mk_append, mk_append]
theorem bare_mk (s h : ByteArray) : s ++ ByteArray.mk #[58, 47, 47] ++ h = mk (s.data.toList ++ [58, 47, 47] ++ h.data.toList) := by
  show s ++ mk [58, 47, 47] ++ h = _
  conv => lhs; rw [← mk_eq s, ← mk_eq h]
  rw [mk_append, mk_append]
theorem check_sizes {s h : ByteArray} {p : Int} (hc : checkL s.data.toList h.data.toList p = true) : s.size ≤ 5 ∧ h.size ≤ 253 := by
  obtain ⟨h1, h2, _, _⟩ := check_parts hc
  have a := (scheme_small h1).2
  have b := host_len h2
  simp at a b
  exact ⟨a, b⟩
theorem below_grow (w : World) (k : Nat) (os : Array Obj) : Below w.heap.size w (Sort.grow (w.drewN k) os) :=
  ⟨rfl, rfl, rfl, by show w.heap.size ≤ (w.heap ++ os).size; rw [Array.size_append]; omega, fun j hj => by
    show (w.heap ++ os)[j]? = _
    rw [Array.getElem?_append_left hj]⟩
theorem Itoa_any (p : Int) (w : World) (t : ByteArray) (ht : t = ⟨(Lib.itoa p).toArray⟩) (h0 : 0 ≤ p) (h1 : p ≤ 65535) (he : Env w) :
    Calls Tryz.prog 113 #[.int .i64 p] w fun e w' => e = .returned (.string t) ∧ Below w.heap.size w w' :=
  by rw [ht]; exact (Tryz.strconv_Itoa p (by omega) (by omega) w he.tab).mono fun _ _ ⟨a, k, os, b⟩ => ⟨a, by rw [b]; exact below_grow w k os⟩

set_option maxHeartbeats 2000000 in
theorem Key_any (s h : ByteArray) (p : Int) (w : World) (hh : h.size ≤ maxLen) (he : Env w) :
    Calls Tryz.prog 65 #[.agg #[.string s, .string h, .int .i64 p]] w fun e w' => e = .returned (.string (mk (keyL s.data.toList h.data.toList p))) ∧ Below w.heap.size w w' := by
  have hb : Below w.heap.size w (w.alloc (.cells #[.string s, .string h, .int .i64 p] 82)) := (Below.refl _ _).alloc (Nat.le_refl _) _
  have HB := Lib.hid hb
  clear hb
  have HE := Lib.hid he
  clear he
  cases hc : checkL s.data.toList h.data.toList p
  · have HC := Lib.hid hc
    clear hc
    go_enter Tryz.func65, Tryz.ntmps65
    go_wp2_with fail
    refine (Check_any _ _ _ _ hh).mono ?_
    rintro e w' ⟨rfl, hb2⟩
    have HB2 := Lib.hid hb2
    clear hb2
    rw [HC.out]
    go_wp2
    go_ret
    exact ⟨ret_string (by rw [keyL, HC.out]; rfl), HB.out.trans (HB2.out.mono HB.out.size)⟩
  · have HC := Lib.hid hc
    obtain ⟨hz1, hz2⟩ := check_sizes hc
    obtain ⟨_, _, hp1, hp2⟩ := check_parts hc
    obtain ⟨t, ht⟩ : ∃ t : ByteArray, t = ⟨(Lib.itoa p).toArray⟩ := ⟨_, rfl⟩
    have hz3 : t.size ≤ 5 := by
      rw [ht, itoa_num (by omega) hp2]
      have := numL_len5 (n := p.toNat) (by omega)
      show (numL p.toNat).toArray.size ≤ 5
      simpa using this
    have HK : Hid (s ++ ByteArray.mk #[58, 47, 47] ++ h ++ ByteArray.mk #[58] ++ t = mk (keyL s.data.toList h.data.toList p)) := by show _ = _; rw [ht]; exact key_mk hc
    have HT := Lib.hid ht
    clear hc ht
    go_enter Tryz.func65, Tryz.ntmps65
    go_wp2_with fail
    refine (Check_any _ _ _ _ hh).mono ?_
    rintro e w1 ⟨rfl, hb2⟩
    have ho : OrgAt w1 w.heap.size s h p := (OrgAt.new w s h p 82).below hb2 (by simp)
    have HB2 : Hid (Below w.heap.size w w1) := HB.out.trans (hb2.mono HB.out.size)
    clear hb2
    rw [HC.out]
    have hc0 := ho.c0
    have hc1 := ho.c1
    have hc2 := ho.c2
    go_wp2_with fail
    refine mix_start (fun W => OrgAt W w.heap.size s h p) (by kernel_rfl) ?_
    have hne : Nonempty (Held (fun W => OrgAt W w.heap.size s h p)) := ⟨⟨w1, ho⟩⟩
    have hx0 : ∀ q : Held (fun W => OrgAt W w.heap.size s h p), q.w.cell? ⟨w.heap.size, 0, none⟩ = some (.string s) := fun q => q.h.c0
    have hx1 : ∀ q : Held (fun W => OrgAt W w.heap.size s h p), q.w.cell? ⟨w.heap.size, 1, none⟩ = some (.string h) := fun q => q.h.c1
    have hx2 : ∀ q : Held (fun W => OrgAt W w.heap.size s h p), q.w.cell? ⟨w.heap.size, 2, none⟩ = some (.int .i64 p) := fun q => q.h.c2
    refine mix_seg [0, 1, 2, 3, 4, 5, 6, 7, 8] (by kernel_rfl) ho.drew ?_
    simp only [segOf, pickOps, pickOp]
    repeat (go_big_quiet_step (fail))
    refine wpQuiet_nil ?_
    refine mix_run 9 (by kernel_rfl) ?_
    simp only [segOf, pickOps, pickOp]
    go_wp2_with fail
    refine (Itoa_any _ _ t HT.out (by omega) hp2 ((HE.out.below HB2.out).drew)).mono ?_
    rintro e w2 ⟨rfl, hb3⟩
    have ho2 : OrgAt w2 w.heap.size s h p := ho.drew.below hb3 ho.lt
    have HB3 : Hid (Below w.heap.size w w2) := HB2.out.drew.trans (hb3.mono HB2.out.size)
    clear hb3
    go_wp2_with fail
    refine MixPost.normal ho2 ?_
    refine mix_seg [10, 11] (by kernel_rfl) ho2 ?_
    simp only [segOf, pickOps, pickOp]
    repeat (go_big_quiet_step (fail))
    refine wpQuiet_nil ?_
    refine mix_done (by kernel_rfl) ?_
    go_wp2
    go_ret
    exact ⟨ret_string HK.out, HB3.out⟩
end Go.Proofs.YtlkneapidmdpbaaGreatDoor

namespace Go.Proofs.YtlkneapidmdpbaaGreatDoor
open Go.RowKit

theorem show_key {sc h : List UInt8} {p : Int} (hn : checkL sc h p = false ∨ p ≠ defL sc) : showL sc h p = keyL sc h p := by
  rw [showL, keyL]
  cases hc : checkL sc h p
  · rfl
  · rcases hn with hn | hn
    · rw [hc] at hn; cases hn
    · rw [if_pos rfl, if_pos rfl, if_neg hn]
theorem show_bare {sc h : List UInt8} {p : Int} (hc : checkL sc h p = true) (hn : p = defL sc) : showL sc h p = sc ++ [58, 47, 47] ++ h := by
  rw [showL, if_pos hc, if_pos hn]

set_option maxHeartbeats 2000000 in
theorem Show_any (s h : ByteArray) (p : Int) (w : World) (hh : h.size ≤ maxLen) (he : Env w) :
    Calls Tryz.prog 62 #[.agg #[.string s, .string h, .int .i64 p]] w fun e w' => e = .returned (.string (mk (showL s.data.toList h.data.toList p))) ∧ Below w.heap.size w w' := by
  have hb : Below w.heap.size w (w.alloc (.cells #[.string s, .string h, .int .i64 p] 82)) := (Below.refl _ _).alloc (Nat.le_refl _) _
  have ho := OrgAt.new w s h p 82
  have HB := Lib.hid hb
  clear hb
  have HE := Lib.hid he
  clear he
  obtain ⟨d, hd⟩ : ∃ d, d = defL s.data.toList := ⟨_, rfl⟩
  have HD := Lib.hid hd
  clear hd
  go_enter Tryz.func62, Tryz.ntmps62
  go_wp2_with fail
  refine mix_start (fun W => OrgAt W w.heap.size s h p) (by kernel_rfl) ?_
  have hne : Nonempty (Held (fun W => OrgAt W w.heap.size s h p)) := ⟨⟨_, ho⟩⟩
  have hx0 : ∀ q : Held (fun W => OrgAt W w.heap.size s h p), q.w.cell? ⟨w.heap.size, 0, none⟩ = some (.string s) := fun q => q.h.c0
  have hx1 : ∀ q : Held (fun W => OrgAt W w.heap.size s h p), q.w.cell? ⟨w.heap.size, 1, none⟩ = some (.string h) := fun q => q.h.c1
  have hx2 : ∀ q : Held (fun W => OrgAt W w.heap.size s h p), q.w.cell? ⟨w.heap.size, 2, none⟩ = some (.int .i64 p) := fun q => q.h.c2
  refine mix_seg [0] (by kernel_rfl) ho.drew ?_
  simp only [segOf, pickOps, pickOp]
  repeat (go_big_quiet_step (fail))
  refine wpQuiet_nil ?_
  refine mix_run 1 (by kernel_rfl) ?_
  simp only [segOf, pickOps, pickOp]
  go_wp2_with fail
  refine (Check_any _ _ _ _ hh).mono ?_
  rintro e w1 ⟨rfl, hb2⟩
  have ho1 : OrgAt w1 w.heap.size s h p := ho.drew.below hb2 (by simp)
  have HB2 : Hid (Below w.heap.size w w1) := HB.out.drew.trans (hb2.mono HB.out.size)
  clear hb2
  have HE1 : Hid (Env w1) := HE.out.below HB2.out
  cases hc : checkL s.data.toList h.data.toList p
  · have HC := Lib.hid hc
    clear hc
    go_wp2_with fail
    refine MixPost.normal ho1 ?_
    refine mix_seg [2, 3, 4, 5, 6] (by kernel_rfl) ho1 ?_
    simp only [segOf, pickOps, pickOp]
    repeat (go_big_quiet_step (fail))
    refine wpQuiet_nil ?_
    refine mix_run 7 (by kernel_rfl) ?_
    simp only [segOf, pickOps, pickOp]
    go_wp2_with fail
    refine MixPost.normal ho1 ?_
    refine mix_seg [8, 9] (by kernel_rfl) ho1 ?_
    simp only [segOf, pickOps, pickOp]
    repeat (go_big_quiet_step (fail))
    refine wpQuiet_nil ?_
    refine mix_done (by kernel_rfl) ?_
    have hc0 := ho1.c0
    have hc1 := ho1.c1
    have hc2 := ho1.c2
    go_wp2_with fail
    refine (Key_any _ _ _ _ hh HE1.out).mono ?_
    rintro e w2 ⟨rfl, hb3⟩
    go_wp2
    go_ret
    exact ⟨ret_string (by rw [show_key (.inl HC.out)]), HB2.out.trans (hb3.mono HB2.out.size)⟩
  · have HC := Lib.hid hc
    obtain ⟨hz1, hz2⟩ := check_sizes hc
    clear hc
    go_wp2_with fail
    refine MixPost.normal ho1 ?_
    refine mix_seg [2, 3, 4, 5, 6] (by kernel_rfl) ho1 ?_
    simp only [segOf, pickOps, pickOp]
    repeat (go_big_quiet_step (fail))
    refine wpQuiet_nil ?_
    refine mix_run 7 (by kernel_rfl) ?_
    simp only [segOf, pickOps, pickOp]
    go_wp2_with fail
    refine (Default_any _ _).mono ?_
    rintro e w' ⟨rfl, rfl⟩
    rw [← HD.out]
    go_wp2_with fail
    refine MixPost.normal ho1 ?_
    by_cases hpd : p = d
    · have hq : (p == d) = true := by rw [beq_iff_eq]; exact hpd
      have HPD := Lib.hid hpd
      clear hpd
      refine mix_seg [8, 9] (by kernel_rfl) ho1 ?_
      simp only [segOf, pickOps, pickOp]
      repeat (go_big_quiet_step (fail))
      refine wpQuiet_nil ?_
      refine mix_done (by kernel_rfl) ?_
      have hc0 := ho1.c0
      have hc1 := ho1.c1
      go_wp2
      go_ret
      exact ⟨ret_string (by rw [bare_mk, show_bare HC.out (HPD.out.trans HD.out)]), HB2.out⟩
    · have hq : (p == d) = false := by rw [beq_eq_false_iff_ne]; exact hpd
      have HPD := Lib.hid hpd
      clear hpd
      refine mix_seg [8, 9] (by kernel_rfl) ho1 ?_
      simp only [segOf, pickOps, pickOp]
      repeat (go_big_quiet_step (fail))
      refine wpQuiet_nil ?_
      refine mix_done (by kernel_rfl) ?_
      have hc0 := ho1.c0
      have hc1 := ho1.c1
      have hc2 := ho1.c2
      go_wp2_with fail
      refine (Key_any _ _ _ _ hh HE1.out).mono ?_
      rintro e w2 ⟨rfl, hb3⟩
      go_wp2
      go_ret
      exact ⟨ret_string (by rw [show_key (.inr (fun h => HPD.out (h.trans HD.out.symm)))]), HB2.out.trans (hb3.mono HB2.out.size)⟩
end Go.Proofs.YtlkneapidmdpbaaGreatDoor

namespace Go.Proofs.YtlkneapidmdpbaaGreatDoor
open Go.RowKit

def orgV (sc h : List UInt8) (p : Int) : Value := .agg #[.string (mk sc), .string (mk h), .int .i64 p]
def parseV (l : List UInt8) : Value :=
  if 512 < l.length then .tuple #[orgV [] [] 0, .int .i64 4]
  else match parseL l with
    | some (a, b, p) => .tuple #[orgV a b p, .int .i64 0]
    | none => .tuple #[orgV [] [] 0, .int .i64 3]

/-- none of the three cells of block g is frozen -/
structure Own3 (W : World) (g : Nat) : Prop where
  f0 : W.frozen? ⟨g, 0, none⟩ = false
  f1 : W.frozen? ⟨g, 1, none⟩ = false
  f2 : W.frozen? ⟨g, 2, none⟩ = false
theorem Own3.below {W W' : World} {g B : Nat} (o : Own3 W g) (hb : Below B W W') (hg : g < B) : Own3 W' g :=
  ⟨(hb.frozen hg).trans o.f0, (hb.frozen hg).trans o.f1, (hb.frozen hg).trans o.f2⟩
theorem Own3.new (w : World) (cs : Array Value) (t : TypeId) : Own3 (w.alloc (.cells cs t)) w.heap.size := ⟨by simp, by simp, by simp⟩

theorem set3_org {W : World} {g : Nat} {u v x : Value} (h0 : W.cell? ⟨g, 0, none⟩ = some u) (h1 : W.cell? ⟨g, 1, none⟩ = some v) (h2 : W.cell? ⟨g, 2, none⟩ = some x) (a b : ByteArray) (p : Int) :
    OrgAt (((W.setCell ⟨g, 0, none⟩ (.string a)).setCell ⟨g, 1, none⟩ (.string b)).setCell ⟨g, 2, none⟩ (.int .i64 p)) g a b p := by
  have d1 : (W.setCell ⟨g, 0, none⟩ (.string a)).cell? ⟨g, 1, none⟩ = some v := by rw [World.cell?_setCell_other _ _ _ _ (by simp)]; exact h1
  have d2 : ((W.setCell ⟨g, 0, none⟩ (.string a)).setCell ⟨g, 1, none⟩ (.string b)).cell? ⟨g, 2, none⟩ = some x := by
    rw [World.cell?_setCell_other _ _ _ _ (by simp), World.cell?_setCell_other _ _ _ _ (by simp)]; exact h2
  refine ⟨?_, ?_, ?_⟩
  · rw [World.cell?_setCell_other _ _ _ _ (by simp), World.cell?_setCell_other _ _ _ _ (by simp), World.cell?_setCell_same _ _ _ h0]
  · rw [World.cell?_setCell_other _ _ _ _ (by simp), World.cell?_setCell_same _ _ _ d1]
  · rw [World.cell?_setCell_same _ _ _ d2]
theorem set3_below {B : Nat} {w W : World} {g : Nat} (h : Below B w W) (hg : B ≤ g) (a b c : Value) :
    Below B w (((W.setCell ⟨g, 0, none⟩ a).setCell ⟨g, 1, none⟩ b).setCell ⟨g, 2, none⟩ c) := ((h.setCell hg a).setCell hg b).setCell hg c
theorem OrgAt.put {W : World} {g : Nat} {s h : ByteArray} {p : Int} (o : OrgAt W g s h p) (k : Int) : OrgAt (W.setCell ⟨g, 2, none⟩ (.int .i64 k)) g s h k :=
  ⟨by rw [World.cell?_setCell_other _ _ _ _ (by simp)]; exact o.c0, by rw [World.cell?_setCell_other _ _ _ _ (by simp)]; exact o.c1, by rw [World.cell?_setCell_same _ _ _ o.c2]⟩

theorem CutSch_none (s : ByteArray) (w : World) (hs : s.size ≤ 512) (he : Env w) (h : seek s.data.toList = none) :
    Calls Tryz.prog 144 #[.string s, .string ⟨#[58, 47, 47]⟩] w fun e w' => e = .returned (.tuple #[.string s, .string ⟨#[]⟩, .bool false]) ∧ ∃ n, w' = w.drewN n := by
  obtain ⟨m, hm⟩ := he.len
  refine (Tryz.strings_Cut s ⟨#[58, 47, 47]⟩ m w (by omega) hm).mono ?_
  rintro e w' ⟨rfl, n, rfl⟩
  have e : Lib.cut s.data.toList (ByteArray.mk #[58, 47, 47]).data.toList = (s.data.toList, [], false) := by
    show Lib.cut s.data.toList [58, 47, 47] = _
    rw [cut_seek, h]
  rw [e]
  exact ⟨by rw [show (⟨s.data.toList.toArray⟩ : ByteArray) = s from Lib.mk_data s], n, rfl⟩
theorem CutSch_some (s : ByteArray) (w : World) (a b : ByteArray) (hs : s.size ≤ 512) (he : Env w) (h : seek s.data.toList = some (a.data.toList, b.data.toList)) :
    Calls Tryz.prog 144 #[.string s, .string ⟨#[58, 47, 47]⟩] w fun e w' => e = .returned (.tuple #[.string a, .string b, .bool true]) ∧ ∃ n, w' = w.drewN n := by
  obtain ⟨m, hm⟩ := he.len
  refine (Tryz.strings_Cut s ⟨#[58, 47, 47]⟩ m w (by omega) hm).mono ?_
  rintro e w' ⟨rfl, n, rfl⟩
  have e : Lib.cut s.data.toList (ByteArray.mk #[58, 47, 47]).data.toList = (a.data.toList, b.data.toList, true) := by
    show Lib.cut s.data.toList [58, 47, 47] = _
    rw [cut_seek, h]
  rw [e]
  exact ⟨by rw [show (⟨a.data.toList.toArray⟩ : ByteArray) = a from Lib.mk_data a, show (⟨b.data.toList.toArray⟩ : ByteArray) = b from Lib.mk_data b], n, rfl⟩
theorem Lower_as (s t : ByteArray) (w : World) (hs : s.size ≤ maxLen) (ht : t = mk (Lk.lower s.data.toList)) :
    Calls Tryz.prog 76 #[.string s] w fun e w' => e = .returned (.string t) ∧ Below w.heap.size w w' := by rw [ht]; exact Lower_any s w hs

set_option maxHeartbeats 2000000 in
theorem Parse_any (s : ByteArray) (w : World) (hs : s.size ≤ maxLen) (he : Env w) :
    Calls Tryz.prog 100 #[.string s] w fun e w' => e = .returned (parseV s.data.toList) ∧ Below w.heap.size w w' := by
  have hs0 := hs
  unfold maxLen at hs
  have hl : s.data.toList.length = s.size := by simp
  have HE := Lib.hid he
  clear he
  by_cases h512 : 512 < s.size
  · have HV : Hid (parseV s.data.toList = .tuple #[orgV [] [] 0, .int .i64 4]) := by show _ = _; rw [parseV, if_pos (by rw [hl]; exact h512)]
    clear hl
    go_enter Tryz.func100, Tryz.ntmps100
    go_wp2
    refine bodyPost_ret (v := .tuple #[.agg #[.string ⟨#[]⟩, .string ⟨#[]⟩, .int .i64 0], .int .i64 4]) (by simp [results, Tryz.results100, go_sem]) rfl ?_
    exact ⟨by rw [HV.out]; rfl, (Below.refl _ _).alloc (Nat.le_refl _) _⟩
  obtain ⟨t, ht⟩ : ∃ t : ByteArray, t = mk (Lk.lower s.data.toList) := ⟨_, rfl⟩
  have htl : t.data.toList = Lk.lower s.data.toList := by rw [ht, mk_data]
  have htz : t.size ≤ 512 := by
    have : t.data.toList.length = s.size := by rw [htl, Lk.lower_len, hl]
    simp at this; omega
  have HT := Lib.hid ht
  have HTL := Lib.hid htl
  have HV : Hid (parseV s.data.toList = match parseL s.data.toList with
    | some (a, b, p) => .tuple #[orgV a b p, .int .i64 0]
    | none => .tuple #[orgV [] [] 0, .int .i64 3]) := by show _ = _; rw [parseV, if_neg (by rw [hl]; exact h512)]
  clear ht htl hl
  have hb0 : Below w.heap.size w (w.alloc (.cells #[.string ⟨#[]⟩, .string ⟨#[]⟩, .int .i64 0] 82)) := (Below.refl _ _).alloc (Nat.le_refl _) _
  have ho0 := OrgAt.new w ⟨#[]⟩ ⟨#[]⟩ 0 82
  have hf0 := Own3.new w #[.string ⟨#[]⟩, .string ⟨#[]⟩, .int .i64 0] 82
  have HB0 := Lib.hid hb0
  have HE0 : Hid (Env (w.alloc (.cells #[.string ⟨#[]⟩, .string ⟨#[]⟩, .int .i64 0] 82))) := HE.out.below hb0
  have hsz0 : w.heap.size < (w.alloc (.cells #[.string ⟨#[]⟩, .string ⟨#[]⟩, .int .i64 0] 82)).heap.size := by simp
  clear hb0
  have HO0 := Lib.hid ho0
  have HF0 := Lib.hid hf0
  have HZ0 := Lib.hid hsz0
  clear ho0 hf0 hsz0
  go_enter Tryz.func100, Tryz.ntmps100
  go_wp2_with fail
  refine (Lower_as s t _ hs0 HT.out).mono ?_
  rintro e w1 ⟨rfl, hb⟩
  have ho1 : OrgAt w1 w.heap.size ⟨#[]⟩ ⟨#[]⟩ 0 := HO0.out.below hb HZ0.out
  have hf1 : Own3 w1 w.heap.size := HF0.out.below hb HZ0.out
  have HB1 : Hid (Below w.heap.size w w1) := HB0.out.trans (hb.mono HB0.out.size)
  have HE1 : Hid (Env w1) := HE0.out.below hb
  clear hb
  obtain ⟨c0, c1, c2⟩ := ho1
  obtain ⟨f0, f1, f2⟩ := hf1
  cases hsk : seek t.data.toList with
  | none =>
    have HN : Hid (parseL s.data.toList = none) := by show _ = _; unfold parseL; rw [← HTL.out, hsk]
    have HS := Lib.hid hsk
    clear hsk
    go_wp2_with fail
    refine (CutSch_none t _ htz HE1.out HS.out).mono ?_
    rintro e w' ⟨rfl, n, rfl⟩
    go_wp2
    obtain ⟨q0, q1, q2⟩ := set3_org (W := w1.drewN n) (g := w.heap.size) c0 c1 c2 ⟨#[]⟩ ⟨#[]⟩ 0
    refine bodyPost_ret (v := .tuple #[.agg #[.string ⟨#[]⟩, .string ⟨#[]⟩, .int .i64 0], .int .i64 3]) (by simp [results, Tryz.results100, go_sem, q0, q1, q2]) rfl ?_
    exact ⟨by rw [HV.out, HN.out]; rfl, set3_below (below_drewN HB1.out n) (Nat.le_refl _) _ _ _⟩
  | some q =>
    obtain ⟨la, lb⟩ := q
    obtain ⟨a, ea⟩ : ∃ a : ByteArray, a.data.toList = la := ⟨mk la, mk_data la⟩
    obtain ⟨b, eb⟩ : ∃ b : ByteArray, b.data.toList = lb := ⟨mk lb, mk_data lb⟩
    subst ea eb
    have hlen := congrArg List.length (seek_eq _ _ _ hsk)
    simp only [List.length_append, List.length_cons, List.length_nil, Array.length_toList, ByteArray.size_data] at hlen
    have HL : Hid (parseL s.data.toList = if checkL a.data.toList (split1 58 b.data.toList).1 (portAt a.data.toList (split1 58 b.data.toList).2) then some (a.data.toList, (split1 58 b.data.toList).1, portAt a.data.toList (split1 58 b.data.toList).2) else none) := by
      show _ = _; unfold parseL; rw [← HTL.out, hsk]
    have HS := Lib.hid hsk
    clear hsk
    obtain ⟨d, hd⟩ : ∃ d, d = defL a.data.toList := ⟨_, rfl⟩
    have HD := Lib.hid hd
    clear hd
    rcases at_cases 58 b.data.toList with hn | ⟨lx, ly, em, hn⟩
    · have HP : Hid (parseL s.data.toList = if checkL a.data.toList b.data.toList d then some (a.data.toList, b.data.toList, d) else none) := by
        show _ = _; rw [HL.out, split1_none 58 _ hn]; rw [HD.out]; rfl
      have HN := Lib.hid hn
      clear hn
      go_wp2_with fail
      refine (CutSch_some t _ a b htz HE1.out HS.out).mono ?_
      rintro e w' ⟨rfl, n, rfl⟩
      go_wp2_with fail
      refine (Cut_no b 58 _ (by unfold maxLen; omega) HN.out).mono ?_
      rintro e wc ⟨rfl, n2, hwc⟩
      have hs2 : w.heap.size < wc.heap.size := by rw [hwc]; exact block_of_cell c0
      have hz2 : OrgAt wc w.heap.size ⟨#[]⟩ ⟨#[]⟩ 0 := by rw [hwc]; exact ⟨c0, c1, c2⟩
      have hf2 : Own3 wc w.heap.size := by rw [hwc]; exact ⟨f0, f1, f2⟩
      have HBc : Hid (Below w.heap.size w wc) := by rw [hwc]; exact below_drewN (below_drewN HB1.out n) n2
      clear hwc c0 c1 c2 f0 f1 f2
      have HZ := Lib.hid hz2
      have HF := Lib.hid hf2
      clear hz2 hf2
      go_wp2_with fail
      refine (Default_any _ _).mono ?_
      rintro e w' ⟨rfl, rfl⟩
      rw [← HD.out]
      go_wp2_with fail
      refine (Check_any a b d _ (by unfold maxLen; omega)).mono ?_
      rintro e w2 ⟨rfl, hb⟩
      have ho1 : OrgAt w2 wc.heap.size a b d := OrgAt.below (OrgAt.new wc a b d 82) hb (by simp)
      have hz2 : OrgAt w2 w.heap.size ⟨#[]⟩ ⟨#[]⟩ 0 := OrgAt.below (OrgAt.below (B := wc.heap.size) (W := wc) HZ.out ((Below.refl _ _).alloc (Nat.le_refl _) _) hs2) hb (by simp; omega)
      have hf2 : Own3 w2 w.heap.size := Own3.below (Own3.below (B := wc.heap.size) (W := wc) HF.out ((Below.refl _ _).alloc (Nat.le_refl _) _) hs2) hb (by simp; omega)
      have HB2 : Hid (Below w.heap.size w w2) := (HBc.out.alloc HBc.out.size _).trans (hb.mono (by simp; omega))
      clear hb
      obtain ⟨c0, c1, c2⟩ := hz2
      obtain ⟨f0, f1, f2⟩ := hf2
      obtain ⟨k0, k1, k2⟩ := ho1
      cases hc : checkL a.data.toList b.data.toList d
      · have HC := Lib.hid hc
        clear hc
        go_wp2
        obtain ⟨q0, q1, q2⟩ := set3_org (W := w2) (g := w.heap.size) c0 c1 c2 ⟨#[]⟩ ⟨#[]⟩ 0
        refine bodyPost_ret (v := .tuple #[.agg #[.string ⟨#[]⟩, .string ⟨#[]⟩, .int .i64 0], .int .i64 3]) (by simp [results, Tryz.results100, go_sem, q0, q1, q2]) rfl ?_
        exact ⟨by rw [HV.out, HP.out, HC.out]; rfl, set3_below HB2.out (Nat.le_refl _) _ _ _⟩
      · have HC := Lib.hid hc
        clear hc
        go_wp2
        obtain ⟨q0, q1, q2⟩ := set3_org (W := w2) (g := w.heap.size) c0 c1 c2 a b d
        refine bodyPost_ret (v := .tuple #[.agg #[.string a, .string b, .int .i64 d], .int .i64 0]) (by simp [results, Tryz.results100, go_sem, q0, q1, q2]) rfl ?_
        exact ⟨by rw [HV.out, HP.out, HC.out]; simp only [if_true, orgV, mk_eq], set3_below HB2.out (Nat.le_refl _) _ _ _⟩
    · obtain ⟨x, ex⟩ : ∃ x : ByteArray, x.data.toList = lx := ⟨mk lx, mk_data lx⟩
      obtain ⟨y, ey⟩ : ∃ y : ByteArray, y.data.toList = ly := ⟨mk ly, mk_data ly⟩
      subst ex ey
      have hlen2 := congrArg List.length em
      simp only [List.length_append, List.length_cons, Array.length_toList, ByteArray.size_data] at hlen2
      obtain ⟨pt, hpt⟩ : ∃ pt : Int, pt = (portL y.data.toList : Int) := ⟨_, rfl⟩
      have HPT := Lib.hid hpt
      have HP : Hid (parseL s.data.toList = if checkL a.data.toList x.data.toList pt then some (a.data.toList, x.data.toList, pt) else none) := by
        show _ = _; rw [HL.out, em, split1_at 58 _ _ hn, hpt]; rfl
      clear hpt
      have HN := Lib.hid hn
      have HM := Lib.hid em
      clear hn em
      go_wp2_with fail
      refine (CutSch_some t _ a b htz HE1.out HS.out).mono ?_
      rintro e w' ⟨rfl, n, rfl⟩
      go_wp2_with fail
      refine (Cut_yes b x.data.toList y.data.toList 58 _ (by unfold maxLen; omega) HM.out HN.out).mono ?_
      rintro e wc ⟨rfl, n2, hwc⟩
      have hs2 : w.heap.size < wc.heap.size := by rw [hwc]; exact block_of_cell c0
      have hz2 : OrgAt wc w.heap.size ⟨#[]⟩ ⟨#[]⟩ 0 := by rw [hwc]; exact ⟨c0, c1, c2⟩
      have hf2 : Own3 wc w.heap.size := by rw [hwc]; exact ⟨f0, f1, f2⟩
      have HBc : Hid (Below w.heap.size w wc) := by rw [hwc]; exact below_drewN (below_drewN HB1.out n) n2
      clear hwc c0 c1 c2 f0 f1 f2
      have HZ := Lib.hid hz2
      have HF := Lib.hid hf2
      clear hz2 hf2
      rw [show (⟨x.data.toList.toArray⟩ : ByteArray) = x from Lib.mk_data x, show (⟨y.data.toList.toArray⟩ : ByteArray) = y from Lib.mk_data y]
      go_wp2_with fail
      refine (Default_any _ _).mono ?_
      rintro e w' ⟨rfl, rfl⟩
      rw [← HD.out]
      go_wp2_with fail
      refine (portOf_any y _ (by unfold maxLen; omega)).mono ?_
      rintro e w' ⟨rfl, rfl⟩
      rw [← HPT.out]
      go_wp2_with fail
      refine (Check_any a x pt _ (by unfold maxLen; omega)).mono ?_
      rintro e w2 ⟨rfl, hb⟩
      have ho1 : OrgAt w2 wc.heap.size a x pt := OrgAt.below (OrgAt.new wc a x pt 82) hb (by simp)
      have hz2 : OrgAt w2 w.heap.size ⟨#[]⟩ ⟨#[]⟩ 0 := OrgAt.below (OrgAt.below (B := wc.heap.size) (W := wc) HZ.out ((Below.refl _ _).alloc (Nat.le_refl _) _) hs2) hb (by simp; omega)
      have hf2 : Own3 w2 w.heap.size := Own3.below (Own3.below (B := wc.heap.size) (W := wc) HF.out ((Below.refl _ _).alloc (Nat.le_refl _) _) hs2) hb (by simp; omega)
      have HB2 : Hid (Below w.heap.size w w2) := (HBc.out.alloc HBc.out.size _).trans (hb.mono (by simp; omega))
      clear hb
      obtain ⟨c0, c1, c2⟩ := hz2
      obtain ⟨f0, f1, f2⟩ := hf2
      obtain ⟨k0, k1, k2⟩ := ho1
      cases hc : checkL a.data.toList x.data.toList pt
      · have HC := Lib.hid hc
        clear hc
        go_wp2
        obtain ⟨q0, q1, q2⟩ := set3_org (W := w2) (g := w.heap.size) c0 c1 c2 ⟨#[]⟩ ⟨#[]⟩ 0
        refine bodyPost_ret (v := .tuple #[.agg #[.string ⟨#[]⟩, .string ⟨#[]⟩, .int .i64 0], .int .i64 3]) (by simp [results, Tryz.results100, go_sem, q0, q1, q2]) rfl ?_
        exact ⟨by rw [HV.out, HP.out, HC.out]; rfl, set3_below HB2.out (Nat.le_refl _) _ _ _⟩
      · have HC := Lib.hid hc
        clear hc
        go_wp2
        obtain ⟨q0, q1, q2⟩ := set3_org (W := w2) (g := w.heap.size) c0 c1 c2 a x pt
        refine bodyPost_ret (v := .tuple #[.agg #[.string a, .string x, .int .i64 pt], .int .i64 0]) (by simp [results, Tryz.results100, go_sem, q0, q1, q2]) rfl ?_
        exact ⟨by rw [HV.out, HP.out, HC.out]; simp only [if_true, orgV, mk_eq], set3_below HB2.out (Nat.le_refl _) _ _ _⟩
end Go.Proofs.YtlkneapidmdpbaaGreatDoor

namespace Go.Proofs.YtlkneapidmdpbaaGreatDoor
open Go.RowKit

theorem g_aw1 : parseV (ByteArray.mk #[72, 84, 84, 80, 83, 58, 47, 47, 65, 46, 98, 58, 52, 52, 51]).data.toList = .tuple #[.agg #[.string ⟨#[104, 116, 116, 112, 115]⟩, .string ⟨#[97, 46, 98]⟩, .int .i64 443], .int .i64 0] := by kernel_rfl
theorem g_aw2 : parseV (ByteArray.mk #[104, 116, 116, 112, 58, 47, 47, 97, 58, 48, 56, 48]).data.toList = .tuple #[.agg #[.string ⟨#[]⟩, .string ⟨#[]⟩, .int .i64 0], .int .i64 3] := by kernel_rfl
theorem g_aw3 : mk (showL (ByteArray.mk #[104, 116, 116, 112, 115]).data.toList (ByteArray.mk #[97, 46, 98]).data.toList 443) = ⟨#[104, 116, 116, 112, 115, 58, 47, 47, 97, 46, 98]⟩ := by kernel_rfl
theorem g_aw4 : mk (keyL (ByteArray.mk #[104, 116, 116, 112, 115]).data.toList (ByteArray.mk #[97, 46, 98]).data.toList 443) = ⟨#[104, 116, 116, 112, 115, 58, 47, 47, 97, 46, 98, 58, 52, 52, 51]⟩ := by kernel_rfl
theorem g_aw5 : defL (ByteArray.mk #[104, 116, 116, 112]).data.toList = 80 := by kernel_rfl

end Go.Proofs.YtlkneapidmdpbaaGreatDoor
