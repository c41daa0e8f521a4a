/-
  The plain mathematics and the contracts of safe over this seat's program. Conditions: those of each statement.
-/
import Derived.Test.YtlkneapidmdpbaaGreatDoorLHdr
import Derived.Test.YtlkneapidmdpbaaGreatDoorLOct2
namespace Go.Proofs.YtlkneapidmdpbaaGreatDoor

def barL : List UInt8 := [34, 40, 41, 58, 60, 62, 63, 64, 91, 92, 93, 123, 125, 127]
def marksL : List UInt8 := [32, 42, 44, 45, 46, 59, 61]
def byteOk (b : UInt8) : Bool := b == 9 || (decide (32 ≤ b.toNat) && !barL.contains b)
def langOk (b : UInt8) : Bool := Lk.plB b.toNat || marksL.contains b
def bytesOk (l : List UInt8) : Bool := l.all byteOk
def langsOk (l : List UInt8) : Bool := l.all langOk
/-- a token, a slash, a token, in small letters; or nothing -/
def typeL (t : List UInt8) : Option (List UInt8) :=
  match split1 47 t with
  | (_, none) => none
  | (a, some b) => if Lk.tokL a && Lk.tokL b then some (Lk.lower t) else none
def essL (v : List UInt8) : Option (List UInt8) := typeL (Lk.trimL (split1 59 v).1)
def bytesT : List UInt8 := [98, 121, 116, 101, 115, 61]
def spanL (t : List UInt8) : Bool :=
  match split1 45 t with
  | (_, none) => false
  | (a, some b) => Lk.digL a && (b.isEmpty || (Lk.digL b && decide (Lk.sat (Lk.valL a) ≤ Lk.sat (Lk.valL b))))
def rangeL (v : List UInt8) : Bool := (v.take 6 == bytesT) && spanL (v.drop 6)
def acceptT : List UInt8 := [97, 99, 99, 101, 112, 116]
def alangT : List UInt8 := [97, 99, 99, 101, 112, 116, 45, 108, 97, 110, 103, 117, 97, 103, 101]
def clangT : List UInt8 := [99, 111, 110, 116, 101, 110, 116, 45, 108, 97, 110, 103, 117, 97, 103, 101]
def ctypeT : List UInt8 := [99, 111, 110, 116, 101, 110, 116, 45, 116, 121, 112, 101]
def rangeT : List UInt8 := [114, 97, 110, 103, 101]
def formT1 : List UInt8 := [97, 112, 112, 108, 105, 99, 97, 116, 105, 111, 110, 47, 120, 45, 119, 119, 119, 45, 102, 111, 114, 109, 45, 117, 114, 108, 101, 110, 99, 111, 100, 101, 100]
def formT2 : List UInt8 := [109, 117, 108, 116, 105, 112, 97, 114, 116, 47, 102, 111, 114, 109, 45, 100, 97, 116, 97]
def formT3 : List UInt8 := [116, 101, 120, 116, 47, 112, 108, 97, 105, 110]
def essT (v : List UInt8) : List UInt8 := (essL v).getD []
def formL (v : List UInt8) : Bool := essT v == formT1 || essT v == formT2 || essT v == formT3
def kindOk (n v : List UInt8) : Bool :=
  if n = acceptT then bytesOk v else if n = alangT then langsOk v else if n = clangT then langsOk v
  else if n = ctypeT then bytesOk v && formL v else if n = rangeT then rangeL v else false
def safeH (h : Hd) : Bool := decide ((Lk.trimL h.2).length ≤ 128) && kindOk (Lk.lower h.1) (Lk.trimL h.2)
def safeSum (l : List Hd) : Nat := ((l.filter safeH).map (fun h => (Lk.trimL h.2).length)).sum
def askedL (l : List Hd) : List Tx := (l.filter (fun h => !safeH h)).map (fun h => Lk.lower h.1)
def lowsL (l : List Hd) : List Tx := l.map (fun h => Lk.lower h.1)
def safeNames (l : List Hd) : List Tx := risL (if 1024 < safeSum l then lowsL l else askedL l)

theorem safe_long {h : Hd} (hl : 128 < (Lk.trimL h.2).length) : safeH h = false := by
  unfold safeH
  rw [decide_eq_false (by omega)]; rfl
theorem safe_short {h : Hd} (hl : ¬ 128 < (Lk.trimL h.2).length) : safeH h = kindOk (Lk.lower h.1) (Lk.trimL h.2) := by
  unfold safeH
  rw [decide_eq_true (by omega)]; rfl
theorem lows_append (l m : List Hd) : lowsL (l ++ m) = lowsL l ++ lowsL m := by simp [lowsL]
theorem asked_append (l m : List Hd) : askedL (l ++ m) = askedL l ++ askedL m := by simp [askedL]
theorem sum_append (l m : List Hd) : safeSum (l ++ m) = safeSum l + safeSum m := by simp [safeSum]
theorem lows_one (h : Hd) : lowsL [h] = [Lk.lower h.1] := rfl
theorem asked_yes {h : Hd} (hs : safeH h = true) : askedL [h] = [] := by simp [askedL, hs]
theorem asked_no {h : Hd} (hs : safeH h = false) : askedL [h] = [Lk.lower h.1] := by simp [askedL, hs]
theorem sum_yes {h : Hd} (hs : safeH h = true) : safeSum [h] = (Lk.trimL h.2).length := by simp [safeSum, hs]
theorem sum_no {h : Hd} (hs : safeH h = false) : safeSum [h] = 0 := by simp [safeSum, hs]
theorem asked_len (l : List Hd) : (askedL l).length ≤ l.length := by
  unfold askedL; rw [List.length_map]; exact List.length_filter_le _ _
theorem lows_len (l : List Hd) : (lowsL l).length = l.length := by simp [lowsL]
theorem safe_bd {h : Hd} (hs : safeH h = true) : (Lk.trimL h.2).length ≤ 128 := by
  unfold safeH at hs
  simp only [Bool.and_eq_true, decide_eq_true_eq] at hs
  exact hs.1
theorem sum_bd : ∀ l : List Hd, safeSum l ≤ 128 * l.length
  | [] => by simp [safeSum]
  | h :: r => by
    have ih := sum_bd r
    rw [← List.singleton_append, sum_append]
    cases hs : safeH h
    · rw [sum_no hs]; simp; omega
    · rw [sum_yes hs]; have := safe_bd hs; simp; omega
theorem asked_mem (l : List Hd) (x : Tx) : x ∈ askedL l ↔ ∃ h ∈ l, safeH h = false ∧ Lk.lower h.1 = x := by
  simp [askedL, and_assoc]
theorem asked_lows (l : List Hd) (x : Tx) (h : x ∈ askedL l) : x ∈ lowsL l := by
  obtain ⟨g, hg, _, e⟩ := (asked_mem l x).1 h
  exact List.mem_map.2 ⟨g, hg, e⟩
theorem safeNames_up (l : List Hd) : Up (safeNames l) := ris_up _
theorem safeNames_lows {l : List Hd} {x : Tx} (h : x ∈ safeNames l) : x ∈ namesH l := by
  unfold safeNames at h
  rw [ris_mem] at h
  unfold namesH
  rw [ris_mem]
  split at h
  · exact h
  · exact asked_lows l x h
theorem safeNames_len (l : List Hd) : (safeNames l).length ≤ l.length := by
  unfold safeNames
  refine Nat.le_trans (ris_len _) ?_
  split
  · rw [lows_len]; exact Nat.le_refl _
  · exact asked_len l
theorem names_lows (l : List Hd) : namesH l = risL (lowsL l) := rfl
theorem safe_many {l : List Hd} (h : 1024 < safeSum l) : safeNames l = namesH l := by unfold safeNames; rw [if_pos h]; rfl
theorem safe_few {l : List Hd} (h : ¬ 1024 < safeSum l) : safeNames l = risL (askedL l) := by unfold safeNames; rw [if_neg h]

/-- a row of texts that rises with all of another one in it is not shorter -/
theorem up_sub_len : ∀ {a b : List Tx}, Up a → (∀ x ∈ a, x ∈ b) → a.length ≤ b.length
  | [], _, _, _ => Nat.zero_le _
  | x :: a, b, ha, h => by
    have ha' := List.pairwise_cons.1 ha
    have hx : x ∈ b := h x (by simp)
    have hsub : ∀ y ∈ a, y ∈ b.erase x := by
      intro y hy
      have hne : y ≠ x := fun e => tx_ne (ha'.1 y hy) e.symm
      exact (List.mem_erase_of_ne hne).2 (h y (List.mem_cons_of_mem _ hy))
    have ih := up_sub_len ha'.2 hsub
    rw [List.length_erase_of_mem hx] at ih
    have : 0 < b.length := List.length_pos_of_mem hx
    simp; omega

/-- one header more: whatever was told is told again -/
theorem safe_more (l : List Hd) (h : Hd) (hs : safeH h = false) : Lk.lower h.1 ∈ safeNames (l ++ [h]) ∧ (safeNames l).length ≤ (safeNames (l ++ [h])).length := by
  have e1 : safeSum (l ++ [h]) = safeSum l := by rw [sum_append, sum_no hs, Nat.add_zero]
  refine ⟨?_, up_sub_len (safeNames_up l) fun x hx => ?_⟩
  · unfold safeNames
    rw [ris_mem]
    split
    · rw [lows_append]; simp [lows_one]
    · rw [asked_append, asked_no hs]; simp
  · unfold safeNames at hx ⊢
    rw [ris_mem] at hx ⊢
    rw [e1]
    split at hx
    · rename_i hc; rw [if_pos hc, lows_append]; simp [hx]
    · rename_i hc; rw [if_neg hc, asked_append]; simp [hx]

/-- small letters stay -/
theorem tx_small (l : List Hd) (x : Tx) (h : x ∈ safeNames l) : Lk.lower x = x := by
  have := safeNames_lows h
  obtain ⟨g, _, e⟩ := (names_mem l x).1 this
  rw [← e, Lk.lower_lower]
theorem lows_named (ns : List Tx) (h : ∀ x ∈ ns, Lk.lower x = x) : lowsL (ns.map (fun n => (n, []))) = ns := by
  unfold lowsL
  rw [List.map_map]
  conv => rhs; rw [← List.map_id ns]
  apply List.map_congr_left
  intro x hx
  exact h x hx
theorem safe_merge {l m : List Hd} (h : ¬ 1024 < safeSum (l ++ m)) : safeNames (l ++ m) = namesH ((safeNames l ++ safeNames m).map (fun n => (n, []))) := by
  have h1 : ¬ 1024 < safeSum l := by rw [sum_append] at h; omega
  have h2 : ¬ 1024 < safeSum m := by rw [sum_append] at h; omega
  rw [names_lows, lows_named _ (by
    intro x hx
    rcases List.mem_append.1 hx with hx | hx
    · exact tx_small l x hx
    · exact tx_small m x hx)]
  refine up_unique (safeNames_up _) (ris_up _) fun x => ?_
  rw [safe_few h, safe_few h1, safe_few h2, ris_mem, ris_mem, asked_append, List.mem_append, List.mem_append, ris_mem, ris_mem]
end Go.Proofs.YtlkneapidmdpbaaGreatDoor

namespace Go.Proofs.YtlkneapidmdpbaaGreatDoor
open Go.RowKit

theorem IndexByte_at (bar : ByteArray) (c : UInt8) (w : World) : ∃ i : Int, decide (0 ≤ i) = bar.data.toList.contains c ∧
    Calls Tryz.prog 180 #[.string bar, .int .u8 (c.toNat : Int)] w fun e w' => e = .returned (.int .i64 i) ∧ w = w' := by
  refine ⟨Lib.indexByte bar.data.toList c, (Lib.contains_iff_indexByte _ _).symm, ?_⟩
  refine (Tryz.strings_IndexByte bar (c.toNat : Int) w).mono ?_
  rintro e w' ⟨rfl, rfl⟩
  exact ⟨by simp, rfl⟩

theorem byteOk_lo {c : UInt8} (h9 : ¬ (c.toNat : Int) = 9) (h : (c.toNat : Int) < 32) : byteOk c = false := by
  have h1 : (c == 9) = false := by
    rw [beq_eq_false_iff_ne]; intro e; subst e; exact h9 rfl
  have h2 : decide (32 ≤ c.toNat) = false := by simp; omega
  unfold byteOk; rw [h1, h2]; rfl
theorem byteOk_hi {c : UInt8} (h9 : ¬ (c.toNat : Int) = 9) (h : ¬ (c.toNat : Int) < 32) : byteOk c = !barL.contains c := by
  have h1 : (c == 9) = false := by
    rw [beq_eq_false_iff_ne]; intro e; subst e; exact h9 rfl
  have h2 : decide (32 ≤ c.toNat) = true := by simp; omega
  unfold byteOk; rw [h1, h2]; rfl

set_option maxHeartbeats 400000 in
theorem Byte_any (c : UInt8) (w : World) :
    Calls Tryz.prog 189 #[.int .u8 (c.toNat : Int)] w fun e w' => e = .returned (.bool (byteOk c)) ∧ w = w' := by
  obtain ⟨i, hi, hcall⟩ := IndexByte_at ⟨#[34, 40, 41, 58, 60, 62, 63, 64, 91, 92, 93, 123, 125, 127]⟩ c w
  have HC := Lib.hid hcall
  have HI : Hid (decide (0 ≤ i) = barL.contains c) := hi
  clear hcall hi
  by_cases h9 : (c.toNat : Int) = 9
  · have HE : Hid (byteOk c = true) := by
      show _ = _
      have : c = 9 := Lk.u8_eq (by rw [h9]; rfl)
      subst this; decide
    go_enter Tryz.func189, Tryz.ntmps189
    go_wp2
    go_ret
    exact ⟨ret_bool HE.out.symm, rfl⟩
  by_cases h32 : (c.toNat : Int) < 32
  · have HE := Lib.hid (byteOk_lo h9 h32)
    go_enter Tryz.func189, Tryz.ntmps189
    go_wp2
    go_ret
    exact ⟨ret_bool (by rw [HE.out]; simpa using h9), rfl⟩
  have HE := Lib.hid (byteOk_hi h9 h32)
  have HF : Hid (decide (i < 0) = byteOk c) := by
    show _ = _
    rw [HE.out, ← HI.out, ← decide_not, decide_eq_decide]; omega
  go_enter Tryz.func189, Tryz.ntmps189
  go_wp2_with fail
  refine HC.out.mono ?_
  rintro e w' ⟨rfl, rfl⟩
  go_wp2
  all_goals
    go_ret
    exact ⟨ret_bool (by rw [← HF.out]; simp_all), rfl⟩

theorem langOk_eq (c : UInt8) : langOk c = ((Lk.smB c.toNat || Lk.upB c.toNat || Lk.digB c.toNat) || marksL.contains c) := rfl

set_option maxHeartbeats 400000 in
theorem isLanguageByte_any (c : UInt8) (w : World) :
    Calls Tryz.prog 190 #[.int .u8 (c.toNat : Int)] w fun e w' => e = .returned (.bool (langOk c)) ∧ w = w' := by
  obtain ⟨i, hi, hcall⟩ := IndexByte_at ⟨#[32, 42, 44, 45, 46, 59, 61]⟩ c w
  have HC := Lib.hid hcall
  have HI : Hid (decide (0 ≤ i) = marksL.contains c) := hi
  clear hcall hi
  cases hp : Lk.plB c.toNat
  · have HP := Lib.hid hp
    have HE : Hid (langOk c = decide (0 ≤ i)) := by show _ = _; rw [HI.out, langOk, HP.out, Bool.false_or]
    simp only [Lk.plB, Lk.smB, Lk.upB, Lk.digB, Bool.or_eq_false_iff, Bool.and_eq_false_imp, decide_eq_true_eq, decide_eq_false_iff_not] at hp
    obtain ⟨⟨p1, p2⟩, p3⟩ := hp
    go_enter Tryz.func190, Tryz.ntmps190
    go_wp2_with (go_at_call 180; refine HC.out.mono ?_; rintro e w' ⟨rfl, rfl⟩)
    all_goals first
      | (exfalso; omega)
      | (go_ret
         exact ⟨ret_bool (by rw [HE.out] <;> simp_all), rfl⟩)
  · have HP := Lib.hid hp
    have HE : Hid (langOk c = true) := by show _ = _; rw [langOk, HP.out, Bool.true_or]
    simp only [Lk.plB, Lk.smB, Lk.upB, Lk.digB, Bool.or_eq_true, Bool.and_eq_true, decide_eq_true_eq] at hp
    go_enter Tryz.func190, Tryz.ntmps190
    go_wp2_with (go_at_call 180; refine HC.out.mono ?_; rintro e w' ⟨rfl, rfl⟩)
    all_goals first
      | (go_ret
         exact ⟨ret_bool HE.out.symm, rfl⟩)
      | (exfalso; omega)

set_option maxHeartbeats 400000 in
theorem allBytes_of (f : Nat) (p : UInt8 → Bool) (hf : ∀ (c : UInt8) (w : World), Calls Tryz.prog f #[.int .u8 (c.toNat : Int)] w fun e w' => e = .returned (.bool (p c)) ∧ w = w')
    (s : ByteArray) (w : World) (hs : s.size ≤ maxLen) (hen : ∀ args w, (callFunc f args).run Tryz.prog w = .ok (.enter f args) w) :
    Calls Tryz.prog 188 #[.string s, .func (.func f) #[] #[]] w fun e w' => e = .returned (.bool (s.data.toList.all p)) ∧ w = w' := by
  unfold maxLen at hs
  have HF := Lib.hid hf
  clear hf
  obtain ⟨r, hr⟩ : ∃ r : Bool, r = s.data.toList.all p := ⟨_, rfl⟩
  rw [← hr]
  have HR := Lib.hid hr
  clear hr
  go_enter Tryz.func188, Tryz.ntmps188
  go_wp2
  go_loop [8] (fun i => ∃ k : Nat, k ≤ s.size ∧ i = .int .i64 k ∧ (s.data.toList.take k).all p = true) (fun i => s.size - (intOf i).toNat)
  case atStart => exact ⟨0, Nat.zero_le _, rfl, rfl⟩
  case round =>
    obtain ⟨k, hk, rfl, ha⟩ := hrel
    have HA := Lib.hid ha
    clear ha
    by_cases hlt : k < s.size
    · cases hc : p s[k]
      · have HC := Lib.hid hc
        go_wp2_with fail
        refine (HF.out _ _).mono ?_
        rintro e w' ⟨rfl, rfl⟩
        rw [HC.out]
        go_wp2
        go_ret
        exact ⟨ret_bool (by rw [HR.out, Lk.all_no hlt HC.out]), rfl⟩
      · have HC := Lib.hid hc
        go_wp2_with fail
        refine (HF.out _ _).mono ?_
        rintro e w' ⟨rfl, rfl⟩
        rw [HC.out]
        go_wp2
        go_round
        case rel => exact ⟨k + 1, by omega, by go_num, Lk.all_step hlt HA.out HC.out⟩
        case measure => simp [intOf]; omega
    · go_wp2
      go_ret
      exact ⟨ret_bool (by have := HA.out; rw [Lk.take_all s k (by omega)] at this; rw [HR.out, this]), rfl⟩
theorem allB_any (s : ByteArray) (w : World) (hs : s.size ≤ maxLen) :
    Calls Tryz.prog 188 #[.string s, .func (.func 189) #[] #[]] w fun e w' => e = .returned (.bool (bytesOk s.data.toList)) ∧ w = w' :=
  allBytes_of 189 byteOk Byte_any s w hs (enters_of Tryz.func189 (by kernel_rfl) rfl)
theorem allL_any (s : ByteArray) (w : World) (hs : s.size ≤ maxLen) :
    Calls Tryz.prog 188 #[.string s, .func (.func 190) #[] #[]] w fun e w' => e = .returned (.bool (langsOk s.data.toList)) ∧ w = w' :=
  allBytes_of 190 langOk isLanguageByte_any s w hs (enters_of Tryz.func190 (by kernel_rfl) rfl)

/-- a cut at one byte, whether it is there or not -/
theorem Cut1_any (s : ByteArray) (c : UInt8) (w : World) (hs : s.size ≤ maxLen) : ∃ (p q : ByteArray) (f : Bool),
    (Calls Tryz.prog 144 #[.string s, .string ⟨#[c]⟩] w fun e w' => e = .returned (.tuple #[.string p, .string q, .bool f]) ∧ ∃ n, w' = w.drewN n) ∧
    p.size ≤ s.size ∧ q.size ≤ s.size ∧ split1 c s.data.toList = (p.data.toList, if f then some q.data.toList else none) ∧ (f = false → q.data.toList = []) := by
  rcases at_cases c s.data.toList with h | ⟨a, b, e, h⟩
  · exact ⟨s, ⟨#[]⟩, false, Cut_no s c w hs h, Nat.le_refl _, Nat.zero_le _, by rw [split1_none c _ h]; rfl, fun _ => rfl⟩
  · have hl : s.size = a.length + (b.length + 1) := by have := congrArg List.length e; simpa using this
    have ha : (⟨a.toArray⟩ : ByteArray).size = a.length := by show a.toArray.size = _; simp
    have hb : (⟨b.toArray⟩ : ByteArray).size = b.length := by show b.toArray.size = _; simp
    exact ⟨⟨a.toArray⟩, ⟨b.toArray⟩, true, Cut_yes s a b c w hs e h, by omega, by omega, by rw [e, split1_at c a b h]; simp, by simp⟩

/-- what Essence answers -/
def essV (v : List UInt8) : Value := .tuple #[.string (mk (essT v)), .bool (essL v).isSome]
theorem essV_no {v : List UInt8} (h : essL v = none) : essV v = .tuple #[.string ⟨#[]⟩, .bool false] := by
  unfold essV essT; rw [h]; rfl
theorem essV_yes {v t : List UInt8} (h : essL v = some t) : essV v = .tuple #[.string (mk t), .bool true] := by
  unfold essV essT; rw [h]; rfl
theorem ret_any {a b : Value} (h : a = b) : Ending.returned a = .returned b := by rw [h]

set_option maxHeartbeats 1000000 in
theorem Essence_any (v : ByteArray) (w : World) (hs : v.size ≤ maxLen) :
    Calls Tryz.prog 211 #[.string v] w fun e w' => e = .returned (essV v.data.toList) ∧ Below w.heap.size w w' := by
  obtain ⟨p, q, f, hcut, hp, hq, hsp, _⟩ := Cut1_any v 59 w hs
  have HC := Lib.hid hcut
  have HP : Hid ((split1 59 v.data.toList).1 = p.data.toList) := by show _ = _; rw [hsp]
  clear hcut hsp hq
  go_enter Tryz.func211, Tryz.ntmps211
  go_wp2_with fail
  refine HC.out.mono ?_
  rintro e w1 ⟨rfl, n1, hw1⟩
  have HB1 : Hid (Below w.heap.size w w1) := by show Below _ _ _; rw [hw1]; exact below_drewN (Below.refl _ _) _
  clear hw1
  obtain ⟨t, ht⟩ : ∃ t : ByteArray, t = ⟨(Lk.trimL p.data.toList).toArray⟩ := ⟨_, rfl⟩
  have htz : t.size ≤ maxLen := by
    have := Lk.trim_len p.data.toList
    rw [ht]; show (Lk.trimL p.data.toList).toArray.size ≤ _
    simp at this ⊢; omega
  have HT := Lib.hid ht
  have HTD : Hid (t.data.toList = Lk.trimL p.data.toList) := by show _ = _; rw [ht]
  clear ht
  go_wp2_with fail
  refine (Trim_any p _ (by omega)).mono ?_
  rintro e w' ⟨rfl, rfl⟩
  rw [← HT.out]
  obtain ⟨a, b, g, hcut, ha, hb, hsp, hn⟩ := Cut1_any t 47 w1 htz
  have HC2 := Lib.hid hcut
  have HSP := Lib.hid hsp
  have HN := Lib.hid hn
  clear hcut hsp hn
  have HE : Hid (essL v.data.toList = typeL t.data.toList) := by show _ = _; unfold essL; rw [HP.out, HTD.out]
  go_wp2_with fail
  refine HC2.out.mono ?_
  rintro e w2 ⟨rfl, n2, hw2⟩
  have HB2 : Hid (Below w.heap.size w w2) := by show Below _ _ _; rw [hw2]; exact below_drewN HB1.out _
  clear hw2
  go_wp2_with fail
  refine (Token_any a _ (by omega)).mono ?_
  rintro e w' ⟨rfl, rfl⟩
  cases hta : Lk.tokL a.data.toList
  · have HTA := Lib.hid hta
    have HR : Hid (essL v.data.toList = none) := by
      show _ = _
      rw [HE.out, typeL, HSP.out]
      cases g
      · rfl
      · simp [HTA.out]
    go_wp2
    go_ret2
    exact ⟨ret_any (essV_no HR.out).symm, HB2.out⟩
  have HTA := Lib.hid hta
  clear hta
  go_wp2_with fail
  refine (Token_any b _ (by omega)).mono ?_
  rintro e w' ⟨rfl, rfl⟩
  cases htb : Lk.tokL b.data.toList
  · have HTB := Lib.hid htb
    have HR : Hid (essL v.data.toList = none) := by
      show _ = _
      rw [HE.out, typeL, HSP.out]
      cases g
      · rfl
      · simp [HTB.out]
    go_wp2
    go_ret2
    exact ⟨ret_any (essV_no HR.out).symm, HB2.out⟩
  have HTB := Lib.hid htb
  have HG : Hid (g = true) := by
    show _ = _
    cases g
    · have h1 := HN.out rfl
      rw [h1] at htb
      simp [Lk.tokL] at htb
    · rfl
  clear htb
  have HR : Hid (essL v.data.toList = some (Lk.lower t.data.toList)) := by
    show _ = _
    rw [HE.out, typeL, HSP.out, HG.out]
    simp [HTA.out, HTB.out]
  go_wp2_with fail
  refine (Lower_any t _ (by omega)).mono ?_
  rintro e w3 ⟨rfl, hb3⟩
  have HB3 : Hid (Below w.heap.size w w3) := HB2.out.trans (hb3.mono HB2.out.size)
  clear hb3
  go_wp2
  go_ret2
  exact ⟨ret_any (essV_yes HR.out).symm, HB3.out⟩

theorem form_cases (v : List UInt8) : formL v = (((mk (essT v)).toList == formT1) || ((mk (essT v)).toList == formT2) || ((mk (essT v)).toList == formT3)) := by
  unfold formL; rw [ByteArray.toList_eq, mk_data]

set_option maxHeartbeats 1000000 in
theorem isFormType_any (v : ByteArray) (w : World) (hs : v.size ≤ maxLen) :
    Calls Tryz.prog 191 #[.string v] w fun e w' => e = .returned (.bool (formL v.data.toList)) ∧ Below w.heap.size w w' := by
  have HF := Lib.hid (form_cases v.data.toList)
  obtain ⟨t, ht⟩ : ∃ t : ByteArray, t = mk (essT v.data.toList) := ⟨_, rfl⟩
  rw [← ht] at HF
  have HE : Hid (essV v.data.toList = .tuple #[.string t, .bool (essL v.data.toList).isSome]) := by show _ = _; rw [ht]; rfl
  clear ht
  go_enter Tryz.func191, Tryz.ntmps191
  go_wp2_with fail
  refine (Essence_any v _ hs).mono ?_
  rintro e w1 ⟨rfl, hb⟩
  have HB := Lib.hid hb
  rw [HE.out]
  clear hb
  unfold formT1 formT2 formT3 at HF
  cases h1 : t.toList == [97, 112, 112, 108, 105, 99, 97, 116, 105, 111, 110, 47, 120, 45, 119, 119, 119, 45, 102, 111, 114, 109, 45, 117, 114, 108, 101, 110, 99, 111, 100, 101, 100]
  case true =>
    have H1 := Lib.hid h1
    go_wp2
    go_ret
    exact ⟨ret_bool (by rw [HF.out, H1.out]; rfl), HB.out⟩
  have H1 := Lib.hid h1
  cases h2 : t.toList == [109, 117, 108, 116, 105, 112, 97, 114, 116, 47, 102, 111, 114, 109, 45, 100, 97, 116, 97]
  case true =>
    have H2 := Lib.hid h2
    go_wp2
    go_ret
    exact ⟨ret_bool (by rw [HF.out, H1.out, H2.out]; rfl), HB.out⟩
  have H2 := Lib.hid h2
  cases h3 : t.toList == [116, 101, 120, 116, 47, 112, 108, 97, 105, 110]
  case true =>
    have H3 := Lib.hid h3
    go_wp2
    go_ret
    exact ⟨ret_bool (by rw [HF.out, H1.out, H2.out, H3.out]; rfl), HB.out⟩
  have H3 := Lib.hid h3
  go_wp2
  go_ret
  exact ⟨ret_bool (by rw [HF.out, H1.out, H2.out, H3.out]; rfl), HB.out⟩
end Go.Proofs.YtlkneapidmdpbaaGreatDoor

namespace Go.Proofs.YtlkneapidmdpbaaGreatDoor
open Go.RowKit

theorem CutPrefix_any (s p : ByteArray) (w : World) :
    Calls Tryz.prog 212 #[.string s, .string p] w fun e w' => e = .returned (.tuple #[.string (mk (Lib.trimPrefix s.data.toList p.data.toList)), .bool (Lib.hasPrefix s.data.toList p.data.toList)]) ∧ w = w' :=
  (Tryz.strings_CutPrefix s p w).mono fun _ _ h => ⟨h.1, h.2.symm⟩
theorem take_pre (v : List UInt8) : (v.take 6 == bytesT) = Lib.hasPrefix v bytesT := by
  rw [← Lib.hasPrefix_of_take]
  by_cases h : bytesT.length ≤ v.length
  · rw [decide_eq_true h, Bool.true_and]; rfl
  · rw [decide_eq_false h, Bool.false_and, beq_eq_false_iff_ne]
    intro e
    have := congrArg List.length e
    simp [bytesT] at this h
    omega
theorem range_no {v : List UInt8} (h : Lib.hasPrefix v bytesT = false) : rangeL v = false := by
  unfold rangeL; rw [take_pre, h]; rfl
theorem range_pre {v : List UInt8} (h : Lib.hasPrefix v bytesT = true) : rangeL v = spanL (Lib.trimPrefix v bytesT) := by
  unfold rangeL Lib.trimPrefix; rw [take_pre, h]; rfl

set_option maxHeartbeats 1000000 in
theorem Range_any (v : ByteArray) (w : World) (hs : v.size ≤ maxLen) :
    Calls Tryz.prog 192 #[.string v] w fun e w' => e = .returned (.bool (rangeL v.data.toList)) ∧ ∃ n, w' = w.drewN n := by
  obtain ⟨t, ht⟩ : ∃ t : ByteArray, t = mk (Lib.trimPrefix v.data.toList (⟨#[98, 121, 116, 101, 115, 61]⟩ : ByteArray).data.toList) := ⟨_, rfl⟩
  have htz : t.size ≤ maxLen := by
    rw [ht, mk_size]
    have := Lib.trimPrefix_le v.data.toList (⟨#[98, 121, 116, 101, 115, 61]⟩ : ByteArray).data.toList
    simp at this ⊢; omega
  have HT := Lib.hid ht
  have HTD : Hid (t.data.toList = Lib.trimPrefix v.data.toList bytesT) := by show _ = _; rw [ht, mk_data]; rfl
  clear ht
  cases hp : Lib.hasPrefix v.data.toList (⟨#[98, 121, 116, 101, 115, 61]⟩ : ByteArray).data.toList
  · have HP := Lib.hid hp
    have HR : Hid (rangeL v.data.toList = false) := range_no hp
    clear hp
    go_enter Tryz.func192, Tryz.ntmps192
    go_wp2_with fail
    refine (CutPrefix_any _ _ _).mono ?_
    rintro e w' ⟨rfl, rfl⟩
    rw [← HT.out, HP.out]
    go_wp2
    go_ret
    exact ⟨ret_bool HR.out.symm, 0, rfl⟩
  have HP := Lib.hid hp
  have HR : Hid (rangeL v.data.toList = spanL t.data.toList) := by show _ = _; rw [HTD.out]; exact range_pre hp
  clear hp
  obtain ⟨p, q, f, hcut, hpz, hqz, hsp, hn⟩ := Cut1_any t 45 w htz
  have HC := Lib.hid hcut
  have HSP := Lib.hid hsp
  clear hcut hsp hn
  cases f
  · have HE : Hid (rangeL v.data.toList = false) := by show _ = _; rw [HR.out, spanL, HSP.out]; rfl
    go_enter Tryz.func192, Tryz.ntmps192
    go_wp2_with fail
    refine (CutPrefix_any _ _ _).mono ?_
    rintro e w' ⟨rfl, rfl⟩
    rw [← HT.out, HP.out]
    go_wp2_with fail
    refine HC.out.mono ?_
    rintro e w1 ⟨rfl, hw1⟩
    go_wp2
    go_ret
    exact ⟨ret_bool HE.out.symm, hw1⟩
  have HE : Hid (rangeL v.data.toList = (Lk.digL p.data.toList && (q.data.toList.isEmpty || (Lk.digL q.data.toList && decide (Lk.sat (Lk.valL p.data.toList) ≤ Lk.sat (Lk.valL q.data.toList)))))) := by
    show _ = _; rw [HR.out, spanL, HSP.out]; rfl
  cases hdp : Lk.digL p.data.toList
  · have HDP := Lib.hid (digRes_f hdp)
    have HX : Hid (rangeL v.data.toList = false) := by show _ = _; rw [HE.out, hdp]; rfl
    clear hdp
    go_enter Tryz.func192, Tryz.ntmps192
    go_wp2_with fail
    refine (CutPrefix_any _ _ _).mono ?_
    rintro e w' ⟨rfl, rfl⟩
    rw [← HT.out, HP.out]
    go_wp2_with fail
    refine HC.out.mono ?_
    rintro e w1 ⟨rfl, hw1⟩
    go_wp2_with fail
    refine (Digits_any p _ (by omega)).mono ?_
    rintro e w' ⟨rfl, rfl⟩
    rw [HDP.out]
    go_wp2
    go_ret
    exact ⟨ret_bool HX.out.symm, hw1⟩
  have HDP := Lib.hid (digRes_t hdp)
  have HY : Hid (rangeL v.data.toList = (q.data.toList.isEmpty || (Lk.digL q.data.toList && decide (Lk.sat (Lk.valL p.data.toList) ≤ Lk.sat (Lk.valL q.data.toList))))) := by show _ = _; rw [HE.out, hdp]; rfl
  clear hdp
  have hpb := Lk.sat_le (Lk.valL p.data.toList)
  have hqb := Lk.sat_le (Lk.valL q.data.toList)
  generalize Lk.sat (Lk.valL p.data.toList) = P at *
  cases hdq : Lk.digL q.data.toList
  · have HDQ := Lib.hid (digRes_f hdq)
    have HX : Hid (rangeL v.data.toList = (q.toList == [])) := by
      show _ = _
      rw [HY.out, hdq, ByteArray.toList_eq]
      cases q.data.toList <;> rfl
    clear hdq
    go_enter Tryz.func192, Tryz.ntmps192
    go_wp2_with fail
    refine (CutPrefix_any _ _ _).mono ?_
    rintro e w' ⟨rfl, rfl⟩
    rw [← HT.out, HP.out]
    go_wp2_with fail
    refine HC.out.mono ?_
    rintro e w1 ⟨rfl, hw1⟩
    go_wp2_with fail
    refine (Digits_any p _ (by omega)).mono ?_
    rintro e w' ⟨rfl, rfl⟩
    rw [HDP.out]
    go_wp2_with fail
    refine (Digits_any q _ (by omega)).mono ?_
    rintro e w' ⟨rfl, rfl⟩
    rw [HDQ.out]
    cases hq0 : q.toList == []
    · have HQ0 := Lib.hid hq0
      go_wp2
      go_ret
      exact ⟨ret_bool (by rw [HX.out, HQ0.out]), hw1⟩
    · have HQ0 := Lib.hid hq0
      go_wp2
      go_ret
      exact ⟨ret_bool (by rw [HX.out, HQ0.out]), hw1⟩
  have HDQ := Lib.hid (digRes_t hdq)
  have HQ0 : Hid ((q.toList == []) = false) := by
    show _ = _
    rw [ByteArray.toList_eq]
    have := digL_ne hdq
    cases hh : q.data.toList with
    | nil => exact absurd hh this
    | cons x r => rfl
  have HX : Hid (rangeL v.data.toList = decide (P ≤ Lk.sat (Lk.valL q.data.toList))) := by
    show _ = _
    have := digL_ne hdq
    rw [HY.out, hdq]
    cases hh : q.data.toList with
    | nil => exact absurd hh this
    | cons x r => rfl
  clear hdq
  generalize Lk.sat (Lk.valL q.data.toList) = Q at *
  unfold Lk.M64 at hpb hqb
  go_enter Tryz.func192, Tryz.ntmps192
  go_wp2_with fail
  refine (CutPrefix_any _ _ _).mono ?_
  rintro e w' ⟨rfl, rfl⟩
  rw [← HT.out, HP.out]
  go_wp2_with fail
  refine HC.out.mono ?_
  rintro e w1 ⟨rfl, hw1⟩
  go_wp2_with fail
  refine (Digits_any p _ (by omega)).mono ?_
  rintro e w' ⟨rfl, rfl⟩
  rw [HDP.out]
  go_wp2_with fail
  refine (Digits_any q _ (by omega)).mono ?_
  rintro e w' ⟨rfl, rfl⟩
  rw [HDQ.out]
  have hq0 := HQ0.out
  by_cases hpq : P ≤ Q
  · have hpq' : (P : Int) ≤ (Q : Int) := by omega
    go_wp2
    go_ret
    exact ⟨ret_bool (by rw [HX.out, decide_eq_true hpq]), hw1⟩
  · have hpq' : ¬ (P : Int) ≤ (Q : Int) := by omega
    go_wp2
    go_ret
    exact ⟨ret_bool (by rw [HX.out, decide_eq_false hpq]), hw1⟩

theorem kind_eq (a : ByteArray) (v : List UInt8) : kindOk a.data.toList v = if (a.toList == acceptT) = true then bytesOk v else if (a.toList == alangT) = true then langsOk v else if (a.toList == clangT) = true then langsOk v
    else if (a.toList == ctypeT) = true then bytesOk v && formL v else if (a.toList == rangeT) = true then rangeL v else false := by
  unfold kindOk
  rw [ByteArray.toList_eq]
  simp only [beq_iff_eq]

theorem head_at (w : World) (x1 x2 : ByteArray) : (w.alloc (Obj.cells #[.string x1, .string x2] 57)).cell? ⟨w.heap.size, 0, none⟩ = some (.string x1) := by simp

set_option maxHeartbeats 2000000 in
theorem Header_any (x1 x2 : ByteArray) (w : World) (h1 : x1.size ≤ maxLen) (h2 : x2.size ≤ maxLen) :
    Calls Tryz.prog 154 #[.agg #[.string x1, .string x2]] w fun e w' => e = .returned (.bool (safeH (hd (x1, x2)))) ∧ Below w.heap.size w w' := by
  obtain ⟨t, ht⟩ : ∃ t : ByteArray, t = ⟨(Lk.trimL x2.data.toList).toArray⟩ := ⟨_, rfl⟩
  obtain ⟨a, ha⟩ : ∃ a : ByteArray, a = ⟨(Lk.lower x1.data.toList).toArray⟩ := ⟨_, rfl⟩
  have htz : t.size = (Lk.trimL x2.data.toList).length := by rw [ht]; show (Lk.trimL x2.data.toList).toArray.size = _; simp
  have htm : t.size ≤ maxLen := by have := Lk.trim_len x2.data.toList; simp at this; omega
  have HTD : Hid (Lk.trimL x2.data.toList = t.data.toList) := by show _ = _; rw [ht]
  have HAD : Hid (Lk.lower x1.data.toList = a.data.toList) := by show _ = _; rw [ha]
  have HT := Lib.hid ht
  have HA := Lib.hid ha
  clear ha
  by_cases h128 : 128 < t.size
  · have HE : Hid (safeH (hd (x1, x2)) = false) := safe_long (h := hd (x1, x2)) (by show 128 < (Lk.trimL x2.data.toList).length; omega)
    clear htz ht
    go_enter Tryz.func154, Tryz.ntmps154
    go_wp2_with fail
    refine (Trim_any x2 _ h2).mono ?_
    rintro e w1 ⟨rfl, hw⟩
    rw [← HT.out]
    have HB : Hid (Below w.heap.size w w1) := by rw [← hw]; exact (Below.refl _ _).alloc (Nat.le_refl _) _
    clear hw
    go_wp2
    go_ret
    exact ⟨ret_bool HE.out.symm, HB.out⟩
  have HE : Hid (safeH (hd (x1, x2)) = kindOk a.data.toList t.data.toList) := by
    show _ = _
    rw [safe_short (h := hd (x1, x2)) (by show ¬ 128 < (Lk.trimL x2.data.toList).length; omega), ← HTD.out, ← HAD.out]; rfl
  clear htz ht
  have HK := Lib.hid (kind_eq a t.data.toList)
  unfold acceptT alangT clangT ctypeT rangeT at HK
  go_enter Tryz.func154, Tryz.ntmps154
  go_wp2_with fail
  refine (Trim_any x2 _ h2).mono ?_
  rintro e w1 ⟨rfl, hw⟩
  rw [← HT.out]
  have c1 : w1.cell? ⟨w.heap.size, 0, none⟩ = some (.string x1) := by rw [← hw]; simp
  have HB : Hid (Below w.heap.size w w1) := by rw [← hw]; exact (Below.refl _ _).alloc (Nat.le_refl _) _
  clear hw
  go_wp2_with fail
  refine (Lower_any x1 _ h1).mono ?_
  rintro e w2 ⟨rfl, hb2⟩
  rw [← HA.out]
  have HB2 : Hid (Below w.heap.size w w2) := HB.out.trans (hb2.mono HB.out.size)
  clear hb2 c1
  cases q1 : a.toList == [97, 99, 99, 101, 112, 116]
  case true =>
    have Q1 := Lib.hid q1
    go_wp2_with fail
    refine (allB_any t _ htm).mono ?_
    rintro e w' ⟨rfl, rfl⟩
    go_wp2
    go_ret
    exact ⟨ret_bool (by rw [HE.out, HK.out, Q1.out]; rfl), HB2.out⟩
  have Q1 := Lib.hid q1
  cases q2 : a.toList == [97, 99, 99, 101, 112, 116, 45, 108, 97, 110, 103, 117, 97, 103, 101]
  case true =>
    have Q2 := Lib.hid q2
    go_wp2_with fail
    refine (allL_any t _ htm).mono ?_
    rintro e w' ⟨rfl, rfl⟩
    go_wp2
    go_ret
    exact ⟨ret_bool (by rw [HE.out, HK.out, Q1.out, Q2.out]; rfl), HB2.out⟩
  have Q2 := Lib.hid q2
  cases q3 : a.toList == [99, 111, 110, 116, 101, 110, 116, 45, 108, 97, 110, 103, 117, 97, 103, 101]
  case true =>
    have Q3 := Lib.hid q3
    go_wp2_with fail
    refine (allL_any t _ htm).mono ?_
    rintro e w' ⟨rfl, rfl⟩
    go_wp2
    go_ret
    exact ⟨ret_bool (by rw [HE.out, HK.out, Q1.out, Q2.out, Q3.out]; rfl), HB2.out⟩
  have Q3 := Lib.hid q3
  cases q4 : a.toList == [99, 111, 110, 116, 101, 110, 116, 45, 116, 121, 112, 101]
  case true =>
    have Q4 := Lib.hid q4
    go_wp2_with fail
    refine (allB_any t _ htm).mono ?_
    rintro e w' ⟨rfl, rfl⟩
    cases hall : bytesOk t.data.toList
    · have HALL := Lib.hid hall
      go_wp2
      go_ret
      exact ⟨ret_bool (by rw [HE.out, HK.out, Q1.out, Q2.out, Q3.out, Q4.out, HALL.out]; rfl), HB2.out⟩
    · have HALL := Lib.hid hall
      go_wp2_with fail
      refine (isFormType_any t _ htm).mono ?_
      rintro e w3 ⟨rfl, hb3⟩
      have HB3 : Hid (Below w.heap.size w w3) := HB2.out.trans (hb3.mono HB2.out.size)
      clear hb3
      go_wp2
      go_ret
      exact ⟨ret_bool (by rw [HE.out, HK.out, Q1.out, Q2.out, Q3.out, Q4.out, HALL.out]; rfl), HB3.out⟩
  have Q4 := Lib.hid q4
  cases q5 : a.toList == [114, 97, 110, 103, 101]
  case true =>
    have Q5 := Lib.hid q5
    go_wp2_with fail
    refine (Range_any t _ htm).mono ?_
    rintro e w3 ⟨rfl, n, hw3⟩
    have HB3 : Hid (Below w.heap.size w w3) := by rw [hw3]; exact below_drewN HB2.out _
    clear hw3
    go_wp2
    go_ret
    exact ⟨ret_bool (by rw [HE.out, HK.out, Q1.out, Q2.out, Q3.out, Q4.out, Q5.out]; rfl), HB3.out⟩
  have Q5 := Lib.hid q5
  go_wp2
  go_ret
  exact ⟨ret_bool (by rw [HE.out, HK.out, Q1.out, Q2.out, Q3.out, Q4.out, Q5.out]; rfl), HB2.out⟩
end Go.Proofs.YtlkneapidmdpbaaGreatDoor

namespace Go.Proofs.YtlkneapidmdpbaaGreatDoor
open Go.RowKit

set_option maxRecDepth 100000 in
set_option maxHeartbeats 4000000 in
theorem Names7_any (A : Option Addr) (len c B : Nat) (xs : List (ByteArray × ByteArray)) (w : World) (hlen : len = xs.length) (hB : B ≤ w.heap.size) (hx : PRow w B A xs) (hsm : Sm (xs.map hd)) :
    Calls Tryz.prog 102 #[.slice A len c] w fun e w' => ∃ v, e = .returned v ∧ sown w' w.heap.size v (safeNames (xs.map hd)) ∧ Below w.heap.size w w' := by
  subst hlen
  obtain ⟨hl, hs⟩ := hsm.sizes
  have HX := Lib.hid hx
  have HS := Lib.hid hs
  clear hx hs hsm
  go_enter Tryz.func102, Tryz.ntmps102
  go_wp2_with fail
  go_loopw [3, 4, 5, 11] (fun v u n i wr => ∃ (k : Nat) (dl : List Hd), k ≤ xs.length ∧ i = .int .i64 k ∧ n = .int .i64 (safeSum dl : Int) ∧ dl = (xs.take k).map hd ∧ Two wr w.heap.size v u (lowsL dl) (askedL dl) ∧ Below w.heap.size w wr) (fun _ _ _ i _ => xs.length - (intOf i).toNat)
  case atStart => exact ⟨0, [], Nat.zero_le _, rfl, rfl, rfl, Two.none_ _ _, Below.refl _ _⟩
  case round =>
    obtain ⟨k, dl, hk, rfl, rfl, hdl, hr, hb⟩ := hrel
    have hdk : dl.length = k := by rw [hdl]; simp; omega
    have hsk : safeSum dl ≤ 128 * k := by have := sum_bd dl; rw [hdk] at this; exact this
    have HLL : Hid ((lowsL dl).length = k) := by show _ = _; rw [lows_len, hdk]
    have HAL : Hid ((askedL dl).length ≤ k) := by show _ ≤ _; have := asked_len dl; omega
    have HDL := Lib.hid hdl
    have HRR := Lib.hid hr
    have HBB := Lib.hid hb
    clear hr hb hdl hdk
    by_cases hlt : k < xs.length
    · obtain ⟨ad, hA, _, hc1, hc2⟩ := ((HX.out.mono hB).below HBB.out) k xs[k] (List.getElem?_eq_getElem hlt)
      have hz := HS.out xs[k] (List.getElem_mem hlt)
      have HD := Lib.hid (take_hd (List.take_succ_eq_append_getElem hlt))
      generalize xs[k] = x at *
      obtain ⟨x1, x2⟩ := x
      subst hA
      obtain ⟨a, ha⟩ : ∃ a : ByteArray, a = ⟨(Lk.lower x1.data.toList).toArray⟩ := ⟨_, rfl⟩
      have HLA := Lib.hid ha
      have HAD : Hid (a.data.toList = Lk.lower (hd (x1, x2)).1) := by show _ = _; rw [ha]; rfl
      obtain ⟨t, ht⟩ : ∃ t : ByteArray, t = ⟨(Lk.trimL x2.data.toList).toArray⟩ := ⟨_, rfl⟩
      have HTA := Lib.hid ht
      have HTZ : Hid (t.size = (Lk.trimL (hd (x1, x2)).2).length) := by show _ = _; rw [ht]; show (Lk.trimL x2.data.toList).toArray.size = _; simp [hd]
      have htz : t.size ≤ 100000 := by
        have h1 := HTZ.out
        have h2 := Lk.trim_len x2.data.toList
        have h3 := hz.2
        simp [hd] at h1 h2 h3; omega
      clear ha ht
      go_wp2_with fail
      refine (Lower_any x1 _ (by unfold maxLen; omega)).mono ?_
      rintro e w3 ⟨rfl, hb3⟩
      rw [← HLA.out]
      have hb4 : Below wr.heap.size wr w3 := ((Below.refl _ _).alloc (Nat.le_refl _) _).trans (hb3.mono (by simp))
      have hh0 : HdAt (wr.alloc (Obj.cells #[.string x1, .string x2] 57)) wr.heap.size x1 x2 := HdAt.new wr x1 x2 _
      have HH3 : Hid (HdAt w3 wr.heap.size x1 x2) := hh0.below hb3 hh0.lt
      have HR3 : Hid (Two w3 w.heap.size u3 u4 (lowsL dl) (askedL dl)) := HRR.out.below hb4
      have HB3 : Hid (Below w.heap.size w w3) := HBB.out.trans (hb4.mono HBB.out.size)
      have HGE : Hid (w.heap.size ≤ wr.heap.size) := HBB.out.size
      clear hb3 hb4 hc1 hc2 hh0
      go_wp2_with (at_builtin; refine wpList_append_beside rfl (.tmp 18) (.tmp 20) rfl w.heap.size u3 u4 (lowsL dl) (askedL dl) rfl (HR3.out.below ((Below.refl _ _).alloc (Nat.le_refl _) _)) ⟨w3.heap.size, 0, none⟩ a rfl ?c1 ?c2 w (HB3.out.alloc HB3.out.size _) ?c3 ?_)
      case c1 => simp
      case c2 => have := HLL.out; omega
      case c3 => have := HB3.out.size; simp; omega
      intro v3 w4 hr4 hb4 hg4
      have HR4 := Lib.hid hr4
      have HB4 := Lib.hid hb4
      have hh3' : HdAt (w3.alloc (Obj.cells #[.string a] 9)) wr.heap.size x1 x2 := HH3.out.below ((Below.refl _ _).alloc (Nat.le_refl _) _) HH3.out.lt
      have hh4 : HdAt w4 wr.heap.size x1 x2 := hh3'.grown hg4 (HRR.out.new (Nat.le_refl _))
      have HH4 := Lib.hid hh4
      have HNV : Hid (Apart v3 u4) := hr4.2.2
      clear hr4 hb4 hg4 hh3'
      obtain ⟨e1, e2⟩ := hh4
      go_wp2_with fail
      refine (Header_any x1 x2 _ (by unfold maxLen; omega) (by unfold maxLen; omega)).mono ?_
      rintro e w5 ⟨rfl, hb5⟩
      have HH5 : Hid (HdAt w5 wr.heap.size x1 x2) := HH4.out.below hb5 HH4.out.lt
      have HR5 : Hid (Two w5 w.heap.size v3 u4 (lowsL dl ++ [a.data.toList]) (askedL dl)) := HR4.out.below hb5
      have HB5 : Hid (Below w.heap.size w w5) := HB4.out.trans (hb5.mono HB4.out.size)
      clear hb5 e1 e2
      have HL6 : Hid (lowsL (dl ++ [hd (x1, x2)]) = lowsL dl ++ [a.data.toList]) := by show _ = _; rw [lows_append, lows_one, HAD.out]
      cases hsf : safeH (hd (x1, x2))
      · have HSF := Lib.hid hsf
        have HA6 : Hid (askedL (dl ++ [hd (x1, x2)]) = askedL dl ++ [a.data.toList]) := by show _ = _; rw [asked_append, asked_no hsf, HAD.out]
        have HS6 : Hid (safeSum (dl ++ [hd (x1, x2)]) = safeSum dl) := by show _ = _; rw [sum_append, sum_no hsf, Nat.add_zero]
        clear hsf
        go_wp2_with (at_builtin; refine wpList_append_beside rfl (.tmp 30) (.tmp 32) rfl w.heap.size u4 v3 (askedL dl) (lowsL dl ++ [a.data.toList]) rfl (HR5.out.symm.below ((Below.refl _ _).alloc (Nat.le_refl _) _)) ⟨w5.heap.size, 0, none⟩ a rfl ?d1 ?d2 w (HB5.out.alloc HB5.out.size _) ?d3 ?_)
        case d1 => simp
        case d2 => have := HAL.out; omega
        case d3 => have := HB5.out.size; simp; omega
        intro v6 w6 hr6 hb6 _
        have HR6 := Lib.hid hr6.symm
        have HB6 := Lib.hid hb6
        clear hr6 hb6
        go_wp2
        go_roundw
        case rel => exact ⟨k + 1, dl ++ [hd (x1, x2)], by omega, by go_num, by rw [HS6.out], by rw [HD.out, HDL.out], by rw [HL6.out, HA6.out]; exact HR6.out, HB6.out⟩
        case measure => simp [intOf]; omega
      · have HSF := Lib.hid hsf
        have HA6 : Hid (askedL (dl ++ [hd (x1, x2)]) = askedL dl) := by show _ = _; rw [asked_append, asked_yes hsf, List.append_nil]
        have HS6 : Hid (safeSum (dl ++ [hd (x1, x2)]) = safeSum dl + t.size) := by show _ = _; rw [sum_append, sum_yes hsf, HTZ.out]
        clear hsf
        obtain ⟨e1, e2⟩ := HH5.out
        go_wp2_with fail
        refine (Trim_any x2 _ (by unfold maxLen; omega)).mono ?_
        rintro e w' ⟨rfl, rfl⟩
        rw [← HTA.out]
        go_wp2
        go_roundw
        case rel => exact ⟨k + 1, dl ++ [hd (x1, x2)], by omega, by go_num, by rw [HS6.out]; go_num, by rw [HD.out, HDL.out], by rw [HL6.out, HA6.out]; exact HR5.out, HB5.out⟩
        case measure => simp [intOf]; omega
    · obtain rfl : k = xs.length := by omega
      have HE : Hid (dl = xs.map hd) := by show _ = _; rw [HDL.out, List.take_length]
      have hde := HE.out
      subst hde
      obtain ⟨sm, hsm⟩ : ∃ sm, sm = safeSum (xs.map hd) := ⟨_, rfl⟩
      rw [← hsm] at hsk ⊢
      have HSM := Lib.hid hsm
      clear hsm
      by_cases hsum : 1024 < sm
      · have hsum2 : (1024 : Int) < (sm : Int) := by omega
        have HNM : Hid (Lib.compact (sortT (lowsL (xs.map hd))) = safeNames (xs.map hd)) := by
          show _ = _; rw [compact_sort, safe_many (by rw [← HSM.out]; exact hsum)]; rfl
        go_wp2_with fail
        refine (Sort_own w _ w.heap.size u3 (lowsL (xs.map hd)) HRR.out.1 HBB.out HBB.out.size (by have := HLL.out; omega)).mono ?_
        rintro e w3 ⟨rfl, hr3, hb3⟩
        have HR3 := Lib.hid hr3
        have HB3 := Lib.hid hb3
        clear hr3 hb3
        go_wp2_with fail
        refine (Compact_own w _ w.heap.size u3 _ HR3.out HB3.out (by rw [sort_len]; have := HLL.out; omega) (compact_len _)).mono ?_
        rintro e w4 ⟨v, rfl, hr4, hb4⟩
        rw [HNM.out] at hr4
        have HR4 := Lib.hid hr4
        have HB4 := Lib.hid hb4
        clear hr4 hb4
        go_wp2
        go_ret
        exact ⟨_, rfl, HR4.out, HB4.out⟩
      · have hsum2 : ¬ (1024 : Int) < (sm : Int) := by omega
        have HNM : Hid (Lib.compact (sortT (askedL (xs.map hd))) = safeNames (xs.map hd)) := by
          show _ = _; rw [compact_sort, safe_few (by rw [← HSM.out]; exact hsum)]
        go_wp2_with fail
        refine (Sort_own w _ w.heap.size u4 (askedL (xs.map hd)) HRR.out.2.1 HBB.out HBB.out.size (by have := HAL.out; omega)).mono ?_
        rintro e w3 ⟨rfl, hr3, hb3⟩
        have HR3 := Lib.hid hr3
        have HB3 := Lib.hid hb3
        clear hr3 hb3
        go_wp2_with fail
        refine (Compact_own w _ w.heap.size u4 _ HR3.out HB3.out (by rw [sort_len]; have := HAL.out; omega) (compact_len _)).mono ?_
        rintro e w4 ⟨v, rfl, hr4, hb4⟩
        rw [HNM.out] at hr4
        have HR4 := Lib.hid hr4
        have HB4 := Lib.hid hb4
        clear hr4 hb4
        go_wp2
        go_ret
        exact ⟨_, rfl, HR4.out, HB4.out⟩
end Go.Proofs.YtlkneapidmdpbaaGreatDoor

namespace Go.Proofs.YtlkneapidmdpbaaGreatDoor
open Go.RowKit

theorem aw7_0 : essL [32, 84, 101, 120, 116, 47, 80, 108, 97, 105, 110, 32, 59, 120] = some [116, 101, 120, 116, 47, 112, 108, 97, 105, 110] := by decide
theorem aw7_1 : essV (⟨#[32, 84, 101, 120, 116, 47, 80, 108, 97, 105, 110, 32, 59, 120]⟩ : ByteArray).data.toList = .tuple #[.string ⟨#[116, 101, 120, 116, 47, 112, 108, 97, 105, 110]⟩, .bool true] := essV_yes aw7_0
theorem aw7_2 : rangeL (⟨#[98, 121, 116, 101, 115, 61, 53, 45]⟩ : ByteArray).data.toList = true := by decide
theorem aw7_3 : rangeL (⟨#[98, 121, 116, 101, 115, 61, 53, 45, 52]⟩ : ByteArray).data.toList = false := by decide
theorem aw7_4 : rangeL (⟨#[98, 121, 116, 101, 115, 61, 45, 52]⟩ : ByteArray).data.toList = false := by decide
theorem aw7_5 : safeH (hd (⟨#[120]⟩, ⟨#[]⟩)) = false := by decide

theorem rep_ok (n : Nat) (c : UInt8) (p : UInt8 → Bool) (h : p c = true) : (List.replicate n c).all p = true := by
  rw [List.all_eq_true]
  intro x hx
  obtain rfl := (List.mem_replicate.1 hx).2
  exact h
theorem rep_trim (n : Nat) (c : UInt8) (h : Lk.sp c = false) : Lk.trimL (List.replicate n c) = List.replicate n c := by
  apply Lk.trim_of_tight
  cases n with
  | zero => exact .inl rfl
  | succ n => exact .inr ⟨⟨c, List.replicate n c, rfl, h⟩, ⟨c, List.replicate n c, List.replicate_succ', h⟩⟩
theorem low_nat (x : Int) (n : Nat) (hn : 1 ≤ n) : ∃ k : Nat, lowV x (n : Int) = (k : Int) ∧ k < n := by
  have := lowV_bd x (n := (n : Int)) (by omega)
  exact ⟨(lowV x n).toNat, by omega, by omega⟩
end Go.Proofs.YtlkneapidmdpbaaGreatDoor
