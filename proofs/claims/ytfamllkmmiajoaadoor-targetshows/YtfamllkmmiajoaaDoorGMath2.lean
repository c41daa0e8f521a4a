/-
  More of the plain mathematics of layer 3: what is told is read back; numbers as ports. It speaks of no program. No conditions.
-/
import Derived.Test.YtfamllkmmiajoaaDoorGMath
namespace Go.Proofs.YtfamllkmmiajoaaDoor

theorem numF_from (n : Nat) (f : Nat) (h : n < 10 ^ (f + 1)) : ∀ k, numF f n = numF (f + k) n
  | 0 => rfl
  | k + 1 => by
    rw [numF_from n f h k, Nat.add_succ]
    refine numF_more (f + k) n (Nat.lt_of_lt_of_le h (Nat.pow_le_pow_right (by omega) (by omega)))
theorem numL_len5 {n : Nat} (h : n ≤ 65535) : (numL n).length ≤ 5 := by
  have e : numL n = numF 4 n := (numF_from n 4 (by omega) 21).symm
  rw [e]; exact (numF_ok 4 n (by omega)).2.2
theorem digL_ne {l : List UInt8} (h : Lk.digL l = true) : l ≠ [] := by
  rintro rfl; simp [Lk.digL] at h
theorem numL_ne {n : Nat} (h : n ≤ Lk.M64) : numL n ≠ [] := digL_ne (numL_ok h).1
theorem ofNat48 {k : Nat} (h : k ≤ 9) (h0 : 1 ≤ k) : UInt8.ofNat (48 + k) ≠ 48 := by
  intro e
  have := congrArg UInt8.toNat e
  rw [dig_byte h] at this
  simp at this
  omega
theorem numL_head (n : Nat) : 1 ≤ n → n ≤ Lk.M64 → (numL n).head? ≠ some 48 := by
  induction n using Nat.strongRecOn with
  | _ n ih =>
    intro h1 hm
    by_cases h9 : n ≤ 9
    · rw [numL_small h9]
      simp only [List.head?_cons, ne_eq, Option.some.injEq]
      exact ofNat48 h9 h1
    · have hm' : n / 10 ≤ Lk.M64 := by unfold Lk.M64 at *; omega
      rw [numL_big h9 (by unfold Lk.M64 at hm; omega)]
      cases hl : numL (n / 10) with
      | nil => exact absurd hl (numL_ne hm')
      | cons b r =>
        have := ih (n / 10) (by omega) (by omega) hm'
        rw [hl] at this
        simpa using this
theorem port_num {n : Nat} (h1 : 1 ≤ n) (h2 : n ≤ 65535) : portL (numL n) = n := by
  have hm : n ≤ Lk.M64 := by unfold Lk.M64; omega
  obtain ⟨a, b, _⟩ := numL_ok hm
  rw [portL, if_neg (by rintro (h | h); have := numL_len5 h2; omega; exact numL_head n h1 hm h), if_pos a, b]
theorem port_num_or {n : Nat} (h : n ≤ Lk.M64) : portL (numL n) = 0 ∨ portL (numL n) = n := by
  obtain ⟨a, b, _⟩ := numL_ok h
  rw [portL]
  split
  · exact .inl rfl
  · exact .inr b
theorem port_zero (l : List UInt8) (h : l.head? = some 48) : portL l = 0 := by rw [portL, if_pos (.inr h)]
theorem num_zero : numL 0 = [48] := by rw [numL_small (by omega)]; rfl

theorem val_cons_pos : ∀ (l : List UInt8) (b : UInt8), b.toNat - 48 ≥ 1 → 1 ≤ Lk.valL (b :: l) := by
  intro l b hb
  unfold Lk.valL
  simp only [List.foldl_cons]
  have : ∀ (l : List UInt8) (n : Nat), 1 ≤ n → 1 ≤ l.foldl (fun n b => 10 * n + (b.toNat - 48)) n := by
    intro l
    induction l with
    | nil => intro n h; exact h
    | cons x l ih => intro n h; exact ih _ (by show 1 ≤ 10 * n + (x.toNat - 48); omega)
  exact this l _ (by omega)
theorem dig_all {l : List UInt8} (h : Lk.digL l = true) : ∀ b ∈ l, 48 ≤ b.toNat ∧ b.toNat ≤ 57 := by
  intro b hb
  unfold Lk.digL at h
  rw [Bool.and_eq_true, List.all_eq_true] at h
  have := h.1 b hb
  simp [Lk.digB] at this
  omega
theorem dig_of {l : List UInt8} (h : ∀ b ∈ l, 48 ≤ b.toNat ∧ b.toNat ≤ 57) (hn : l ≠ []) : Lk.digL l = true := by
  unfold Lk.digL
  rw [Bool.and_eq_true, List.all_eq_true]
  refine ⟨fun b hb => ?_, by simpa using hn⟩
  have := h b hb
  simp [Lk.digB]
  omega
theorem val_lt : ∀ (l : List UInt8), Lk.digL l = true → Lk.valL l < 10 ^ l.length := by
  intro l
  have : ∀ (l : List UInt8) (n : Nat), (∀ b ∈ l, b.toNat ≤ 57) → l.foldl (fun n b => 10 * n + (b.toNat - 48)) n < (n + 1) * 10 ^ l.length := by
    intro l
    induction l with
    | nil => intro n _; simp
    | cons x l ih =>
      intro n h
      rw [List.foldl_cons]
      refine Nat.lt_of_lt_of_le (ih _ (fun b hb => h b (List.mem_cons_of_mem _ hb))) ?_
      have hx := h x (List.mem_cons_self ..)
      rw [List.length_cons, Nat.pow_succ, Nat.mul_comm (10 ^ l.length) 10, ← Nat.mul_assoc]
      exact Nat.mul_le_mul_right _ (by omega)
  intro h
  have := this l 0 (fun b hb => (dig_all h b hb).2)
  simpa [Lk.valL] using this
/-- digits without a nought ahead are the number's own -/
theorem num_val (l : List UInt8) : l.length ≤ 20 → Lk.digL l = true → l.head? ≠ some 48 → numL (Lk.valL l) = l := by
  induction hn : l.length generalizing l with
  | zero => intro _ h _; exact absurd (List.length_eq_zero_iff.1 hn) (digL_ne h)
  | succ n ih =>
    intro hl hd hh
    rcases List.eq_nil_or_concat l with rfl | ⟨r, b, rfl⟩
    · simp at hn
    rw [List.concat_eq_append] at *
    have hb := dig_all hd b (by simp)
    have eb : UInt8.ofNat (48 + (b.toNat - 48)) = b := by rw [show 48 + (b.toNat - 48) = b.toNat by omega]; exact UInt8.ofNat_toNat
    rw [Lk.val_snoc]
    have hrl : r.length = n := by simpa using hn
    cases hr : r with
    | nil =>
      have : Lk.valL [] = 0 := rfl
      rw [this, numL_small (by omega)]
      simp [eb]
    | cons c r' =>
      rw [← hr]
      have hd' : Lk.digL r = true := dig_of (fun x hx => dig_all hd x (by simp [hx])) (by rw [hr]; simp)
      have hh' : r.head? ≠ some 48 := by rw [hr] at hh ⊢; simpa using hh
      have hc := dig_all hd' c (by rw [hr]; simp)
      have hc48 : c ≠ 48 := by rw [hr] at hh'; simpa using hh'
      have hcn : c.toNat ≠ 48 := fun h => hc48 (UInt8.toNat_inj.1 (by simpa using h))
      have hv : 1 ≤ Lk.valL r := by rw [hr]; exact val_cons_pos r' c (by omega)
      have hlt := val_lt r hd'
      have hp : (10 : Nat) ^ r.length ≤ 10 ^ 20 := Nat.pow_le_pow_right (by omega) (by omega)
      rw [numL_big (by omega) (by omega), show (10 * Lk.valL r + (b.toNat - 48)) / 10 = Lk.valL r by omega, show (10 * Lk.valL r + (b.toNat - 48)) % 10 = b.toNat - 48 by omega, eb]
      rw [ih r hrl (by omega) hd' hh']

/-- texts that small letters leave alone -/
theorem lowU_dig {b : UInt8} (h : b.toNat < 65 ∨ 90 < b.toNat) : Lk.lowU b = b := by
  apply Lk.u8_eq
  rw [Lk.lowU_toNat, Lk.lowI_not (by omega)]
theorem lower_id {l : List UInt8} (h : ∀ b ∈ l, b.toNat < 65 ∨ 90 < b.toNat) : Lk.lower l = l := by
  unfold Lk.lower
  conv => rhs; rw [← List.map_id l]
  exact List.map_congr_left (fun b hb => lowU_dig (h b hb))
theorem lower_dig {l : List UInt8} (h : Lk.digL l = true) : Lk.lower l = l := lower_id (fun b hb => by have := dig_all h b hb; omega)
theorem dig_lower (l : List UInt8) : Lk.digL (Lk.lower l) = true → Lk.digL l = true := by
  intro h
  refine dig_of (fun b hb => ?_) (by rintro rfl; simp [Lk.digL, Lk.lower] at h)
  have := dig_all h (Lk.lowU b) (List.mem_map_of_mem hb)
  have e := Lk.lowU_toNat b
  rcases Int.lt_or_le (b.toNat : Int) 65 with h1 | h1
  · rw [Lk.lowI_not (.inl h1)] at e; omega
  · rcases Int.lt_or_le 90 (b.toNat : Int) with h2 | h2
    · rw [Lk.lowI_not (.inr h2)] at e; omega
    · rw [Lk.lowI_up h1 h2] at e; omega

/-- the reference's reading of a port -/
def okC (d : List UInt8) (most : Nat) : Bool := Lk.digL d && decide (d.length ≤ 20) && (numL (Lk.sat (Lk.valL d)) == d) && decide (Lk.sat (Lk.valL d) ≤ most)
theorem sat_small {n m : Nat} (h : Lk.sat n ≤ m) (hm : m < Lk.M64) : Lk.sat n = n := by unfold Lk.sat Lk.M64 at *; omega
theorem okC_port {d : List UInt8} (h : okC d 65535 = true) (h1 : 1 ≤ Lk.sat (Lk.valL d)) : portL (Lk.lower d) = Lk.sat (Lk.valL d) := by
  unfold okC at h
  simp only [Bool.and_eq_true, decide_eq_true_eq, beq_iff_eq] at h
  obtain ⟨⟨⟨a, b⟩, c⟩, e⟩ := h
  rw [lower_dig a]
  conv => lhs; rw [← c]
  exact port_num h1 e
theorem okC_not {d : List UInt8} (h : okC d 65535 = false ∨ Lk.sat (Lk.valL d) < 1) : portL (Lk.lower d) = 0 ∨ 65535 < portL (Lk.lower d) := by
  rcases Nat.eq_zero_or_pos (portL (Lk.lower d)) with h0 | h0
  · exact .inl h0
  refine .inr ?_
  rw [portL] at h0 ⊢
  by_cases hx : 5 < (Lk.lower d).length ∨ (Lk.lower d).head? = some 48
  · rw [if_pos hx] at h0; omega
  rw [if_neg hx] at h0 ⊢
  cases hd : Lk.digL (Lk.lower d)
  · rw [hd] at h0; simp at h0
  rw [hd] at h0
  rw [if_pos rfl] at h0 ⊢
  have hd2 := dig_lower d hd
  rw [lower_dig hd2] at h0 hx ⊢
  have hl : d.length ≤ 5 := by omega
  have hh : d.head? ≠ some 48 := fun e => hx (.inr e)
  have hlt := val_lt d hd2
  have hp : (10 : Nat) ^ d.length ≤ 10 ^ 5 := Nat.pow_le_pow_right (by omega) hl
  have hsat : Lk.sat (Lk.valL d) = Lk.valL d := by unfold Lk.sat Lk.M64; omega
  rcases h with h | h
  · have hnv := num_val d (by omega) hd2 hh
    unfold okC at h
    rw [hsat, hnv, hd2] at h
    simp at h
    have := h (by omega)
    omega
  · rw [hsat] at h; omega
theorem check_port {sc h : List UInt8} {n : Nat} (hn : n = 0 ∨ 65535 < n) : checkL sc h (n : Int) = false := by
  unfold checkL
  rcases hn with rfl | hn
  · simp
  · have : decide ((n : Int) ≤ 65535) = false := by simp; omega
    rw [this]; simp

/-- what a scheme, a host that may be look like -/
theorem def_cases {sc : List UInt8} (h : defL sc ≠ 0) : (sc = [104, 116, 116, 112] ∧ defL sc = 80) ∨ (sc = [104, 116, 116, 112, 115] ∧ defL sc = 443) := by
  unfold defL at h ⊢
  by_cases h1 : sc = [104, 116, 116, 112]
  · exact .inl ⟨h1, if_pos h1⟩
  · rw [if_neg h1] at h ⊢
    by_cases h2 : sc = [104, 116, 116, 112, 115]
    · exact .inr ⟨h2, if_pos h2⟩
    · rw [if_neg h2] at h; exact absurd rfl h
theorem check_parts {sc h : List UInt8} {p : Int} (hc : checkL sc h p = true) : defL sc ≠ 0 ∧ hostL h = true ∧ 1 ≤ p ∧ p ≤ 65535 := by
  unfold checkL at hc
  simp only [Bool.and_eq_true, decide_eq_true_eq, bne_iff_ne] at hc
  exact ⟨hc.1.1.1, hc.1.1.2, hc.1.2, hc.2⟩
theorem host_bytes {h : List UInt8} (hh : hostL h = true) : ∀ b ∈ h, b = 46 ∨ hostB b.toNat = true := by
  intro b hb
  by_cases h46 : b = 46
  · exact .inl h46
  · obtain ⟨p, hp, hbp⟩ := parts_mem 46 h b hb h46
    unfold hostL at hh
    rw [Bool.and_eq_true, List.all_eq_true] at hh
    have := hh.2 p hp
    unfold labelL at this
    simp only [Bool.and_eq_true, List.all_eq_true] at this
    exact .inr (this.1.1.2 b hbp)
theorem hostB_bd {b : UInt8} (h : hostB b.toNat = true) : (97 ≤ b.toNat ∧ b.toNat ≤ 122) ∨ (48 ≤ b.toNat ∧ b.toNat ≤ 57) ∨ b.toNat = 45 := by
  unfold hostB Lk.smB Lk.digB at h
  simp at h
  omega
theorem host_small {h : List UInt8} (hh : hostL h = true) : ∀ b ∈ h, (b.toNat < 65 ∨ 90 < b.toNat) ∧ b ≠ 58 := by
  intro b hb
  rcases host_bytes hh b hb with rfl | hx
  · decide
  · have := hostB_bd hx
    refine ⟨by omega, ?_⟩
    rintro rfl
    simp at this
theorem scheme_small {sc : List UInt8} (h : defL sc ≠ 0) : (∀ b ∈ sc, (b.toNat < 65 ∨ 90 < b.toNat) ∧ b ≠ 58) ∧ sc.length ≤ 5 := by
  rcases def_cases h with ⟨rfl, _⟩ | ⟨rfl, _⟩ <;> decide
theorem host_len {h : List UInt8} (hh : hostL h = true) : h.length ≤ 253 := by
  unfold hostL at hh
  rw [Bool.and_eq_true, decide_eq_true_eq] at hh
  exact hh.1
theorem parse_key {sc h : List UInt8} {p : Int} (hc : checkL sc h p = true) : parseL (sc ++ [58, 47, 47] ++ h ++ [58] ++ numL p.toNat) = some (sc, h, p) := by
  obtain ⟨h1, h2, h3, h4⟩ := check_parts hc
  have hs := (scheme_small h1).1
  have hh := host_small h2
  have hp : p.toNat ≤ 65535 := by omega
  have hnd := (numL_ok (n := p.toNat) (by unfold Lk.M64; omega)).1
  have hlow : Lk.lower (sc ++ [58, 47, 47] ++ h ++ [58] ++ numL p.toNat) = sc ++ [58, 47, 47] ++ (h ++ 58 :: numL p.toNat) := by
    rw [lower_id]
    · simp
    · intro b hb
      simp only [List.mem_append, List.mem_cons, List.not_mem_nil, or_false] at hb
      rcases hb with ((((hb | rfl | rfl | rfl) | hb) | rfl) | hb)
      · exact (hs b hb).1
      · decide
      · decide
      · decide
      · exact (hh b hb).1
      · decide
      · have := dig_all hnd b hb; omega
  unfold parseL
  rw [hlow, seek_mk _ _ (fun x hx => (hs x hx).2)]
  simp only [split1_at 58 h (numL p.toNat) (fun x hx => (hh x hx).2), portAt]
  have e : ((portL (numL p.toNat) : Nat) : Int) = p := by rw [port_num (by omega) hp]; omega
  rw [e, if_pos hc]
theorem parse_bare {sc h : List UInt8} {p : Int} (hc : checkL sc h p = true) (hd : p = defL sc) : parseL (sc ++ [58, 47, 47] ++ h) = some (sc, h, p) := by
  obtain ⟨h1, h2, h3, h4⟩ := check_parts hc
  have hs := (scheme_small h1).1
  have hh := host_small h2
  have hlow : Lk.lower (sc ++ [58, 47, 47] ++ h) = sc ++ [58, 47, 47] ++ h := by
    rw [lower_id]
    intro b hb
    simp only [List.mem_append, List.mem_cons, List.not_mem_nil, or_false] at hb
    rcases hb with ((hb | rfl | rfl | rfl) | hb)
    · exact (hs b hb).1
    · decide
    · decide
    · decide
    · exact (hh b hb).1
  unfold parseL
  rw [hlow, seek_mk _ _ (fun x hx => (hs x hx).2)]
  simp only [split1_none 58 h (fun x hx => (hh x hx).2), portAt]
  rw [← hd, if_pos hc]
theorem parse_show {sc h : List UInt8} {p : Int} (hc : checkL sc h p = true) : parseL (showL sc h p) = some (sc, h, p) := by
  rw [showL, if_pos hc]
  split
  · rename_i hd; exact parse_bare hc hd
  · exact parse_key hc
theorem key_eq {sc h : List UInt8} {p : Int} (hc : checkL sc h p = true) : keyL sc h p = sc ++ [58, 47, 47] ++ h ++ [58] ++ numL p.toNat := by rw [keyL, if_pos hc]
theorem parse_keyL {sc h : List UInt8} {p : Int} (hc : checkL sc h p = true) : parseL (keyL sc h p) = some (sc, h, p) := by rw [key_eq hc, parse_key hc]
theorem key_len {sc h : List UInt8} {p : Int} : (keyL sc h p).length ≤ 270 := by
  cases hc : checkL sc h p
  · rw [keyL, hc]; simp
  · rw [key_eq hc]
    obtain ⟨h1, h2, h3, h4⟩ := check_parts hc
    have a := (scheme_small h1).2
    have b := host_len h2
    have c := numL_len5 (n := p.toNat) (by omega)
    simp; omega
theorem show_len {sc h : List UInt8} {p : Int} : (showL sc h p).length ≤ 270 := by
  cases hc : checkL sc h p
  · rw [showL, hc]; simp
  · rw [showL, if_pos hc]
    obtain ⟨h1, h2, h3, h4⟩ := check_parts hc
    have a := (scheme_small h1).2
    have b := host_len h2
    have c := numL_len5 (n := p.toNat) (by omega)
    split
    · simp; omega
    · simp; omega
theorem show_inj {sc h sc' h' : List UInt8} {p p' : Int} (hc : checkL sc h p = true) (hc' : checkL sc' h' p' = true) (e : showL sc h p = showL sc' h' p') : sc = sc' ∧ h = h' ∧ p = p' := by
  have a := parse_show hc
  rw [e, parse_show hc'] at a
  simp at a
  exact ⟨a.1.symm, a.2.1.symm, a.2.2.symm⟩
theorem key_inj {sc h sc' h' : List UInt8} {p p' : Int} (hc : checkL sc h p = true) (hc' : checkL sc' h' p' = true) (e : keyL sc h p = keyL sc' h' p') : sc = sc' ∧ h = h' ∧ p = p' := by
  have a := parse_keyL hc
  rw [e, parse_keyL hc'] at a
  simp at a
  exact ⟨a.1.symm, a.2.1.symm, a.2.2.symm⟩
end Go.Proofs.YtfamllkmmiajoaaDoor
