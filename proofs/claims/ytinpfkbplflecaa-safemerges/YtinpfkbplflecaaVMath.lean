/-
  Plain mathematics of headers that need no preflight, and of the names of those that need one. No conditions beyond those of each statement.
-/
import Derived.Test.YtinpfkbplflecaaDMath2
namespace Go.Proofs.Ytinpfkbplflecaa

def barL : List UInt8 := [34, 40, 41, 58, 60, 62, 63, 64, 91, 92, 93, 123, 125, 127]
def marksL : List UInt8 := [32, 42, 44, 45, 46, 59, 61]
def byteOk (b : UInt8) : Bool := b == 9 || (decide (32 ≤ b.toNat) && !barL.contains b)
def langOk (b : UInt8) : Bool := Lk.plB b.toNat || marksL.contains b
def bytesOk (l : List UInt8) : Bool := l.all byteOk
def langsOk (l : List UInt8) : Bool := l.all langOk
/-- a token, a slash, a token, in small letters; or nothing -/
def typeL (t : List UInt8) : Option (List UInt8) :=
  match split1 47 t with
  | (_, none) => none
  | (a, some b) => if Lk.tokL a && Lk.tokL b then some (Lk.lower t) else none
def essL (v : List UInt8) : Option (List UInt8) := typeL (Lk.trimL (split1 59 v).1)
def bytesT : List UInt8 := [98, 121, 116, 101, 115, 61]
def spanL (t : List UInt8) : Bool :=
  match split1 45 t with
  | (_, none) => false
  | (a, some b) => Lk.digL a && (b.isEmpty || (Lk.digL b && decide (Lk.sat (Lk.valL a) ≤ Lk.sat (Lk.valL b))))
def rangeL (v : List UInt8) : Bool := (v.take 6 == bytesT) && spanL (v.drop 6)
def acceptT : List UInt8 := [97, 99, 99, 101, 112, 116]
def alangT : List UInt8 := [97, 99, 99, 101, 112, 116, 45, 108, 97, 110, 103, 117, 97, 103, 101]
def clangT : List UInt8 := [99, 111, 110, 116, 101, 110, 116, 45, 108, 97, 110, 103, 117, 97, 103, 101]
def ctypeT : List UInt8 := [99, 111, 110, 116, 101, 110, 116, 45, 116, 121, 112, 101]
def rangeT : List UInt8 := [114, 97, 110, 103, 101]
def formT1 : List UInt8 := [97, 112, 112, 108, 105, 99, 97, 116, 105, 111, 110, 47, 120, 45, 119, 119, 119, 45, 102, 111, 114, 109, 45, 117, 114, 108, 101, 110, 99, 111, 100, 101, 100]
def formT2 : List UInt8 := [109, 117, 108, 116, 105, 112, 97, 114, 116, 47, 102, 111, 114, 109, 45, 100, 97, 116, 97]
def formT3 : List UInt8 := [116, 101, 120, 116, 47, 112, 108, 97, 105, 110]
def essT (v : List UInt8) : List UInt8 := (essL v).getD []
def formL (v : List UInt8) : Bool := essT v == formT1 || essT v == formT2 || essT v == formT3
def kindOk (n v : List UInt8) : Bool :=
  if n = acceptT then bytesOk v else if n = alangT then langsOk v else if n = clangT then langsOk v
  else if n = ctypeT then bytesOk v && formL v else if n = rangeT then rangeL v else false
def safeH (h : Hd) : Bool := decide ((Lk.trimL h.2).length ≤ 128) && kindOk (Lk.lower h.1) (Lk.trimL h.2)
def safeSum (l : List Hd) : Nat := ((l.filter safeH).map (fun h => (Lk.trimL h.2).length)).sum
def askedL (l : List Hd) : List Tx := (l.filter (fun h => !safeH h)).map (fun h => Lk.lower h.1)
def lowsL (l : List Hd) : List Tx := l.map (fun h => Lk.lower h.1)
def safeNames (l : List Hd) : List Tx := risL (if 1024 < safeSum l then lowsL l else askedL l)

theorem safe_long {h : Hd} (hl : 128 < (Lk.trimL h.2).length) : safeH h = false := by
  unfold safeH
  rw [decide_eq_false (by omega)]; rfl
theorem safe_short {h : Hd} (hl : ¬ 128 < (Lk.trimL h.2).length) : safeH h = kindOk (Lk.lower h.1) (Lk.trimL h.2) := by
  unfold safeH
  rw [decide_eq_true (by omega)]; rfl
theorem lows_append (l m : List Hd) : lowsL (l ++ m) = lowsL l ++ lowsL m := by simp [lowsL]
theorem asked_append (l m : List Hd) : askedL (l ++ m) = askedL l ++ askedL m := by simp [askedL]
theorem sum_append (l m : List Hd) : safeSum (l ++ m) = safeSum l + safeSum m := by simp [safeSum]
theorem lows_one (h : Hd) : lowsL [h] = [Lk.lower h.1] := rfl
theorem asked_yes {h : Hd} (hs : safeH h = true) : askedL [h] = [] := by simp [askedL, hs]
theorem asked_no {h : Hd} (hs : safeH h = false) : askedL [h] = [Lk.lower h.1] := by simp [askedL, hs]
theorem sum_yes {h : Hd} (hs : safeH h = true) : safeSum [h] = (Lk.trimL h.2).length := by simp [safeSum, hs]
theorem sum_no {h : Hd} (hs : safeH h = false) : safeSum [h] = 0 := by simp [safeSum, hs]
theorem asked_len (l : List Hd) : (askedL l).length ≤ l.length := by
  unfold askedL; rw [List.length_map]; exact List.length_filter_le _ _
theorem lows_len (l : List Hd) : (lowsL l).length = l.length := by simp [lowsL]
theorem safe_bd {h : Hd} (hs : safeH h = true) : (Lk.trimL h.2).length ≤ 128 := by
  unfold safeH at hs
  simp only [Bool.and_eq_true, decide_eq_true_eq] at hs
  exact hs.1
theorem sum_bd : ∀ l : List Hd, safeSum l ≤ 128 * l.length
  | [] => by simp [safeSum]
  | h :: r => by
    have ih := sum_bd r
    rw [← List.singleton_append, sum_append]
    cases hs : safeH h
    · rw [sum_no hs]; simp; omega
    · rw [sum_yes hs]; have := safe_bd hs; simp; omega
theorem asked_mem (l : List Hd) (x : Tx) : x ∈ askedL l ↔ ∃ h ∈ l, safeH h = false ∧ Lk.lower h.1 = x := by
  simp [askedL, and_assoc]
theorem asked_lows (l : List Hd) (x : Tx) (h : x ∈ askedL l) : x ∈ lowsL l := by
  obtain ⟨g, hg, _, e⟩ := (asked_mem l x).1 h
  exact List.mem_map.2 ⟨g, hg, e⟩
theorem safeNames_up (l : List Hd) : Up (safeNames l) := ris_up _
theorem safeNames_lows {l : List Hd} {x : Tx} (h : x ∈ safeNames l) : x ∈ namesH l := by
  unfold safeNames at h
  rw [ris_mem] at h
  unfold namesH
  rw [ris_mem]
  split at h
  · exact h
  · exact asked_lows l x h
theorem safeNames_len (l : List Hd) : (safeNames l).length ≤ l.length := by
  unfold safeNames
  refine Nat.le_trans (ris_len _) ?_
  split
  · rw [lows_len]; exact Nat.le_refl _
  · exact asked_len l
theorem names_lows (l : List Hd) : namesH l = risL (lowsL l) := rfl
theorem safe_many {l : List Hd} (h : 1024 < safeSum l) : safeNames l = namesH l := by unfold safeNames; rw [if_pos h]; rfl
theorem safe_few {l : List Hd} (h : ¬ 1024 < safeSum l) : safeNames l = risL (askedL l) := by unfold safeNames; rw [if_neg h]

/-- a row of texts that rises with all of another one in it is not shorter -/
theorem up_sub_len : ∀ {a b : List Tx}, Up a → (∀ x ∈ a, x ∈ b) → a.length ≤ b.length
  | [], _, _, _ => Nat.zero_le _
  | x :: a, b, ha, h => by
    have ha' := List.pairwise_cons.1 ha
    have hx : x ∈ b := h x (by simp)
    have hsub : ∀ y ∈ a, y ∈ b.erase x := by
      intro y hy
      have hne : y ≠ x := fun e => tx_ne (ha'.1 y hy) e.symm
      exact (List.mem_erase_of_ne hne).2 (h y (List.mem_cons_of_mem _ hy))
    have ih := up_sub_len ha'.2 hsub
    rw [List.length_erase_of_mem hx] at ih
    have : 0 < b.length := List.length_pos_of_mem hx
    simp; omega

/-- one header more: whatever was told is told again -/
theorem safe_more (l : List Hd) (h : Hd) (hs : safeH h = false) : Lk.lower h.1 ∈ safeNames (l ++ [h]) ∧ (safeNames l).length ≤ (safeNames (l ++ [h])).length := by
  have e1 : safeSum (l ++ [h]) = safeSum l := by rw [sum_append, sum_no hs, Nat.add_zero]
  refine ⟨?_, up_sub_len (safeNames_up l) fun x hx => ?_⟩
  · unfold safeNames
    rw [ris_mem]
    split
    · rw [lows_append]; simp [lows_one]
    · rw [asked_append, asked_no hs]; simp
  · unfold safeNames at hx ⊢
    rw [ris_mem] at hx ⊢
    rw [e1]
    split at hx
    · rename_i hc; rw [if_pos hc, lows_append]; simp [hx]
    · rename_i hc; rw [if_neg hc, asked_append]; simp [hx]

/-- small letters stay -/
theorem tx_small (l : List Hd) (x : Tx) (h : x ∈ safeNames l) : Lk.lower x = x := by
  have := safeNames_lows h
  obtain ⟨g, _, e⟩ := (names_mem l x).1 this
  rw [← e, Lk.lower_lower]
theorem lows_named (ns : List Tx) (h : ∀ x ∈ ns, Lk.lower x = x) : lowsL (ns.map (fun n => (n, []))) = ns := by
  unfold lowsL
  rw [List.map_map]
  conv => rhs; rw [← List.map_id ns]
  apply List.map_congr_left
  intro x hx
  exact h x hx
theorem safe_merge {l m : List Hd} (h : ¬ 1024 < safeSum (l ++ m)) : safeNames (l ++ m) = namesH ((safeNames l ++ safeNames m).map (fun n => (n, []))) := by
  have h1 : ¬ 1024 < safeSum l := by rw [sum_append] at h; omega
  have h2 : ¬ 1024 < safeSum m := by rw [sum_append] at h; omega
  rw [names_lows, lows_named _ (by
    intro x hx
    rcases List.mem_append.1 hx with hx | hx
    · exact tx_small l x hx
    · exact tx_small m x hx)]
  refine up_unique (safeNames_up _) (ris_up _) fun x => ?_
  rw [safe_few h, safe_few h1, safe_few h2, ris_mem, ris_mem, asked_append, List.mem_append, List.mem_append, ris_mem, ris_mem]
end Go.Proofs.Ytinpfkbplflecaa
