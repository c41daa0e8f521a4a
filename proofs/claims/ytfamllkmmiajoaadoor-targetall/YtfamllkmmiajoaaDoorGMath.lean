/-
  The plain mathematics of layer 3 (origin): labels, hosts, ports, what a text is read as. It speaks of no program. No conditions.
-/
import Derived.Test.YtfamllkmmiajoaaDoorKNum
import Derived.Lib.IndexMore
namespace Go.Proofs.YtfamllkmmiajoaaDoor

/-- texts cut at each c -/
def glue1 (b : UInt8) : List (List UInt8) → List (List UInt8)
  | [] => [[b]]
  | p :: r => (b :: p) :: r
def parts (c : UInt8) : List UInt8 → List (List UInt8)
  | [] => [[]]
  | b :: l => if b = c then [] :: parts c l else glue1 b (parts c l)
theorem parts_none (c : UInt8) : ∀ l : List UInt8, (∀ b ∈ l, b ≠ c) → parts c l = [l]
  | [], _ => rfl
  | b :: l, h => by
    rw [parts, if_neg (h b (List.mem_cons_self ..)), parts_none c l (fun x hx => h x (List.mem_cons_of_mem _ hx))]; rfl
theorem parts_at (c : UInt8) : ∀ (a b : List UInt8), (∀ x ∈ a, x ≠ c) → parts c (a ++ c :: b) = a :: parts c b
  | [], b, _ => by rw [List.nil_append, parts, if_pos rfl]
  | x :: a, b, h => by
    rw [List.cons_append, parts, if_neg (h x (List.mem_cons_self ..)), parts_at c a b (fun y hy => h y (List.mem_cons_of_mem _ hy))]; rfl
theorem parts_ne (c : UInt8) : ∀ l : List UInt8, parts c l ≠ []
  | [] => by simp [parts]
  | b :: l => by
    rw [parts]; split
    · simp
    · cases h : parts c l <;> simp [glue1]
theorem parts_mem (c : UInt8) : ∀ (l : List UInt8) (b : UInt8), b ∈ l → b ≠ c → ∃ p ∈ parts c l, b ∈ p
  | [], b, h, _ => by simp at h
  | x :: l, b, h, hb => by
    rw [parts]
    by_cases hx : x = c
    · rw [if_pos hx]
      rcases List.mem_cons.1 h with rfl | h
      · exact absurd hx hb
      · obtain ⟨p, hp, hbp⟩ := parts_mem c l b h hb
        exact ⟨p, List.mem_cons_of_mem _ hp, hbp⟩
    · rw [if_neg hx]
      cases hl : parts c l with
      | nil => exact absurd hl (parts_ne c l)
      | cons q r =>
        rcases List.mem_cons.1 h with rfl | h
        · exact ⟨b :: q, by simp [glue1], by simp⟩
        · obtain ⟨p, hp, hbp⟩ := parts_mem c l b h hb
          rw [hl] at hp
          rcases List.mem_cons.1 hp with rfl | hp
          · exact ⟨x :: p, by simp [glue1], List.mem_cons_of_mem _ hbp⟩
          · exact ⟨p, by simp [glue1, hp], hbp⟩
theorem at_cases (c : UInt8) : ∀ l : List UInt8, (∀ b ∈ l, b ≠ c) ∨ ∃ a b, l = a ++ c :: b ∧ ∀ x ∈ a, x ≠ c
  | [] => .inl (by simp)
  | x :: l => by
    by_cases hx : x = c
    · exact .inr ⟨[], l, by rw [hx]; rfl, by simp⟩
    · rcases at_cases c l with h | ⟨a, b, e, h⟩
      · exact .inl (fun y hy => by rcases List.mem_cons.1 hy with rfl | hy; exact hx; exact h y hy)
      · exact .inr ⟨x :: a, b, by rw [e]; rfl, fun y hy => by rcases List.mem_cons.1 hy with rfl | hy; exact hx; exact h y hy⟩

/-- a byte of a label; a label; a host -/
def hostB (c : Int) : Bool := Lk.smB c || Lk.digB c || c == 45
def labelL (l : List UInt8) : Bool := decide (1 ≤ l.length) && decide (l.length ≤ 63) && l.all (fun b => hostB b.toNat) && (l.head? != some 45) && (l.getLast? != some 45)
def hostL (l : List UInt8) : Bool := decide (l.length ≤ 253) && (parts 46 l).all labelL
def defL (l : List UInt8) : Int := if l = [104, 116, 116, 112] then 80 else if l = [104, 116, 116, 112, 115] then 443 else 0
def checkL (sc h : List UInt8) (p : Int) : Bool := (defL sc != 0) && hostL h && decide (1 ≤ p) && decide (p ≤ 65535)
def keyL (sc h : List UInt8) (p : Int) : List UInt8 := if checkL sc h p then sc ++ [58, 47, 47] ++ h ++ [58] ++ numL p.toNat else []
def showL (sc h : List UInt8) (p : Int) : List UInt8 := if checkL sc h p then (if p = defL sc then sc ++ [58, 47, 47] ++ h else sc ++ [58, 47, 47] ++ h ++ [58] ++ numL p.toNat) else []

/-- what stands ahead of the first :// and what stands behind it -/
def seek : List UInt8 → Option (List UInt8 × List UInt8)
  | [] => none
  | b :: l => if [58, 47, 47].isPrefixOf (b :: l) then some ([], (b :: l).drop 3) else (seek l).map (fun p => (b :: p.1, p.2))
theorem index_seek : ∀ l : List UInt8, Lib.index l [58, 47, 47] = match seek l with | some (a, _) => (a.length : Int) | none => -1
  | [] => rfl
  | b :: l => by
    rw [Lib.index, seek]
    by_cases h : [58, 47, 47].isPrefixOf (b :: l) = true
    · rw [if_pos h, if_pos h]; rfl
    · rw [if_neg h, if_neg h, index_seek l]
      cases seek l with
      | none => rfl
      | some p =>
        have : ((p.1.length : Int) == -1) = false := by rw [beq_eq_false_iff_ne]; omega
        simp [this]
theorem seek_eq : ∀ (l a b : List UInt8), seek l = some (a, b) → l = a ++ [58, 47, 47] ++ b
  | [], a, b, h => by simp [seek] at h
  | x :: l, a, b, h => by
    rw [seek] at h
    by_cases hp : [58, 47, 47].isPrefixOf (x :: l) = true
    · rw [if_pos hp] at h
      simp only [Option.some.injEq, Prod.mk.injEq] at h
      obtain ⟨rfl, rfl⟩ := h
      rw [List.isPrefixOf_iff_prefix] at hp
      obtain ⟨t, ht⟩ := hp
      rw [← ht]; simp
    · rw [if_neg hp] at h
      cases hs : seek l with
      | none => rw [hs] at h; simp at h
      | some p =>
        rw [hs] at h
        simp only [Option.map_some, Option.some.injEq, Prod.mk.injEq] at h
        obtain ⟨rfl, rfl⟩ := h
        rw [seek_eq l p.1 p.2 hs]; simp
theorem cut_seek (l : List UInt8) : Lib.cut l [58, 47, 47] = match seek l with | some (a, b) => (a, b, true) | none => (l, [], false) := by
  rw [Lib.cut, index_seek]
  cases hs : seek l with
  | none => rfl
  | some p =>
    obtain ⟨a, b⟩ := p
    have e := seek_eq l a b hs
    simp only [Int.toNat_natCast, List.length_cons, List.length_nil]
    rw [if_pos (by omega)]
    subst e
    simp
theorem seek_mk : ∀ (a b : List UInt8), (∀ x ∈ a, x ≠ 58) → seek (a ++ [58, 47, 47] ++ b) = some (a, b)
  | [], b, _ => by simp [seek]
  | x :: a, b, h => by
    have hx : x ≠ 58 := h x (List.mem_cons_self ..)
    have ih := seek_mk a b (fun y hy => h y (List.mem_cons_of_mem _ hy))
    show seek (x :: (a ++ [58, 47, 47] ++ b)) = _
    have hp : [58, 47, 47].isPrefixOf (x :: (a ++ [58, 47, 47] ++ b)) = false := by
      rw [List.isPrefixOf]
      have : ((58 : UInt8) == x) = false := by rw [beq_eq_false_iff_ne]; exact Ne.symm hx
      rw [this]; rfl
    rw [seek, hp, ih]; rfl

theorem low_low58 (b : UInt8) : Lk.lowU b = 58 ↔ b = 58 := by
  have h : ∀ n : Fin 256, (Lk.lowU (UInt8.ofNat n.val) = 58 ↔ UInt8.ofNat n.val = 58) := by decide +kernel
  have := h ⟨b.toNat, by have := b.toNat_lt; omega⟩
  simpa using this
theorem low_low47 (b : UInt8) : Lk.lowU b = 47 ↔ b = 47 := by
  have h : ∀ n : Fin 256, (Lk.lowU (UInt8.ofNat n.val) = 47 ↔ UInt8.ofNat n.val = 47) := by decide +kernel
  have := h ⟨b.toNat, by have := b.toNat_lt; omega⟩
  simpa using this
theorem beq58 (b : UInt8) : ((58 : UInt8) == Lk.lowU b) = ((58 : UInt8) == b) := by
  rw [Bool.eq_iff_iff, beq_iff_eq, beq_iff_eq]
  exact ⟨fun h => ((low_low58 b).1 h.symm).symm, fun h => ((low_low58 b).2 h.symm).symm⟩
theorem beq47 (b : UInt8) : ((47 : UInt8) == Lk.lowU b) = ((47 : UInt8) == b) := by
  rw [Bool.eq_iff_iff, beq_iff_eq, beq_iff_eq]
  exact ⟨fun h => ((low_low47 b).1 h.symm).symm, fun h => ((low_low47 b).2 h.symm).symm⟩
theorem pre_lower (l : List UInt8) : [58, 47, 47].isPrefixOf (Lk.lower l) = [58, 47, 47].isPrefixOf l := by
  match l with
  | [] => rfl
  | [a] => simp [Lk.lower, List.isPrefixOf]
  | [a, b] => simp [Lk.lower, List.isPrefixOf]
  | a :: b :: c :: r => simp only [Lk.lower, List.map_cons, List.isPrefixOf, beq58, beq47]
theorem seek_lower : ∀ l : List UInt8, seek (Lk.lower l) = (seek l).map (fun p => (Lk.lower p.1, Lk.lower p.2))
  | [] => rfl
  | b :: l => by
    have e : Lk.lower (b :: l) = Lk.lowU b :: Lk.lower l := rfl
    have hp := pre_lower (b :: l)
    rw [e] at hp ⊢
    rw [seek, seek, hp, seek_lower l]
    split
    · simp [Lk.lower]
    · cases seek l <;> rfl

/-- what stands ahead of the first c and, where there is one, what stands behind it -/
def split1 (c : UInt8) : List UInt8 → List UInt8 × Option (List UInt8)
  | [] => ([], none)
  | b :: l => if b = c then ([], some l) else (b :: (split1 c l).1, (split1 c l).2)
theorem split1_none (c : UInt8) : ∀ l : List UInt8, (∀ b ∈ l, b ≠ c) → split1 c l = (l, none)
  | [], _ => rfl
  | b :: l, h => by rw [split1, if_neg (h b (List.mem_cons_self ..)), split1_none c l (fun x hx => h x (List.mem_cons_of_mem _ hx))]
theorem split1_at (c : UInt8) : ∀ (a b : List UInt8), (∀ x ∈ a, x ≠ c) → split1 c (a ++ c :: b) = (a, some b)
  | [], b, _ => by rw [List.nil_append, split1, if_pos rfl]
  | x :: a, b, h => by rw [List.cons_append, split1, if_neg (h x (List.mem_cons_self ..)), split1_at c a b (fun y hy => h y (List.mem_cons_of_mem _ hy))]
theorem split1_lower : ∀ l : List UInt8, split1 58 (Lk.lower l) = (Lk.lower (split1 58 l).1, (split1 58 l).2.map Lk.lower)
  | [] => rfl
  | b :: l => by
    have e : Lk.lower (b :: l) = Lk.lowU b :: Lk.lower l := rfl
    rw [e, split1, split1, split1_lower l]
    by_cases h : b = 58
    · rw [if_pos h, if_pos ((low_low58 b).2 h)]; rfl
    · rw [if_neg h, if_neg (fun x => h ((low_low58 b).1 x))]; rfl

def portL (d : List UInt8) : Nat := if 5 < d.length ∨ d.head? = some 48 then 0 else if Lk.digL d then Lk.valL d else 0
def portAt (sc : List UInt8) : Option (List UInt8) → Int
  | none => defL sc
  | some d => portL d
/-- what a text is read as -/
def parseL (l : List UInt8) : Option (List UInt8 × List UInt8 × Int) :=
  match seek (Lk.lower l) with
  | none => none
  | some (sc, r) => if checkL sc (split1 58 r).1 (portAt sc (split1 58 r).2) then some (sc, (split1 58 r).1, portAt sc (split1 58 r).2) else none
theorem parse_check {l a b : List UInt8} {p : Int} (h : parseL l = some (a, b, p)) : checkL a b p = true := by
  unfold parseL at h
  cases hs : seek (Lk.lower l) with
  | none => rw [hs] at h; simp at h
  | some q =>
    rw [hs] at h
    simp only at h
    split at h
    · rename_i hc
      simp only [Option.some.injEq, Prod.mk.injEq] at h
      obtain ⟨rfl, rfl, rfl⟩ := h
      exact hc
    · cases h
end Go.Proofs.YtfamllkmmiajoaaDoor
