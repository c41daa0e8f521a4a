/-
  The plain mathematics of layer 1 (octet): bytes as Int, texts as lists of bytes. It speaks of no program. No conditions.
-/
namespace Lk

/-- white space -/
def spB (c : Int) : Bool := c == 9 || c == 10 || c == 13 || c == 32
def digB (c : Int) : Bool := decide (48 ≤ c) && decide (c ≤ 57)
def upB (c : Int) : Bool := decide (65 ≤ c) && decide (c ≤ 90)
def smB (c : Int) : Bool := decide (97 ≤ c) && decide (c ≤ 122)
def lowI (c : Int) : Int := if upB c then c + 32 else c
def letB (c : Int) : Bool := smB (lowI c)
/-- a letter or a digit -/
def plB (c : Int) : Bool := smB c || upB c || digB c
/-- the fifteen signs of a name -/
def sgB (c : Int) : Bool := c == 33 || c == 35 || c == 36 || c == 37 || c == 38 || c == 39 || c == 42 || c == 43 || c == 45 || c == 46 || c == 94 || c == 95 || c == 96 || c == 124 || c == 126
def tokB (c : Int) : Bool := sgB c || plB c

theorem lowI_bd {c : Int} (h0 : 0 ≤ c) (h1 : c ≤ 255) : 0 ≤ lowI c ∧ lowI c ≤ 255 := by
  unfold lowI upB
  split
  · rename_i h; simp at h; omega
  · omega

theorem upB_t {c : Int} (h0 : 65 ≤ c) (h1 : c ≤ 90) : upB c = true := by simp [upB, h0, h1]
theorem lowI_up {c : Int} (h0 : 65 ≤ c) (h1 : c ≤ 90) : lowI c = c + 32 := by simp [lowI, upB_t h0 h1]
theorem lowI_not {c : Int} (h : c < 65 ∨ 90 < c) : lowI c = c := by
  have : upB c = false := by simp [upB]; omega
  simp [lowI, this]
theorem letB_eq (c : Int) : letB c = (smB c || upB c) := by
  unfold letB lowI
  cases h : upB c <;> simp [upB, smB] at h ⊢ <;> omega
theorem tokB_or (c : Int) (h : sgB c = false) : tokB c = (letB c || digB c) := by
  simp [tokB, h, plB, letB_eq]
theorem tokB_sg {c : Int} (h : sgB c = true) : tokB c = true := by simp [tokB, h]

/-! texts as lists of bytes -/
def I (b : UInt8) : Int := (b.toNat : Int)
def tokL (l : List UInt8) : Bool := l.all (fun b => tokB b.toNat) && !l.isEmpty
def lowU (b : UInt8) : UInt8 := UInt8.ofNat (lowI b.toNat).toNat
def lower (l : List UInt8) : List UInt8 := l.map lowU
def foldL (a b : List UInt8) : Bool := lower a == lower b
def inL (c : Int) (l : List UInt8) : Bool := l.any (fun b => (b.toNat : Int) == c)

theorem byte_bd (b : UInt8) : (0 : Int) ≤ (b.toNat : Int) ∧ (b.toNat : Int) ≤ 255 := by
  have := b.toNat_lt; omega
theorem lowU_toNat (b : UInt8) : ((lowU b).toNat : Int) = lowI b.toNat := by
  have h := byte_bd b
  have h2 := lowI_bd h.1 h.2
  unfold lowU
  rw [UInt8.toNat_ofNat']
  omega
theorem u8_eq {a b : UInt8} (h : (a.toNat : Int) = b.toNat) : a = b := UInt8.toNat_inj.1 (by omega)
theorem lowU_inj (a b : UInt8) : lowU a = lowU b ↔ lowI a.toNat = lowI b.toNat := by
  constructor
  · intro h; rw [← lowU_toNat, ← lowU_toNat, h]
  · intro h; exact u8_eq (by rw [lowU_toNat, lowU_toNat, h])

theorem take_snoc (s : ByteArray) (k : Nat) (h : k < s.size) : s.data.toList.take (k + 1) = s.data.toList.take k ++ [s[k]] := by
  rw [List.take_succ_eq_append_getElem (by simpa using h)]; rfl
theorem take_all (s : ByteArray) (k : Nat) (h : s.size ≤ k) : s.data.toList.take k = s.data.toList :=
  List.take_of_length_le (by simpa using h)
theorem all_step {p : UInt8 → Bool} {s : ByteArray} {k : Nat} (h : k < s.size) (ha : (s.data.toList.take k).all p = true) (hp : p s[k] = true) :
    (s.data.toList.take (k + 1)).all p = true := by
  rw [take_snoc s k h, List.all_append, ha]; simp [hp]
theorem all_no {p : UInt8 → Bool} {s : ByteArray} {k : Nat} (h : k < s.size) (hp : p s[k] = false) : s.data.toList.all p = false := by
  rw [List.all_eq_false]
  exact ⟨s[k], List.mem_iff_getElem.2 ⟨k, by simpa using h, rfl⟩, by simp [hp]⟩

/-! trimming -/
def sp (b : UInt8) : Bool := spB b.toNat
def trimL (l : List UInt8) : List UInt8 := ((l.dropWhile sp).reverse.dropWhile sp).reverse
def Tight (x : List UInt8) : Prop := x = [] ∨ ((∃ c r, x = c :: r ∧ sp c = false) ∧ ∃ c r, x = r ++ [c] ∧ sp c = false)

theorem trim_eq {a x b : List UInt8} (ha : a.all sp = true) (hb : b.all sp = true) (hx : Tight x) : trimL (a ++ x ++ b) = x := by
  have ha' : ∀ c ∈ a, sp c = true := by simpa using ha
  have hb' : ∀ c ∈ b, sp c = true := by simpa using hb
  unfold trimL
  rw [List.append_assoc, List.dropWhile_append_of_pos ha']
  rcases hx with rfl | ⟨⟨c, r, rfl, hc⟩, ⟨c', r', hr, hc'⟩⟩
  · have : List.dropWhile sp b = [] := by
      have := List.dropWhile_append_of_pos (l₂ := []) hb'
      simpa using this
    simp [this]
  · have h1 : List.dropWhile sp (c :: r ++ b) = c :: r ++ b := by simp [hc]
    rw [h1, List.reverse_append, List.dropWhile_append_of_pos (by simpa using hb'), hr]
    simp [hc']

theorem left_split : ∀ l : List UInt8, ∃ a y, l = a ++ y ∧ a.all sp = true ∧ (y = [] ∨ ∃ c r, y = c :: r ∧ sp c = false)
  | [] => ⟨[], [], rfl, rfl, .inl rfl⟩
  | c :: r => by
    cases h : sp c
    · exact ⟨[], c :: r, rfl, rfl, .inr ⟨c, r, rfl, h⟩⟩
    · obtain ⟨a, y, e, ha, hy⟩ := left_split r
      exact ⟨c :: a, y, by rw [e]; rfl, by simp only [List.all_cons, h, ha, Bool.and_self], hy⟩

theorem right_split (l : List UInt8) : ∃ x b, l = x ++ b ∧ b.all sp = true ∧ (x = [] ∨ ∃ c r, x = r ++ [c] ∧ sp c = false) := by
  obtain ⟨a, y, e, ha, hy⟩ := left_split l.reverse
  refine ⟨y.reverse, a.reverse, ?_, by simpa using ha, ?_⟩
  · have := congrArg List.reverse e; simpa using this
  · rcases hy with rfl | ⟨c, r, rfl, hc⟩
    · exact .inl rfl
    · exact .inr ⟨c, r.reverse, by simp, hc⟩

theorem trim_split (l : List UInt8) : ∃ a x b, l = a ++ x ++ b ∧ a.all sp = true ∧ b.all sp = true ∧ Tight x := by
  obtain ⟨a, y, e, ha, hy⟩ := left_split l
  obtain ⟨x, b, e2, hb, hx⟩ := right_split y
  refine ⟨a, x, b, by rw [e, e2, List.append_assoc], ha, hb, ?_⟩
  rcases hx with rfl | ⟨c, r, rfl, hc⟩
  · exact .inl rfl
  · refine .inr ⟨?_, c, r, rfl, hc⟩
    rcases hy with rfl | ⟨c0, r0, rfl, hc0⟩
    · simp at e2
    · cases r with
      | nil => simp at e2; exact ⟨c, [], rfl, by rw [← e2.1]; exact hc0⟩
      | cons d r' => simp at e2; exact ⟨d, r' ++ [c], rfl, by rw [← e2.1]; exact hc0⟩

theorem trim_tight (l : List UInt8) : Tight (trimL l) := by
  obtain ⟨a, x, b, e, ha, hb, hx⟩ := trim_split l
  rw [e, trim_eq ha hb hx]; exact hx
theorem trim_of_tight {x : List UInt8} (h : Tight x) : trimL x = x := by
  have := trim_eq (a := []) (b := []) rfl rfl h; simpa using this
theorem trim_trim (l : List UInt8) : trimL (trimL l) = trimL l := trim_of_tight (trim_tight l)
theorem trim_pad (l : List UInt8) {a b : List UInt8} (ha : a.all sp = true) (hb : b.all sp = true) : trimL (a ++ l ++ b) = trimL l := by
  obtain ⟨a', x, b', e, ha', hb', hx⟩ := trim_split l
  rw [e, trim_eq ha' hb' hx]
  have : a ++ (a' ++ x ++ b') ++ b = (a ++ a') ++ x ++ (b' ++ b) := by simp
  rw [this]
  exact trim_eq (by simp only [List.all_append, ha, ha', Bool.and_self]) (by simp only [List.all_append, hb, hb', Bool.and_self]) hx
theorem trim_blank {a : List UInt8} (ha : a.all sp = true) : trimL a = [] := by
  have := trim_eq (b := []) ha rfl (.inl rfl : Tight []); simpa using this
theorem trim_len (l : List UInt8) : (trimL l).length ≤ l.length := by
  obtain ⟨a, x, b, e, ha, hb, hx⟩ := trim_split l
  rw [e, trim_eq ha hb hx]; simp; omega

/-- what two loops over the ends come to -/
theorem trim_walk (l : List UInt8) (k m : Nat) (hkm : k ≤ m) (hm : m ≤ l.length) (hk : (l.take k).all sp = true) (hd : (l.drop m).all sp = true)
    (ht : k = m ∨ (∃ h : k < l.length, sp l[k] = false) ∧ (0 < m ∧ ∃ h : m - 1 < l.length, sp l[m - 1] = false)) : (l.drop k).take (m - k) = trimL l := by
  have e : l = l.take k ++ (l.drop k).take (m - k) ++ l.drop m := by
    have h1 : l.drop m = (l.drop k).drop (m - k) := by rw [List.drop_drop]; congr 1; omega
    rw [h1, List.append_assoc, List.take_append_drop, List.take_append_drop]
  have hT : Tight ((l.drop k).take (m - k)) := by
    rcases ht with rfl | ⟨⟨h1, h2⟩, h0, h3, h4⟩
    · left; simp
    · by_cases hlt : k = m
      · left; simp [hlt]
      refine .inr ⟨⟨l[k], (l.drop (k + 1)).take (m - k - 1), ?_, h2⟩, ⟨l[m - 1], (l.drop k).take (m - 1 - k), ?_, h4⟩⟩
      · obtain ⟨q, hq⟩ : ∃ q, m - k = q + 1 := ⟨m - k - 1, by omega⟩
        rw [hq, List.drop_eq_getElem_cons h1]; rfl
      · obtain ⟨q, hq⟩ : ∃ q, m - k = q + 1 := ⟨m - k - 1, by omega⟩
        have e1 : m - 1 - k = q := by omega
        have e2 : m - 1 = k + q := by omega
        rw [hq, e1, List.take_succ_eq_append_getElem (by simp; omega)]
        simp [e2]
  generalize hx : (l.drop k).take (m - k) = x at *
  rw [e, trim_eq hk hd hT]

/-! splitting at commas -/
def cuts : List UInt8 → List (List UInt8)
  | [] => [[]]
  | c :: r => if c = 44 then [] :: cuts r else
    match cuts r with
    | [] => [[c]]
    | p :: ps => (c :: p) :: ps
def keep (ps : List (List UInt8)) : List (List UInt8) := (ps.map trimL).filter (fun p => !p.isEmpty)
def splitL (l : List UInt8) : List (List UInt8) := keep (cuts l)

def glue (c : UInt8) : List (List UInt8) → List (List UInt8)
  | [] => [[c]]
  | p :: ps => (c :: p) :: ps
theorem cuts_cons (c : UInt8) (r : List UInt8) : cuts (c :: r) = if c = 44 then [] :: cuts r else glue c (cuts r) := by
  rw [cuts]; rfl
theorem cuts_ne : ∀ l : List UInt8, cuts l ≠ []
  | [] => by simp [cuts]
  | c :: r => by
    rw [cuts_cons]
    split
    · simp
    · cases cuts r <;> simp [glue]
theorem cuts_none : ∀ (l : List UInt8), (∀ b ∈ l, b ≠ 44) → cuts l = [l]
  | [], _ => rfl
  | c :: r, h => by
    have h1 := cuts_none r (fun b hb => h b (List.mem_cons_of_mem _ hb))
    rw [cuts_cons, if_neg (h c (List.mem_cons_self ..)), h1]; rfl
theorem cuts_at : ∀ (a b : List UInt8), (∀ x ∈ a, x ≠ 44) → cuts (a ++ 44 :: b) = a :: cuts b
  | [], b, _ => by simp [cuts]
  | c :: r, b, h => by
    have h1 := cuts_at r b (fun b hb => h b (List.mem_cons_of_mem _ hb))
    rw [List.cons_append]
    rw [cuts_cons, if_neg (h c (List.mem_cons_self ..)), h1]; rfl
/-- a comma between two texts parts them -/
theorem cuts_mid : ∀ (a b : List UInt8), cuts (a ++ 44 :: b) = cuts a ++ cuts b
  | [], b => by simp [cuts]
  | c :: r, b => by
    have h1 := cuts_mid r b
    rw [List.cons_append]
    rw [cuts_cons, cuts_cons]
    split
    · rw [h1]; rfl
    · rw [h1]
      cases h : cuts r with
      | nil => exact absurd h (cuts_ne r)
      | cons p ps => rfl
theorem keep_append (a b : List (List UInt8)) : keep (a ++ b) = keep a ++ keep b := by simp [keep]
theorem split_mid (a b : List UInt8) : splitL (a ++ 44 :: b) = splitL a ++ splitL b := by
  unfold splitL; rw [cuts_mid, keep_append]
theorem split_none {l : List UInt8} (h : ∀ b ∈ l, b ≠ 44) : splitL l = keep [l] := by
  unfold splitL; rw [cuts_none l h]
theorem split_at {a b : List UInt8} (h : ∀ x ∈ a, x ≠ 44) : splitL (a ++ 44 :: b) = keep [a] ++ splitL b := by
  unfold splitL; rw [cuts_at a b h, ← List.singleton_append, keep_append]
theorem keep_one_nil {a : List UInt8} (h : trimL a = []) : keep [a] = [] := by simp [keep, h]
theorem keep_one {a : List UInt8} (h : trimL a ≠ []) : keep [a] = [trimL a] := by simp [keep, h]
/-- how many bytes a list of texts has, one more for each -/
def bulk (l : List (List UInt8)) : Nat := (l.map (fun p => p.length + 1)).sum
theorem keep_bulk : ∀ l : List (List UInt8), bulk (keep l) ≤ bulk l
  | [] => Nat.le_refl _
  | p :: ps => by
    have h1 := keep_bulk ps
    have h2 := trim_len p
    have : keep (p :: ps) = keep [p] ++ keep ps := by rw [← List.singleton_append, keep_append]
    rw [this]
    by_cases h : trimL p = []
    · rw [keep_one_nil h]; simp [bulk] at *; omega
    · rw [keep_one h]; simp [bulk] at *; omega

/-! numbers -/
def M64 : Nat := 18446744073709551615
def valL (l : List UInt8) : Nat := l.foldl (fun n b => 10 * n + (b.toNat - 48)) 0
def digL (l : List UInt8) : Bool := l.all (fun b => digB b.toNat) && !l.isEmpty
def sat (n : Nat) : Nat := min n M64
theorem sat_le (n : Nat) : sat n ≤ M64 := Nat.min_le_right _ _
def apd (n d : Nat) : Nat := if (M64 - d) / 10 < n then M64 else n * 10 + d
theorem sat_step (n d : Nat) (hd : d ≤ 9) : apd (sat n) d = sat (10 * n + d) := by
  unfold apd sat M64
  split <;> omega
theorem val_snoc (l : List UInt8) (b : UInt8) : valL (l ++ [b]) = 10 * valL l + (b.toNat - 48) := by simp [valL]

theorem fold_step {a b : ByteArray} {k : Nat} (ha : k < a.size) (hb : k < b.size) (h : lower (a.data.toList.take k) = lower (b.data.toList.take k)) (hc : lowI a[k].toNat = lowI b[k].toNat) :
    lower (a.data.toList.take (k + 1)) = lower (b.data.toList.take (k + 1)) := by
  rw [take_snoc a k ha, take_snoc b k hb]
  unfold lower at *
  rw [List.map_append, List.map_append, h]
  simp [(lowU_inj _ _).2 hc]
theorem fold_no {a b : ByteArray} {k : Nat} (ha : k < a.size) (hb : k < b.size) (hc : ¬ lowI a[k].toNat = lowI b[k].toNat) : foldL a.data.toList b.data.toList = false := by
  unfold foldL lower
  rw [beq_eq_false_iff_ne]
  intro h
  have := congrArg (·[k]?) h
  simp [ha, hb] at this
  exact hc ((lowU_inj _ _).1 this)

theorem drop_step {p : UInt8 → Bool} {s : ByteArray} {m : Nat} (h : m < s.size) (hp : p s[m] = true) (hd : (s.data.toList.drop (m + 1)).all p = true) :
    (s.data.toList.drop m).all p = true := by
  rw [List.drop_eq_getElem_cons (by simpa using h), List.all_cons, hd]
  have : p s.data.toList[m] = true := hp
  rw [this]; rfl

/-- a text without a comma, or one cut at its first comma -/
theorem comma_cases : ∀ l : List UInt8, (∀ b ∈ l, b ≠ 44) ∨ ∃ a b, l = a ++ 44 :: b ∧ ∀ x ∈ a, x ≠ 44
  | [] => .inl (by simp)
  | c :: r => by
    by_cases h : c = 44
    · exact .inr ⟨[], r, by simp [h], by simp⟩
    · rcases comma_cases r with hr | ⟨a, b, e, ha⟩
      · exact .inl (by intro b hb; rcases List.mem_cons.1 hb with rfl | hb; exact h; exact hr b hb)
      · exact .inr ⟨c :: a, b, by rw [e]; rfl, by intro x hx; rcases List.mem_cons.1 hx with rfl | hx; exact h; exact ha x hx⟩
theorem keep_len : ∀ l : List (List UInt8), (keep l).length ≤ l.length := by
  intro l; unfold keep; exact Nat.le_trans (List.length_filter_le _ _) (by simp)
theorem cuts_len : ∀ l : List UInt8, (cuts l).length ≤ l.length + 1
  | [] => by simp [cuts]
  | c :: r => by
    have h1 := cuts_len r
    rw [cuts_cons]
    split
    · simp; omega
    · cases h : cuts r with
      | nil => simp [glue]
      | cons p ps => rw [h] at h1; simp [glue] at *; omega
theorem split_len (l : List UInt8) : (splitL l).length ≤ l.length + 1 := Nat.le_trans (keep_len _) (cuts_len _)

/-- have texts of these sizes more than n bytes together, one for each of them too? -/
def longL : Nat → List Nat → Bool
  | _, [] => false
  | n, k :: r => if n ≤ k then true else longL (n - k - 1) r
theorem long_no : ∀ (n : Nat) (l : List Nat), longL n l = false → l.sum + l.length ≤ n
  | _, [], _ => by simp
  | n, k :: r, h => by
    rw [longL] at h
    by_cases hk : n ≤ k
    · rw [if_pos hk] at h; cases h
    · rw [if_neg hk] at h
      have := long_no _ r h
      simp; omega
end Lk
