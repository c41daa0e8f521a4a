/-
  Words that all layers lean on, and the plain mathematics of layers 1, 3 and 4. Conditions: those of each statement.
-/
import Derived.Test.YtlkneapidmdpbaaGreatDoorRows
import Derived.WalkKit
import Derived.WalkSpells
import Derived.WalkLawsBesides
import Derived.Lib.Hide
import Derived.Below
import Derived.Deep.RegionHeld3
import Derived.Deep.QuietTactic
import Derived.BigQuiet
import Derived.Lib.IndexMore
namespace Go.Proofs.YtlkneapidmdpbaaGreatDoor
open Go.RowKit

theorem ret_int {k : IntKind} {a b : Int} (h : a = b) : Ending.returned (.int k a) = .returned (.int k b) := by rw [h]
theorem ret_bool {a b : Bool} (h : a = b) : Ending.returned (.bool a) = .returned (.bool b) := by rw [h]
theorem wfU {a : Int} (h : (Lit.int .u64 a).wf = true) : 0 ≤ a ∧ a ≤ 18446744073709551615 := by
  simp [Lit.wf, IntKind.min, IntKind.max, IntKind.signed, IntKind.bits] at h; exact h
theorem wfI {a : Int} (h : (Lit.int .i64 a).wf = true) : -9223372036854775808 ≤ a ∧ a ≤ 9223372036854775807 := by
  simp [Lit.wf, IntKind.min, IntKind.max, IntKind.signed, IntKind.bits] at h; exact h

/-- a slice of texts: what its cells hold -/
def SRow (w : World) (B : Nat) (A : Option Addr) (xs : List ByteArray) : Prop :=
  ∀ j x, xs[j]? = some x → ∃ ad, A = some ad ∧ ad.block < B ∧ w.cell? (ad.add j) = some (.string x)
theorem SRow.below {w w' : World} {B : Nat} {A : Option Addr} {xs : List ByteArray} (h : SRow w B A xs) (hb : Below B w w') : SRow w' B A xs := by
  intro j x hj
  obtain ⟨ad, e, hB, hc⟩ := h j x hj
  exact ⟨ad, e, hB, (hb.cell (p := ad.add j) (by unfold Addr.add; split <;> exact hB)).trans hc⟩

theorem SRow.one (w : World) (x : ByteArray) (t : TypeId) : SRow (w.alloc (.cells #[.string x] t)) (w.heap.size + 1) (some ⟨w.heap.size, 0, none⟩) [x] := by
  intro j y hj
  match j, hj with
  | 0, hj => simp at hj; subst hj; exact ⟨_, rfl, by simp, by simp [Addr.add]⟩
theorem SRow.two (w : World) (x y : ByteArray) (t : TypeId) : SRow (w.alloc (.cells #[.string x, .string y] t)) (w.heap.size + 1) (some ⟨w.heap.size, 0, none⟩) [x, y] := by
  intro j z hj
  match j, hj with
  | 0, hj => simp at hj; subst hj; exact ⟨_, rfl, by simp, by simp [Addr.add]⟩
  | 1, hj => simp at hj; subst hj; exact ⟨_, rfl, by simp, by simp [Addr.add]⟩

theorem SRow.one_at (w : World) (x : ByteArray) (t : TypeId) (g : Nat) (hg : g = w.heap.size) : SRow (w.alloc (.cells #[.string x] t)) (g + 1) (some ⟨g, 0, none⟩) [x] := by
  subst hg; exact SRow.one w x t
theorem SRow.two_at (w : World) (x y : ByteArray) (t : TypeId) (g : Nat) (hg : g = w.heap.size) : SRow (w.alloc (.cells #[.string x, .string y] t)) (g + 1) (some ⟨g, 0, none⟩) [x, y] := by
  subst hg; exact SRow.two w x y t

theorem block_of_cell {w : World} {a : Addr} {u : Value} (h : w.cell? a = some u) : a.block < w.heap.size := by
  rcases Nat.lt_or_ge a.block w.heap.size with hlt | hge
  · exact hlt
  · unfold World.cell? at h
    rw [Array.getElem?_eq_none hge] at h
    cases h
theorem block_add (a : Addr) (n : Nat) : (a.add n).block = a.block := by unfold Addr.add; split <;> rfl

def SArg (w : World) (a : Option Addr) (c : Nat) (xs : List ByteArray) : Prop :=
  SRow w w.heap.size a xs ∧ (∀ x ∈ xs, x.size ≤ maxLen) ∧ xs.length ≤ c ∧ c ≤ maxLen
theorem SArg.none_ (w : World) : SArg w none 0 [] := ⟨fun j x h => by simp at h, by simp, Nat.le_refl _, Nat.zero_le _⟩
theorem SArg.mk_ {W : World} {x : Addr} {l c : Nat} {ss : List ByteArray} (hl : l ≤ c) (hm : c ≤ maxLen) (hz : ss.length = c)
    (hcell : ∀ i, i < ss.length → W.cell? (x.add i) = some (.string (ss.getD i ByteArray.empty))) (hss : ∀ s ∈ ss, s.size ≤ maxLen) :
    ∃ xs : List ByteArray, l = xs.length ∧ SArg W (some x) c xs := by
  refine ⟨ss.take l, by simp; omega, ?_, fun y hy => hss y (List.mem_of_mem_take hy), by simp; omega, hm⟩
  intro j y hj
  have hjl : j < (ss.take l).length := (List.getElem?_eq_some_iff.1 hj).1
  have hjs : j < ss.length := by simp at hjl; omega
  have hy : ss.getD j ByteArray.empty = y := by
    rw [List.getElem?_take, if_pos (by simp at hjl; omega)] at hj
    simp [List.getD, hj]
  have hc := hcell j hjs
  rw [hy] at hc
  exact ⟨x, rfl, by have := block_of_cell hc; rwa [block_add] at this, hc⟩

def IArg (k : IntKind) (w : World) (a : Option Addr) (c : Nat) (xs : List Int) : Prop :=
  (∀ j x, xs[j]? = some x → ∃ ad, a = some ad ∧ ad.block < w.heap.size ∧ w.cell? (ad.add j) = some (.int k x)) ∧ (∀ x ∈ xs, (Lit.int k x).wf = true) ∧ xs.length ≤ c ∧ c ≤ maxLen
theorem IArg.none_ (k : IntKind) (w : World) : IArg k w none 0 [] := ⟨fun j x h => by simp at h, by simp, Nat.le_refl _, Nat.zero_le _⟩
theorem IArg.mk_ {k : IntKind} {W : World} {x : Addr} {l c : Nat} {zs : List Int} (hl : l ≤ c) (hm : c ≤ maxLen) (hz : zs.length = c)
    (hcell : ∀ i, i < zs.length → W.cell? (x.add i) = some (.int k (zs.getD i 0))) (hwz : ∀ n ∈ zs, (Lit.int k n).wf = true) :
    ∃ xs : List Int, l = xs.length ∧ IArg k W (some x) c xs := by
  refine ⟨zs.take l, by simp; omega, ?_, fun y hy => hwz y (List.mem_of_mem_take hy), by simp; omega, hm⟩
  intro j y hj
  have hjl : j < (zs.take l).length := (List.getElem?_eq_some_iff.1 hj).1
  have hjs : j < zs.length := by simp at hjl; omega
  have hy : zs.getD j 0 = y := by
    rw [List.getElem?_take, if_pos (by simp at hjl; omega)] at hj
    simp [List.getD, hj]
  have hc := hcell j hjs
  rw [hy] at hc
  exact ⟨x, rfl, by have := block_of_cell hc; rwa [block_add] at this, hc⟩
end Go.Proofs.YtlkneapidmdpbaaGreatDoor

namespace Lk

/-- white space -/
def spB (c : Int) : Bool := c == 9 || c == 10 || c == 13 || c == 32
def digB (c : Int) : Bool := decide (48 ≤ c) && decide (c ≤ 57)
def upB (c : Int) : Bool := decide (65 ≤ c) && decide (c ≤ 90)
def smB (c : Int) : Bool := decide (97 ≤ c) && decide (c ≤ 122)
def lowI (c : Int) : Int := if upB c then c + 32 else c
def letB (c : Int) : Bool := smB (lowI c)
/-- a letter or a digit -/
def plB (c : Int) : Bool := smB c || upB c || digB c
/-- the fifteen signs of a name -/
def sgB (c : Int) : Bool := c == 33 || c == 35 || c == 36 || c == 37 || c == 38 || c == 39 || c == 42 || c == 43 || c == 45 || c == 46 || c == 94 || c == 95 || c == 96 || c == 124 || c == 126
def tokB (c : Int) : Bool := sgB c || plB c

theorem lowI_bd {c : Int} (h0 : 0 ≤ c) (h1 : c ≤ 255) : 0 ≤ lowI c ∧ lowI c ≤ 255 := by
  unfold lowI upB
  split
  · rename_i h; simp at h; omega
  · omega

theorem upB_t {c : Int} (h0 : 65 ≤ c) (h1 : c ≤ 90) : upB c = true := by simp [upB, h0, h1]
theorem lowI_up {c : Int} (h0 : 65 ≤ c) (h1 : c ≤ 90) : lowI c = c + 32 := by simp [lowI, upB_t h0 h1]
theorem lowI_not {c : Int} (h : c < 65 ∨ 90 < c) : lowI c = c := by
  have : upB c = false := by simp [upB]; omega
  simp [lowI, this]
theorem letB_eq (c : Int) : letB c = (smB c || upB c) := by
  unfold letB lowI
  cases h : upB c <;> simp [upB, smB] at h ⊢ <;> omega
theorem tokB_or (c : Int) (h : sgB c = false) : tokB c = (letB c || digB c) := by
  simp [tokB, h, plB, letB_eq]
theorem tokB_sg {c : Int} (h : sgB c = true) : tokB c = true := by simp [tokB, h]

/-! texts as lists of bytes -/
def I (b : UInt8) : Int := (b.toNat : Int)
def tokL (l : List UInt8) : Bool := l.all (fun b => tokB b.toNat) && !l.isEmpty
def lowU (b : UInt8) : UInt8 := UInt8.ofNat (lowI b.toNat).toNat
def lower (l : List UInt8) : List UInt8 := l.map lowU
def foldL (a b : List UInt8) : Bool := lower a == lower b
def inL (c : Int) (l : List UInt8) : Bool := l.any (fun b => (b.toNat : Int) == c)

theorem byte_bd (b : UInt8) : (0 : Int) ≤ (b.toNat : Int) ∧ (b.toNat : Int) ≤ 255 := by
  have := b.toNat_lt; omega
theorem lowU_toNat (b : UInt8) : ((lowU b).toNat : Int) = lowI b.toNat := by
  have h := byte_bd b
  have h2 := lowI_bd h.1 h.2
  unfold lowU
  rw [UInt8.toNat_ofNat']
  omega
theorem u8_eq {a b : UInt8} (h : (a.toNat : Int) = b.toNat) : a = b := UInt8.toNat_inj.1 (by omega)
theorem lowU_inj (a b : UInt8) : lowU a = lowU b ↔ lowI a.toNat = lowI b.toNat := by
  constructor
  · intro h; rw [← lowU_toNat, ← lowU_toNat, h]
  · intro h; exact u8_eq (by rw [lowU_toNat, lowU_toNat, h])

theorem take_snoc (s : ByteArray) (k : Nat) (h : k < s.size) : s.data.toList.take (k + 1) = s.data.toList.take k ++ [s[k]] := by
  rw [List.take_succ_eq_append_getElem (by simpa using h)]; rfl
theorem take_all (s : ByteArray) (k : Nat) (h : s.size ≤ k) : s.data.toList.take k = s.data.toList :=
  List.take_of_length_le (by simpa using h)
theorem all_step {p : UInt8 → Bool} {s : ByteArray} {k : Nat} (h : k < s.size) (ha : (s.data.toList.take k).all p = true) (hp : p s[k] = true) :
    (s.data.toList.take (k + 1)).all p = true := by
  rw [take_snoc s k h, List.all_append, ha]; simp [hp]
theorem all_no {p : UInt8 → Bool} {s : ByteArray} {k : Nat} (h : k < s.size) (hp : p s[k] = false) : s.data.toList.all p = false := by
  rw [List.all_eq_false]
  exact ⟨s[k], List.mem_iff_getElem.2 ⟨k, by simpa using h, rfl⟩, by simp [hp]⟩

/-! trimming -/
def sp (b : UInt8) : Bool := spB b.toNat
def trimL (l : List UInt8) : List UInt8 := ((l.dropWhile sp).reverse.dropWhile sp).reverse
def Tight (x : List UInt8) : Prop := x = [] ∨ ((∃ c r, x = c :: r ∧ sp c = false) ∧ ∃ c r, x = r ++ [c] ∧ sp c = false)

theorem trim_eq {a x b : List UInt8} (ha : a.all sp = true) (hb : b.all sp = true) (hx : Tight x) : trimL (a ++ x ++ b) = x := by
  have ha' : ∀ c ∈ a, sp c = true := by simpa using ha
  have hb' : ∀ c ∈ b, sp c = true := by simpa using hb
  unfold trimL
  rw [List.append_assoc, List.dropWhile_append_of_pos ha']
  rcases hx with rfl | ⟨⟨c, r, rfl, hc⟩, ⟨c', r', hr, hc'⟩⟩
  · have : List.dropWhile sp b = [] := by
      have := List.dropWhile_append_of_pos (l₂ := []) hb'
      simpa using this
    simp [this]
  · have h1 : List.dropWhile sp (c :: r ++ b) = c :: r ++ b := by simp [hc]
    rw [h1, List.reverse_append, List.dropWhile_append_of_pos (by simpa using hb'), hr]
    simp [hc']

theorem left_split : ∀ l : List UInt8, ∃ a y, l = a ++ y ∧ a.all sp = true ∧ (y = [] ∨ ∃ c r, y = c :: r ∧ sp c = false)
  | [] => ⟨[], [], rfl, rfl, .inl rfl⟩
  | c :: r => by
    cases h : sp c
    · exact ⟨[], c :: r, rfl, rfl, .inr ⟨c, r, rfl, h⟩⟩
    · obtain ⟨a, y, e, ha, hy⟩ := left_split r
      exact ⟨c :: a, y, by rw [e]; rfl, by simp only [List.all_cons, h, ha, Bool.and_self], hy⟩

theorem right_split (l : List UInt8) : ∃ x b, l = x ++ b ∧ b.all sp = true ∧ (x = [] ∨ ∃ c r, x = r ++ [c] ∧ sp c = false) := by
  obtain ⟨a, y, e, ha, hy⟩ := left_split l.reverse
  refine ⟨y.reverse, a.reverse, ?_, by simpa using ha, ?_⟩
  · have := congrArg List.reverse e; simpa using this
  · rcases hy with rfl | ⟨c, r, rfl, hc⟩
    · exact .inl rfl
    · exact .inr ⟨c, r.reverse, by simp, hc⟩

theorem trim_split (l : List UInt8) : ∃ a x b, l = a ++ x ++ b ∧ a.all sp = true ∧ b.all sp = true ∧ Tight x := by
  obtain ⟨a, y, e, ha, hy⟩ := left_split l
  obtain ⟨x, b, e2, hb, hx⟩ := right_split y
  refine ⟨a, x, b, by rw [e, e2, List.append_assoc], ha, hb, ?_⟩
  rcases hx with rfl | ⟨c, r, rfl, hc⟩
  · exact .inl rfl
  · refine .inr ⟨?_, c, r, rfl, hc⟩
    rcases hy with rfl | ⟨c0, r0, rfl, hc0⟩
    · simp at e2
    · cases r with
      | nil => simp at e2; exact ⟨c, [], rfl, by rw [← e2.1]; exact hc0⟩
      | cons d r' => simp at e2; exact ⟨d, r' ++ [c], rfl, by rw [← e2.1]; exact hc0⟩

theorem trim_tight (l : List UInt8) : Tight (trimL l) := by
  obtain ⟨a, x, b, e, ha, hb, hx⟩ := trim_split l
  rw [e, trim_eq ha hb hx]; exact hx
theorem trim_of_tight {x : List UInt8} (h : Tight x) : trimL x = x := by
  have := trim_eq (a := []) (b := []) rfl rfl h; simpa using this
theorem trim_trim (l : List UInt8) : trimL (trimL l) = trimL l := trim_of_tight (trim_tight l)
theorem trim_pad (l : List UInt8) {a b : List UInt8} (ha : a.all sp = true) (hb : b.all sp = true) : trimL (a ++ l ++ b) = trimL l := by
  obtain ⟨a', x, b', e, ha', hb', hx⟩ := trim_split l
  rw [e, trim_eq ha' hb' hx]
  have : a ++ (a' ++ x ++ b') ++ b = (a ++ a') ++ x ++ (b' ++ b) := by simp
  rw [this]
  exact trim_eq (by simp only [List.all_append, ha, ha', Bool.and_self]) (by simp only [List.all_append, hb, hb', Bool.and_self]) hx
theorem trim_blank {a : List UInt8} (ha : a.all sp = true) : trimL a = [] := by
  have := trim_eq (b := []) ha rfl (.inl rfl : Tight []); simpa using this
theorem trim_len (l : List UInt8) : (trimL l).length ≤ l.length := by
  obtain ⟨a, x, b, e, ha, hb, hx⟩ := trim_split l
  rw [e, trim_eq ha hb hx]; simp; omega

/-- what two loops over the ends come to -/
theorem trim_walk (l : List UInt8) (k m : Nat) (hkm : k ≤ m) (hm : m ≤ l.length) (hk : (l.take k).all sp = true) (hd : (l.drop m).all sp = true)
    (ht : k = m ∨ (∃ h : k < l.length, sp l[k] = false) ∧ (0 < m ∧ ∃ h : m - 1 < l.length, sp l[m - 1] = false)) : (l.drop k).take (m - k) = trimL l := by
  have e : l = l.take k ++ (l.drop k).take (m - k) ++ l.drop m := by
    have h1 : l.drop m = (l.drop k).drop (m - k) := by rw [List.drop_drop]; congr 1; omega
    rw [h1, List.append_assoc, List.take_append_drop, List.take_append_drop]
  have hT : Tight ((l.drop k).take (m - k)) := by
    rcases ht with rfl | ⟨⟨h1, h2⟩, h0, h3, h4⟩
    · left; simp
    · by_cases hlt : k = m
      · left; simp [hlt]
      refine .inr ⟨⟨l[k], (l.drop (k + 1)).take (m - k - 1), ?_, h2⟩, ⟨l[m - 1], (l.drop k).take (m - 1 - k), ?_, h4⟩⟩
      · obtain ⟨q, hq⟩ : ∃ q, m - k = q + 1 := ⟨m - k - 1, by omega⟩
        rw [hq, List.drop_eq_getElem_cons h1]; rfl
      · obtain ⟨q, hq⟩ : ∃ q, m - k = q + 1 := ⟨m - k - 1, by omega⟩
        have e1 : m - 1 - k = q := by omega
        have e2 : m - 1 = k + q := by omega
        rw [hq, e1, List.take_succ_eq_append_getElem (by simp; omega)]
        simp [e2]
  generalize hx : (l.drop k).take (m - k) = x at *
  rw [e, trim_eq hk hd hT]

/-! splitting at commas -/
def cuts : List UInt8 → List (List UInt8)
  | [] => [[]]
  | c :: r => if c = 44 then [] :: cuts r else
    match cuts r with
    | [] => [[c]]
    | p :: ps => (c :: p) :: ps
def keep (ps : List (List UInt8)) : List (List UInt8) := (ps.map trimL).filter (fun p => !p.isEmpty)
def splitL (l : List UInt8) : List (List UInt8) := keep (cuts l)

def glue (c : UInt8) : List (List UInt8) → List (List UInt8)
  | [] => [[c]]
  | p :: ps => (c :: p) :: ps
theorem cuts_cons (c : UInt8) (r : List UInt8) : cuts (c :: r) = if c = 44 then [] :: cuts r else glue c (cuts r) := by
  rw [cuts]; rfl
theorem cuts_ne : ∀ l : List UInt8, cuts l ≠ []
  | [] => by simp [cuts]
  | c :: r => by
    rw [cuts_cons]
    split
    · simp
    · cases cuts r <;> simp [glue]
theorem cuts_none : ∀ (l : List UInt8), (∀ b ∈ l, b ≠ 44) → cuts l = [l]
  | [], _ => rfl
  | c :: r, h => by
    have h1 := cuts_none r (fun b hb => h b (List.mem_cons_of_mem _ hb))
    rw [cuts_cons, if_neg (h c (List.mem_cons_self ..)), h1]; rfl
theorem cuts_at : ∀ (a b : List UInt8), (∀ x ∈ a, x ≠ 44) → cuts (a ++ 44 :: b) = a :: cuts b
  | [], b, _ => by simp [cuts]
  | c :: r, b, h => by
    have h1 := cuts_at r b (fun b hb => h b (List.mem_cons_of_mem _ hb))
    rw [List.cons_append]
    rw [cuts_cons, if_neg (h c (List.mem_cons_self ..)), h1]; rfl
/-- a comma between two texts parts them -/
theorem cuts_mid : ∀ (a b : List UInt8), cuts (a ++ 44 :: b) = cuts a ++ cuts b
  | [], b => by simp [cuts]
  | c :: r, b => by
    have h1 := cuts_mid r b
    rw [List.cons_append]
    rw [cuts_cons, cuts_cons]
    split
    · rw [h1]; rfl
    · rw [h1]
      cases h : cuts r with
      | nil => exact absurd h (cuts_ne r)
      | cons p ps => rfl
theorem keep_append (a b : List (List UInt8)) : keep (a ++ b) = keep a ++ keep b := by simp [keep]
theorem split_mid (a b : List UInt8) : splitL (a ++ 44 :: b) = splitL a ++ splitL b := by
  unfold splitL; rw [cuts_mid, keep_append]
theorem split_none {l : List UInt8} (h : ∀ b ∈ l, b ≠ 44) : splitL l = keep [l] := by
  unfold splitL; rw [cuts_none l h]
theorem split_at {a b : List UInt8} (h : ∀ x ∈ a, x ≠ 44) : splitL (a ++ 44 :: b) = keep [a] ++ splitL b := by
  unfold splitL; rw [cuts_at a b h, ← List.singleton_append, keep_append]
theorem keep_one_nil {a : List UInt8} (h : trimL a = []) : keep [a] = [] := by simp [keep, h]
theorem keep_one {a : List UInt8} (h : trimL a ≠ []) : keep [a] = [trimL a] := by simp [keep, h]
/-- how many bytes a list of texts has, one more for each -/
def bulk (l : List (List UInt8)) : Nat := (l.map (fun p => p.length + 1)).sum
theorem keep_bulk : ∀ l : List (List UInt8), bulk (keep l) ≤ bulk l
  | [] => Nat.le_refl _
  | p :: ps => by
    have h1 := keep_bulk ps
    have h2 := trim_len p
    have : keep (p :: ps) = keep [p] ++ keep ps := by rw [← List.singleton_append, keep_append]
    rw [this]
    by_cases h : trimL p = []
    · rw [keep_one_nil h]; simp [bulk] at *; omega
    · rw [keep_one h]; simp [bulk] at *; omega

/-! numbers -/
def M64 : Nat := 18446744073709551615
def valL (l : List UInt8) : Nat := l.foldl (fun n b => 10 * n + (b.toNat - 48)) 0
def digL (l : List UInt8) : Bool := l.all (fun b => digB b.toNat) && !l.isEmpty
def sat (n : Nat) : Nat := min n M64
theorem sat_le (n : Nat) : sat n ≤ M64 := Nat.min_le_right _ _
def apd (n d : Nat) : Nat := if (M64 - d) / 10 < n then M64 else n * 10 + d
theorem sat_step (n d : Nat) (hd : d ≤ 9) : apd (sat n) d = sat (10 * n + d) := by
  unfold apd sat M64
  split <;> omega
theorem val_snoc (l : List UInt8) (b : UInt8) : valL (l ++ [b]) = 10 * valL l + (b.toNat - 48) := by simp [valL]

theorem fold_step {a b : ByteArray} {k : Nat} (ha : k < a.size) (hb : k < b.size) (h : lower (a.data.toList.take k) = lower (b.data.toList.take k)) (hc : lowI a[k].toNat = lowI b[k].toNat) :
    lower (a.data.toList.take (k + 1)) = lower (b.data.toList.take (k + 1)) := by
  rw [take_snoc a k ha, take_snoc b k hb]
  unfold lower at *
  rw [List.map_append, List.map_append, h]
  simp [(lowU_inj _ _).2 hc]
theorem fold_no {a b : ByteArray} {k : Nat} (ha : k < a.size) (hb : k < b.size) (hc : ¬ lowI a[k].toNat = lowI b[k].toNat) : foldL a.data.toList b.data.toList = false := by
  unfold foldL lower
  rw [beq_eq_false_iff_ne]
  intro h
  have := congrArg (·[k]?) h
  simp [ha, hb] at this
  exact hc ((lowU_inj _ _).1 this)

theorem drop_step {p : UInt8 → Bool} {s : ByteArray} {m : Nat} (h : m < s.size) (hp : p s[m] = true) (hd : (s.data.toList.drop (m + 1)).all p = true) :
    (s.data.toList.drop m).all p = true := by
  rw [List.drop_eq_getElem_cons (by simpa using h), List.all_cons, hd]
  have : p s.data.toList[m] = true := hp
  rw [this]; rfl

/-- a text without a comma, or one cut at its first comma -/
theorem comma_cases : ∀ l : List UInt8, (∀ b ∈ l, b ≠ 44) ∨ ∃ a b, l = a ++ 44 :: b ∧ ∀ x ∈ a, x ≠ 44
  | [] => .inl (by simp)
  | c :: r => by
    by_cases h : c = 44
    · exact .inr ⟨[], r, by simp [h], by simp⟩
    · rcases comma_cases r with hr | ⟨a, b, e, ha⟩
      · exact .inl (by intro b hb; rcases List.mem_cons.1 hb with rfl | hb; exact h; exact hr b hb)
      · exact .inr ⟨c :: a, b, by rw [e]; rfl, by intro x hx; rcases List.mem_cons.1 hx with rfl | hx; exact h; exact ha x hx⟩
theorem keep_len : ∀ l : List (List UInt8), (keep l).length ≤ l.length := by
  intro l; unfold keep; exact Nat.le_trans (List.length_filter_le _ _) (by simp)
theorem cuts_len : ∀ l : List UInt8, (cuts l).length ≤ l.length + 1
  | [] => by simp [cuts]
  | c :: r => by
    have h1 := cuts_len r
    rw [cuts_cons]
    split
    · simp; omega
    · cases h : cuts r with
      | nil => simp [glue]
      | cons p ps => rw [h] at h1; simp [glue] at *; omega
theorem split_len (l : List UInt8) : (splitL l).length ≤ l.length + 1 := Nat.le_trans (keep_len _) (cuts_len _)

/-- have texts of these sizes more than n bytes together, one for each of them too? -/
def longL : Nat → List Nat → Bool
  | _, [] => false
  | n, k :: r => if n ≤ k then true else longL (n - k - 1) r
theorem long_no : ∀ (n : Nat) (l : List Nat), longL n l = false → l.sum + l.length ≤ n
  | _, [], _ => by simp
  | n, k :: r, h => by
    rw [longL] at h
    by_cases hk : n ≤ k
    · rw [if_pos hk] at h; cases h
    · rw [if_neg hk] at h
      have := long_no _ r h
      simp; omega
end Lk

namespace Lk
/-- the first k bytes turned by f, the rest as they were -/
def turned (f : Nat → UInt8 → UInt8) (l : List UInt8) (k : Nat) : List UInt8 := (l.take k).mapIdx f ++ l.drop k
theorem turned_len (f : Nat → UInt8 → UInt8) (l : List UInt8) (k : Nat) : (turned f l k).length = l.length := by
  simp [turned]; omega
theorem turned_zero (f : Nat → UInt8 → UInt8) (l : List UInt8) : turned f l 0 = l := by simp [turned]
theorem turned_all (f : Nat → UInt8 → UInt8) (l : List UInt8) (k : Nat) (h : l.length ≤ k) : turned f l k = l.mapIdx f := by
  simp [turned, List.take_of_length_le h, List.drop_of_length_le h]
theorem turned_at (f : Nat → UInt8 → UInt8) (l : List UInt8) (k : Nat) (h : k < l.length) : (turned f l k)[k]'(by rw [turned_len]; exact h) = l[k] := by
  have h1 : (List.mapIdx f (l.take k)).length = k := by simp; omega
  simp only [turned]
  rw [List.getElem_append_right (by omega)]
  simp [h1]
theorem turned_succ (f : Nat → UInt8 → UInt8) (l : List UInt8) (k : Nat) (h : k < l.length) : (turned f l k).set k (f k l[k]) = turned f l (k + 1) := by
  have h1 : (List.mapIdx f (l.take k)).length = k := by simp; omega
  unfold turned
  rw [List.set_append_right _ _ (by omega), h1, Nat.sub_self, List.drop_eq_getElem_cons h, List.set_cons_zero, List.take_succ_eq_append_getElem h, List.mapIdx_append]
  simp [Nat.min_eq_left (Nat.le_of_lt h)]
theorem mapIdx_const (f : UInt8 → UInt8) (l : List UInt8) : l.mapIdx (fun _ b => f b) = l.map f := by
  apply List.ext_getElem <;> simp

theorem lowI_lowI (c : Int) : lowI (lowI c) = lowI c := by
  by_cases h : 65 ≤ c ∧ c ≤ 90
  · rw [lowI_up h.1 h.2, lowI_not (by omega)]
  · have e : lowI c = c := lowI_not (by omega)
    rw [e, e]
theorem lowU_lowU (b : UInt8) : lowU (lowU b) = lowU b := (lowU_inj _ _).2 (by rw [lowU_toNat, lowI_lowI])
theorem lower_lower (l : List UInt8) : lower (lower l) = lower l := by
  unfold lower; rw [List.map_map]; exact List.map_congr_left (fun b _ => lowU_lowU b)
theorem lower_len (l : List UInt8) : (lower l).length = l.length := by simp [lower]
theorem tokB_low (c : Int) : tokB (lowI c) = tokB c := by
  by_cases h : 65 ≤ c ∧ c ≤ 90
  · rw [lowI_up h.1 h.2]
    have h1 : plB (c + 32) = true := by simp [plB, smB]; omega
    have h2 : plB c = true := by simp [plB, upB]; omega
    simp [tokB, h1, h2]
  · rw [lowI_not (by omega)]
theorem tokL_lower (l : List UInt8) : tokL (lower l) = tokL l := by
  unfold tokL lower
  rw [List.all_map]
  have : ((fun b : UInt8 => tokB b.toNat) ∘ lowU) = fun b : UInt8 => tokB b.toNat := by
    funext b; simp only [Function.comp]; rw [lowU_toNat, tokB_low]
  rw [this]
  cases l <;> rfl
theorem tokL_same {a b : List UInt8} (h : lower a = lower b) : tokL a = tokL b := by rw [← tokL_lower a, h, tokL_lower]

theorem split_blank (m : List UInt8) : splitL (32 :: m) = splitL m := by
  unfold splitL
  rw [cuts_cons, if_neg (by decide)]
  cases h : cuts m with
  | nil => exact absurd h (cuts_ne m)
  | cons p ps =>
    have e : trimL (32 :: p) = trimL p := by
      have := trim_pad p (a := [32]) (b := []) (by decide) rfl
      simpa using this
    simp only [glue, keep, List.map_cons, e]
/-- texts with a comma and a blank between each two -/
def joinL : List (List UInt8) → List UInt8
  | [] => []
  | [x] => x
  | x :: y :: r => x ++ 44 :: 32 :: joinL (y :: r)
theorem split_join : ∀ l : List (List UInt8), (∀ x ∈ l, ∀ b ∈ x, b ≠ 44) → splitL (joinL l) = keep l
  | [], _ => by decide
  | [x], h => by rw [joinL, split_none (h x (by simp))]
  | x :: y :: r, h => by
    rw [joinL, split_at (h x (by simp)), split_blank, split_join (y :: r) (fun z hz => h z (List.mem_cons_of_mem _ hz)), ← keep_append]
    rfl
theorem join_len : ∀ l : List (List UInt8), (joinL l).length ≤ (l.map List.length).sum + 2 * l.length
  | [] => by simp [joinL]
  | [x] => by simp [joinL]
  | x :: y :: r => by
    have := join_len (y :: r)
    simp only [joinL, List.length_append, List.length_cons, List.map_cons, List.sum_cons] at *
    omega
theorem inL_no {c : UInt8} {l : List UInt8} (h : inL c.toNat l = false) : ∀ b ∈ l, b ≠ c := by
  intro b hb e
  subst e
  have h2 : inL b.toNat l = true := by simp only [inL, List.any_eq_true]; exact ⟨b, hb, by simp⟩
  rw [h] at h2; cases h2
theorem any_no {p : UInt8 → Bool} {s : ByteArray} {k : Nat} (h : k < s.size) (ha : (s.data.toList.take k).any p = false) (hp : p s[k] = false) : (s.data.toList.take (k + 1)).any p = false := by
  rw [take_snoc s k h, List.any_append, ha]; simp [hp]
theorem any_yes {p : UInt8 → Bool} {s : ByteArray} {k : Nat} (h : k < s.size) (hp : p s[k] = true) : s.data.toList.any p = true := by
  rw [List.any_eq_true]
  exact ⟨s[k], List.mem_iff_getElem.2 ⟨k, by simpa using h, rfl⟩, hp⟩
theorem keep_snoc_nil {l : List (List UInt8)} {x : List UInt8} (h : trimL x = []) : keep (l ++ [x]) = keep l := by rw [keep_append, keep_one_nil h, List.append_nil]
theorem keep_snoc {l : List (List UInt8)} {x : List UInt8} (h : trimL x ≠ []) : keep (l ++ [x]) = keep l ++ [trimL x] := by rw [keep_append, keep_one h]

theorem notEmpty_size (s : ByteArray) : (!s.data.toList.isEmpty) = decide (0 < s.size) := by
  have e : s.data.toList.length = s.size := by simp
  cases h : s.data.toList with
  | nil => rw [h] at e; simp at e; simp [← e]
  | cons x r => rw [h] at e; simp at e; simp [← e]
theorem nil_of_size {s : ByteArray} (h : ¬ 0 < s.size) : s.data.toList = [] := by
  have e : s.data.toList.length = s.size := by simp
  exact List.length_eq_zero_iff.1 (by omega)
/-- joined so far, before the k-th text is put behind it -/
theorem join_snoc (l : List (List UInt8)) (x : List UInt8) (h : l ≠ []) : joinL (l ++ [x]) = joinL l ++ 44 :: 32 :: x := by
  induction l with
  | nil => exact absurd rfl h
  | cons a r ih =>
    cases r with
    | nil => rfl
    | cons b r' => 
      have := ih (by simp)
      show a ++ 44 :: 32 :: joinL ((b :: r') ++ [x]) = a ++ 44 :: 32 :: joinL (b :: r') ++ 44 :: 32 :: x
      rw [this]; simp
end Lk

namespace Go.Proofs.YtlkneapidmdpbaaGreatDoor

/-- the digits of a number -/
def numF : Nat → Nat → List UInt8
  | 0, n => [UInt8.ofNat (48 + n % 10)]
  | f + 1, n => if n ≤ 9 then [UInt8.ofNat (48 + n)] else numF f (n / 10) ++ [UInt8.ofNat (48 + n % 10)]
def numL (n : Nat) : List UInt8 := numF 25 n
theorem numF_more : ∀ (f n : Nat), n < 10 ^ (f + 1) → numF f n = numF (f + 1) n
  | 0, n, h => by
    have h9 : n ≤ 9 := by simp at h; omega
    rw [numF, numF, if_pos h9, Nat.mod_eq_of_lt (by omega)]
  | f + 1, n, h => by
    rw [numF, numF]
    by_cases h9 : n ≤ 9
    · rw [if_pos h9, if_pos h9]
    · rw [if_neg h9, if_neg h9, numF_more f (n / 10) (by rw [Nat.pow_succ] at h; omega)]
theorem numL_small {n : Nat} (h : n ≤ 9) : numL n = [UInt8.ofNat (48 + n)] := by rw [numL, numF, if_pos h]
theorem numL_big {n : Nat} (h : ¬ n ≤ 9) (hn : n < 10 ^ 25) : numL n = numL (n / 10) ++ [UInt8.ofNat (48 + n % 10)] := by
  have h2 : n / 10 < 10 ^ (24 + 1) := by
    have : (10 : Nat) ^ (24 + 1) = 10 ^ 25 := rfl
    omega
  have e := numF_more 24 (n / 10) h2
  rw [numL, numF, if_neg h, e]; rfl
theorem dig_byte {n : Nat} (h : n ≤ 9) : (UInt8.ofNat (48 + n)).toNat = 48 + n := by rw [UInt8.toNat_ofNat']; omega
theorem numF_ok : ∀ (f n : Nat), n < 10 ^ (f + 1) → Lk.digL (numF f n) = true ∧ Lk.valL (numF f n) = n ∧ (numF f n).length ≤ f + 1
  | 0, n, h => by
    have h9 : n ≤ 9 := by simp at h; omega
    have hm : n % 10 = n := Nat.mod_eq_of_lt (by omega)
    rw [numF, hm]
    refine ⟨?_, ?_, by simp⟩
    · simp [Lk.digL, Lk.digB]; omega
    · simp [Lk.valL]; omega
  | f + 1, n, h => by
    rw [numF]
    by_cases h9 : n ≤ 9
    · rw [if_pos h9]
      refine ⟨?_, ?_, by simp⟩
      · simp [Lk.digL, Lk.digB]; omega
      · simp [Lk.valL]; omega
    · rw [if_neg h9]
      obtain ⟨i1, i2, i3⟩ := numF_ok f (n / 10) (by rw [Nat.pow_succ] at h; omega)
      have hd : n % 10 ≤ 9 := by omega
      refine ⟨?_, ?_, by simp; omega⟩
      · simp only [Lk.digL, Bool.and_eq_true] at i1 ⊢
        refine ⟨?_, by simp⟩
        rw [List.all_append, i1.1]
        simp [Lk.digB]; omega
      · rw [Lk.val_snoc, i2, dig_byte hd]; omega
theorem numL_ok {n : Nat} (h : n ≤ Lk.M64) : Lk.digL (numL n) = true ∧ Lk.valL (numL n) = n ∧ (numL n).length ≤ 26 := numF_ok 25 n (by unfold Lk.M64 at h; omega)
end Go.Proofs.YtlkneapidmdpbaaGreatDoor

namespace Go.Proofs.YtlkneapidmdpbaaGreatDoor

/-- a world of which F holds, as one thing: so that facts on it are rules for any such world -/
structure Held (F : World → Prop) where
  w : World
  h : F w
def InHeld (F : World → Prop) (W : World) : Prop := ∃ p : Held F, W = p.w
@[simp] theorem inHeld_forall {F : World → Prop} {φ : World → Prop} : (∀ w, InHeld F w → φ w) ↔ ∀ p : Held F, φ p.w := ⟨fun h p => h _ ⟨p, rfl⟩, fun h _ ⟨p, e⟩ => e ▸ h p⟩
theorem InHeld.mk {F : World → Prop} {W : World} (h : F W) : InHeld F W := ⟨⟨W, h⟩, rfl⟩

/-- operations that yield a value or halt, and enter no function -/
def plainOp (o : Oper) : Bool :=
  match o.op with
  | .move _ | .assign _ | .pick _ _ _ | .load _ _ | .binOp _ _ _ _ _ | .unOp _ _ _ | .convert _ _ _ | .slice _ _ _ _ _ | .fieldAddr _ _ _
  | .nilCheck _ | .build _ _ | .field _ _ _ | .indexAddr _ _ _ | .index _ _ _ | .extract _ _ | .makeInterface _ _ | .lookup _ _ _ _ | .typeAssert _ _ _ _ => true
  | .call c => match c.callee with | .builtin .len | .builtin .cap => true | _ => false
  | _ => false

theorem andThen_value {w' : World} {r : Result Value} {n : Next} (h : (r.andThen fun x w => .ok (Next.value x) w) = .ok n w') : ∃ v, n = .value v := by
  cases r with
  | ok x w1 => simp at h; exact ⟨x, h.1.symm⟩
  | halt x w1 => simp at h

theorem plain_value {o : Oper} (h : plainOp o = true) {ρ : Operand → Value} {P : Program} {w w' : World} {n : Next} (hr : (execOp ρ o).run P w = .ok n w') : ∃ v, n = .value v := by
  obtain ⟨dst, op, type, pos, after, guard⟩ := o
  cases op
  case call c =>
    obtain ⟨callee, args, argTypes⟩ := c
    cases callee
    case builtin b =>
      cases b
      case len =>
        simp only [execOp, resolve, invoke, builtin, Sem.run_bind, Sem.run_pure, Result.andThen_ok] at hr
        exact andThen_value hr
      case cap =>
        simp only [execOp, resolve, invoke, builtin, Sem.run_bind, Sem.run_pure, Result.andThen_ok] at hr
        exact andThen_value hr
      all_goals (simp [plainOp] at h; done)
    all_goals (simp [plainOp] at h; done)
  case pick c a b =>
    simp only [execOp, Sem.run_bind, Sem.run_pure] at hr
    cases hb : (asBool (ρ c)).run P w with
    | ok x w1 => rw [hb] at hr; simp at hr; exact ⟨_, hr.1.symm⟩
    | halt x w1 => rw [hb] at hr; simp at hr
  case nilCheck x =>
    simp only [execOp] at hr
    repeat' split at hr
    all_goals first
      | (simp only [Sem.run_pure] at hr; injection hr with h1 h2; exact ⟨_, h1.symm⟩)
      | (simp [runtimePanic] at hr; done)
      | skip
    simp only [Sem.run_bind] at hr
    cases hp : Sem.run P program w with
    | halt x w1 => rw [hp] at hr; simp at hr
    | ok q w1 =>
      rw [hp, Result.andThen_ok] at hr
      generalize hq : Sem.run P (nilAhead _ _ _ _) w1 = r at hr
      cases r with
      | halt x w2 => simp at hr
      | ok b w2 =>
        rw [Result.andThen_ok] at hr
        split at hr
        · simp at hr
        · simp only [Sem.run_pure] at hr
          injection hr with h1 h2
          exact ⟨_, h1.symm⟩
  all_goals first
    | (simp [plainOp] at h; done)
    | (simp only [execOp, Sem.run_pure] at hr; injection hr with h1 h2; exact ⟨_, h1.symm⟩)
    | (simp only [execOp, Sem.run_bind, Sem.run_pure] at hr; exact andThen_value hr)

section
variable {P : Program} {ops : Array Oper} {Q : Exit → Act → World → Prop} {F : World → Prop}

/-- the operations of these numbers -/
def pickOp : List Oper → Nat → List Oper → List Oper
  | [], _, r => r
  | o :: _, 0, r => o :: r
  | _ :: l, n + 1, r => pickOp l n r
def pickOps (l : List Oper) : List Nat → List Oper
  | [] => []
  | i :: r => pickOp l i (pickOps l r)
def segOf (ops : Array Oper) (idx : List Nat) : List Oper := pickOps ops.toList idx
theorem pickOp_some {r : List Oper} {o : Oper} (l : List Oper) : ∀ (i : Nat), l[i]? = some o → pickOp l i r = o :: r := by
  induction l with
  | nil => intro i h; simp at h
  | cons x l ih =>
    intro i h
    cases i with
    | zero => simp at h; subst h; rfl
    | succ i => exact ih i (by simpa using h)
theorem segOf_cons {ops : Array Oper} {i : Nat} {r : List Nat} {o : Oper} (h : ops[i]? = some o) : segOf ops (i :: r) = o :: segOf ops r := by
  show pickOp ops.toList i (segOf ops r) = _
  exact pickOp_some ops.toList i (by simpa using h)
/-- they may be taken first, one behind the other -/
def segOk (ops : Array Oper) : List Nat → Array Bool → Bool
  | [], _ => true
  | i :: r, listed => (match ops[i]? with | some o => plainOp o | none => false) && Region.free .any ops listed i && (Region.ready .any ops listed).contains i && segOk ops r (listed.setIfInBounds i true)
def segListed : List Nat → Array Bool → Array Bool
  | [], l => l
  | i :: r, l => segListed r (l.setIfInBounds i true)

/-- where the walk through the region stands -/
def Mix (P : Program) (ops : Array Oper) (Q : Exit → Act → World → Prop) (F : World → Prop) (fuel : Nat) (listed : Array Bool) (a : Act) (w : World) : Prop :=
  wpAnyH P .any ops (NoPanic Q) (InHeld F) fuel listed a w

theorem yieldsIf_of_quiet {o : Oper} {a : Act} {v : Value} (hp : plainOp o = true) (hw : Region.wanted o (yielded ops a.tmps) = true) (h : ∀ w, InHeld F w → o.quietAt P a (InHeld F) w v) : YieldsIf P ops (InHeld F) o v a := by
  refine .inl ⟨hw, fun w hS => ?_⟩
  have h1 := h w hS
  unfold Oper.quietAt at h1
  cases hr : (execOp a.eval o).run P w with
  | ok n w' =>
    obtain ⟨u, rfl⟩ := plain_value hp hr
    rw [hr] at h1
    obtain ⟨rfl, rfl⟩ := h1
    rfl
  | halt x w' => rw [hr] at h1; exact absurd h1 (by simp [Oper.quietUpon])

theorem mix_seg_aux (hs : Region.noSelect ops = true) {w : World} (hF : F w) :
    ∀ (idx : List Nat) (fuel : Nat) (listed : Array Bool) (a : Act), segOk ops idx listed = true →
      wpQuiet P ops (InHeld F) (fun a' => Mix P ops Q F fuel (segListed idx listed) a' w) (segOf ops idx) a → Mix P ops Q F (fuel + idx.length) listed a w
  | [], _, _, _, _, h => h
  | i :: r, fuel, listed, a, hok, h => by
    simp only [segOk, Bool.and_eq_true] at hok
    obtain ⟨⟨⟨h1, h2⟩, h3⟩, h4⟩ := hok
    cases ho : ops[i]? with
    | none => rw [ho] at h1; cases h1
    | some o =>
      rw [ho] at h1
      have e : segOf ops (i :: r) = o :: segOf ops r := segOf_cons ho
      rw [e] at h
      unfold wpQuiet at h
      by_cases hw : Region.wanted o (yielded ops a.tmps) = true
      · rw [if_pos hw] at h
        obtain ⟨v, hv, hk⟩ := h
        exact wpAnyH_take ho hs h2 h3 (fun _ _ _ h => h) (yieldsIf_of_quiet h1 hw hv) (InHeld.mk hF) (mix_seg_aux hs hF r fuel _ _ h4 hk)
      · rw [if_neg hw] at h
        exact wpAnyH_take ho hs h2 h3 (fun _ _ _ h => h) (.inr ⟨by simpa using hw, rfl⟩) (InHeld.mk hF) (mix_seg_aux hs hF r fuel _ _ h4 h)

/-- these operations are taken first -/
theorem mix_seg (idx : List Nat) {fuel : Nat} {listed : Array Bool} {a : Act} {w : World} (hok : (segOk ops idx listed && Region.noSelect ops && decide (idx.length ≤ fuel)) = true) (hF : F w)
    (h : wpQuiet P ops (InHeld F) (fun a' => Mix P ops Q F (fuel - idx.length) (segListed idx listed) a' w) (segOf ops idx) a) : Mix P ops Q F fuel listed a w := by
  simp only [Bool.and_eq_true, decide_eq_true_eq] at hok
  obtain ⟨⟨h1, h2⟩, h3⟩ := hok
  have := mix_seg_aux h2 hF idx (fuel - idx.length) listed a h1 h
  rwa [Nat.sub_add_cancel h3] at this

/-- what is asked behind a call -/
def MixPost (P : Program) (ops : Array Oper) (Q : Exit → Act → World → Prop) (F : World → Prop) (fuel : Nat) (listed : Array Bool) : Exit → Act → World → Prop
  | .normal, a, w => F w ∧ Mix P ops Q F fuel listed a w
  | e, a, w => NoPanic Q e a w
theorem MixPost.normal {fuel : Nat} {listed : Array Bool} {a : Act} {w : World} (hF : F w) (h : Mix P ops Q F fuel listed a w) : MixPost P ops Q F fuel listed .normal a w := ⟨hF, h⟩

/-- the one operation that may come up is carried out -/
theorem mix_run (i : Nat) {fuel : Nat} {listed : Array Bool} {a : Act} {w : World} (hr : (Region.ready .any ops listed == [i] && decide (1 ≤ fuel)) = true)
    (h : wpList P ops (MixPost P ops Q F (fuel - 1) (listed.setIfInBounds i true)) (segOf ops [i]) a w) : Mix P ops Q F fuel listed a w := by
  simp only [Bool.and_eq_true, decide_eq_true_eq, beq_iff_eq] at hr
  obtain ⟨hr, hf⟩ := hr
  obtain ⟨n, rfl⟩ : ∃ n, fuel = n + 1 := ⟨fuel - 1, by omega⟩
  refine wpAnyH_all hr (by simp) fun j hj => ?_
  obtain rfl : j = i := by simpa using hj
  unfold wpOp
  cases ho : ops[j]? with
  | none =>
    have hm : j ∈ Region.ready .any ops listed := by rw [hr]; simp
    obtain ⟨_, o, ho', _⟩ := mem_ready.1 hm
    rw [ho] at ho'; cases ho'
  | some o =>
    have e : segOf ops [j] = [o] := segOf_cons ho
    rw [e] at h
    unfold wpList at h
    have hn : ∀ a' w', MixPost P ops Q F (n + 1 - 1) (listed.setIfInBounds j true) .normal a' w' → InHeld F w' ∧ wpAnyH P .any ops (NoPanic Q) (InHeld F) n (listed.setIfInBounds j true) a' w' :=
      fun a' w' h => ⟨InHeld.mk h.1, h.2⟩
    have hl : LetsOut (MixPost P ops Q F (n + 1 - 1) (listed.setIfInBounds j true)) → LetsOut (NoPanic Q) := fun h => h
    simp only
    split
    · rename_i hw
      rw [if_pos hw] at h
      rcases h with h | h
      · refine .inl ?_
        unfold Oper.wp at h ⊢
        generalize (execOp a.eval o).run P w = r at h ⊢
        cases r with
        | ok nx w' =>
          cases nx <;> simp only [Oper.upon] at h ⊢
          case value u => exact hn _ _ h
          case skip => exact hn _ _ h
          case defer d => exact hn _ _ h
          case enter f args =>
            refine Calls.mono h fun e w'' he => ?_
            cases e with
            | returned u => exact hn _ _ he
            | panicked c => exact he
            | outgrown => exact hl he
          case row row args => exact Rows.mono h fun u w'' he => hn _ _ he
        | halt x w' =>
          cases x <;> simp only [Oper.upon] at h ⊢
          case panic u => exact h
      · exact .inr ⟨h.1, hl h.2⟩
    · rename_i hw
      rw [if_neg hw] at h
      exact hn _ _ h

/-- several operations may come up: each of them is carried out, in an arm of its own -/
theorem mix_several (l : List Nat) {fuel : Nat} {listed : Array Bool} {a : Act} {w : World} (hr : (Region.ready .any ops listed == l && decide (1 ≤ fuel) && !l.isEmpty) = true)
    (h : ∀ i ∈ l, wpList P ops (MixPost P ops Q F (fuel - 1) (listed.setIfInBounds i true)) (segOf ops [i]) a w) : Mix P ops Q F fuel listed a w := by
  simp only [Bool.and_eq_true, decide_eq_true_eq, beq_iff_eq] at hr
  obtain ⟨⟨hr, hf⟩, hne⟩ := hr
  obtain ⟨n, rfl⟩ : ∃ n, fuel = n + 1 := ⟨fuel - 1, by omega⟩
  refine wpAnyH_all hr (by rintro rfl; simp at hne) fun j hj => ?_
  replace h := h j hj
  unfold wpOp
  cases ho : ops[j]? with
  | none =>
    have hm : j ∈ Region.ready .any ops listed := by rw [hr]; exact hj
    obtain ⟨_, o, ho', _⟩ := mem_ready.1 hm
    rw [ho] at ho'; cases ho'
  | some o =>
    have e : segOf ops [j] = [o] := segOf_cons ho
    rw [e] at h
    unfold wpList at h
    have hn : ∀ a' w', MixPost P ops Q F (n + 1 - 1) (listed.setIfInBounds j true) .normal a' w' → InHeld F w' ∧ wpAnyH P .any ops (NoPanic Q) (InHeld F) n (listed.setIfInBounds j true) a' w' :=
      fun a' w' h => ⟨InHeld.mk h.1, h.2⟩
    have hl : LetsOut (MixPost P ops Q F (n + 1 - 1) (listed.setIfInBounds j true)) → LetsOut (NoPanic Q) := fun h => h
    simp only
    split
    · rename_i hw
      rw [if_pos hw] at h
      rcases h with h | h
      · refine .inl ?_
        unfold Oper.wp at h ⊢
        generalize (execOp a.eval o).run P w = r at h ⊢
        cases r with
        | ok nx w' =>
          cases nx <;> simp only [Oper.upon] at h ⊢
          case value u => exact hn _ _ h
          case skip => exact hn _ _ h
          case defer d => exact hn _ _ h
          case enter f args =>
            refine Calls.mono h fun e w'' he => ?_
            cases e with
            | returned u => exact hn _ _ he
            | panicked c => exact he
            | outgrown => exact hl he
          case row row args => exact Rows.mono h fun u w'' he => hn _ _ he
        | halt x w' =>
          cases x <;> simp only [Oper.upon] at h ⊢
          case panic u => exact h
      · exact .inr ⟨h.1, hl h.2⟩
    · rename_i hw
      rw [if_neg hw] at h
      exact hn _ _ h

/-- the beginning: F names what is kept all through the region -/
theorem mix_start {id : Nat} {a : Act} {w : World} (F : World → Prop) (hm : P.follows .mixedOrders = true) (h : Mix P ops Q F ops.size (Array.replicate ops.size false) a w.drew) : (Code.region id ops true).wp P Q a w :=
  wp_region_noPanic (wp_region_held hm h)
/-- the end -/
theorem mix_done {fuel : Nat} {listed : Array Bool} {a : Act} {w : World} (hr : (Region.ready .any ops listed == []) = true) (h : Q .normal a w) : Mix P ops Q F fuel listed a w :=
  wpAnyH_done (Q := NoPanic Q) (by simpa using hr) (NoPanic.normal h) fuel
end
end Go.Proofs.YtlkneapidmdpbaaGreatDoor

namespace Go.Proofs.YtlkneapidmdpbaaGreatDoor

/-- texts cut at each c -/
def glue1 (b : UInt8) : List (List UInt8) → List (List UInt8)
  | [] => [[b]]
  | p :: r => (b :: p) :: r
def parts (c : UInt8) : List UInt8 → List (List UInt8)
  | [] => [[]]
  | b :: l => if b = c then [] :: parts c l else glue1 b (parts c l)
theorem parts_none (c : UInt8) : ∀ l : List UInt8, (∀ b ∈ l, b ≠ c) → parts c l = [l]
  | [], _ => rfl
  | b :: l, h => by
    rw [parts, if_neg (h b (List.mem_cons_self ..)), parts_none c l (fun x hx => h x (List.mem_cons_of_mem _ hx))]; rfl
theorem parts_at (c : UInt8) : ∀ (a b : List UInt8), (∀ x ∈ a, x ≠ c) → parts c (a ++ c :: b) = a :: parts c b
  | [], b, _ => by rw [List.nil_append, parts, if_pos rfl]
  | x :: a, b, h => by
    rw [List.cons_append, parts, if_neg (h x (List.mem_cons_self ..)), parts_at c a b (fun y hy => h y (List.mem_cons_of_mem _ hy))]; rfl
theorem parts_ne (c : UInt8) : ∀ l : List UInt8, parts c l ≠ []
  | [] => by simp [parts]
  | b :: l => by
    rw [parts]; split
    · simp
    · cases h : parts c l <;> simp [glue1]
theorem parts_mem (c : UInt8) : ∀ (l : List UInt8) (b : UInt8), b ∈ l → b ≠ c → ∃ p ∈ parts c l, b ∈ p
  | [], b, h, _ => by simp at h
  | x :: l, b, h, hb => by
    rw [parts]
    by_cases hx : x = c
    · rw [if_pos hx]
      rcases List.mem_cons.1 h with rfl | h
      · exact absurd hx hb
      · obtain ⟨p, hp, hbp⟩ := parts_mem c l b h hb
        exact ⟨p, List.mem_cons_of_mem _ hp, hbp⟩
    · rw [if_neg hx]
      cases hl : parts c l with
      | nil => exact absurd hl (parts_ne c l)
      | cons q r =>
        rcases List.mem_cons.1 h with rfl | h
        · exact ⟨b :: q, by simp [glue1], by simp⟩
        · obtain ⟨p, hp, hbp⟩ := parts_mem c l b h hb
          rw [hl] at hp
          rcases List.mem_cons.1 hp with rfl | hp
          · exact ⟨x :: p, by simp [glue1], List.mem_cons_of_mem _ hbp⟩
          · exact ⟨p, by simp [glue1, hp], hbp⟩
theorem at_cases (c : UInt8) : ∀ l : List UInt8, (∀ b ∈ l, b ≠ c) ∨ ∃ a b, l = a ++ c :: b ∧ ∀ x ∈ a, x ≠ c
  | [] => .inl (by simp)
  | x :: l => by
    by_cases hx : x = c
    · exact .inr ⟨[], l, by rw [hx]; rfl, by simp⟩
    · rcases at_cases c l with h | ⟨a, b, e, h⟩
      · exact .inl (fun y hy => by rcases List.mem_cons.1 hy with rfl | hy; exact hx; exact h y hy)
      · exact .inr ⟨x :: a, b, by rw [e]; rfl, fun y hy => by rcases List.mem_cons.1 hy with rfl | hy; exact hx; exact h y hy⟩

/-- a byte of a label; a label; a host -/
def hostB (c : Int) : Bool := Lk.smB c || Lk.digB c || c == 45
def labelL (l : List UInt8) : Bool := decide (1 ≤ l.length) && decide (l.length ≤ 63) && l.all (fun b => hostB b.toNat) && (l.head? != some 45) && (l.getLast? != some 45)
def hostL (l : List UInt8) : Bool := decide (l.length ≤ 253) && (parts 46 l).all labelL
def defL (l : List UInt8) : Int := if l = [104, 116, 116, 112] then 80 else if l = [104, 116, 116, 112, 115] then 443 else 0
def checkL (sc h : List UInt8) (p : Int) : Bool := (defL sc != 0) && hostL h && decide (1 ≤ p) && decide (p ≤ 65535)
def keyL (sc h : List UInt8) (p : Int) : List UInt8 := if checkL sc h p then sc ++ [58, 47, 47] ++ h ++ [58] ++ numL p.toNat else []
def showL (sc h : List UInt8) (p : Int) : List UInt8 := if checkL sc h p then (if p = defL sc then sc ++ [58, 47, 47] ++ h else sc ++ [58, 47, 47] ++ h ++ [58] ++ numL p.toNat) else []

/-- what stands ahead of the first :// and what stands behind it -/
def seek : List UInt8 → Option (List UInt8 × List UInt8)
  | [] => none
  | b :: l => if [58, 47, 47].isPrefixOf (b :: l) then some ([], (b :: l).drop 3) else (seek l).map (fun p => (b :: p.1, p.2))
theorem index_seek : ∀ l : List UInt8, Lib.index l [58, 47, 47] = match seek l with | some (a, _) => (a.length : Int) | none => -1
  | [] => rfl
  | b :: l => by
    rw [Lib.index, seek]
    by_cases h : [58, 47, 47].isPrefixOf (b :: l) = true
    · rw [if_pos h, if_pos h]; rfl
    · rw [if_neg h, if_neg h, index_seek l]
      cases seek l with
      | none => rfl
      | some p =>
        have : ((p.1.length : Int) == -1) = false := by rw [beq_eq_false_iff_ne]; omega
        simp [this]
theorem seek_eq : ∀ (l a b : List UInt8), seek l = some (a, b) → l = a ++ [58, 47, 47] ++ b
  | [], a, b, h => by simp [seek] at h
  | x :: l, a, b, h => by
    rw [seek] at h
    by_cases hp : [58, 47, 47].isPrefixOf (x :: l) = true
    · rw [if_pos hp] at h
      simp only [Option.some.injEq, Prod.mk.injEq] at h
      obtain ⟨rfl, rfl⟩ := h
      rw [List.isPrefixOf_iff_prefix] at hp
      obtain ⟨t, ht⟩ := hp
      rw [← ht]; simp
    · rw [if_neg hp] at h
      cases hs : seek l with
      | none => rw [hs] at h; simp at h
      | some p =>
        rw [hs] at h
        simp only [Option.map_some, Option.some.injEq, Prod.mk.injEq] at h
        obtain ⟨rfl, rfl⟩ := h
        rw [seek_eq l p.1 p.2 hs]; simp
theorem cut_seek (l : List UInt8) : Lib.cut l [58, 47, 47] = match seek l with | some (a, b) => (a, b, true) | none => (l, [], false) := by
  rw [Lib.cut, index_seek]
  cases hs : seek l with
  | none => rfl
  | some p =>
    obtain ⟨a, b⟩ := p
    have e := seek_eq l a b hs
    simp only [Int.toNat_natCast, List.length_cons, List.length_nil]
    rw [if_pos (by omega)]
    subst e
    simp
theorem seek_mk : ∀ (a b : List UInt8), (∀ x ∈ a, x ≠ 58) → seek (a ++ [58, 47, 47] ++ b) = some (a, b)
  | [], b, _ => by simp [seek]
  | x :: a, b, h => by
    have hx : x ≠ 58 := h x (List.mem_cons_self ..)
    have ih := seek_mk a b (fun y hy => h y (List.mem_cons_of_mem _ hy))
    show seek (x :: (a ++ [58, 47, 47] ++ b)) = _
    have hp : [58, 47, 47].isPrefixOf (x :: (a ++ [58, 47, 47] ++ b)) = false := by
      rw [List.isPrefixOf]
      have : ((58 : UInt8) == x) = false := by rw [beq_eq_false_iff_ne]; exact Ne.symm hx
      rw [this]; rfl
    rw [seek, hp, ih]; rfl

theorem low_low58 (b : UInt8) : Lk.lowU b = 58 ↔ b = 58 := by
  have h : ∀ n : Fin 256, (Lk.lowU (UInt8.ofNat n.val) = 58 ↔ UInt8.ofNat n.val = 58) := by decide +kernel
  have := h ⟨b.toNat, by have := b.toNat_lt; omega⟩
  simpa using this
theorem low_low47 (b : UInt8) : Lk.lowU b = 47 ↔ b = 47 := by
  have h : ∀ n : Fin 256, (Lk.lowU (UInt8.ofNat n.val) = 47 ↔ UInt8.ofNat n.val = 47) := by decide +kernel
  have := h ⟨b.toNat, by have := b.toNat_lt; omega⟩
  simpa using this
theorem beq58 (b : UInt8) : ((58 : UInt8) == Lk.lowU b) = ((58 : UInt8) == b) := by
  rw [Bool.eq_iff_iff, beq_iff_eq, beq_iff_eq]
  exact ⟨fun h => ((low_low58 b).1 h.symm).symm, fun h => ((low_low58 b).2 h.symm).symm⟩
theorem beq47 (b : UInt8) : ((47 : UInt8) == Lk.lowU b) = ((47 : UInt8) == b) := by
  rw [Bool.eq_iff_iff, beq_iff_eq, beq_iff_eq]
  exact ⟨fun h => ((low_low47 b).1 h.symm).symm, fun h => ((low_low47 b).2 h.symm).symm⟩
theorem pre_lower (l : List UInt8) : [58, 47, 47].isPrefixOf (Lk.lower l) = [58, 47, 47].isPrefixOf l := by
  match l with
  | [] => rfl
  | [a] => simp [Lk.lower, List.isPrefixOf]
  | [a, b] => simp [Lk.lower, List.isPrefixOf]
  | a :: b :: c :: r => simp only [Lk.lower, List.map_cons, List.isPrefixOf, beq58, beq47]
theorem seek_lower : ∀ l : List UInt8, seek (Lk.lower l) = (seek l).map (fun p => (Lk.lower p.1, Lk.lower p.2))
  | [] => rfl
  | b :: l => by
    have e : Lk.lower (b :: l) = Lk.lowU b :: Lk.lower l := rfl
    have hp := pre_lower (b :: l)
    rw [e] at hp ⊢
    rw [seek, seek, hp, seek_lower l]
    split
    · simp [Lk.lower]
    · cases seek l <;> rfl

/-- what stands ahead of the first c and, where there is one, what stands behind it -/
def split1 (c : UInt8) : List UInt8 → List UInt8 × Option (List UInt8)
  | [] => ([], none)
  | b :: l => if b = c then ([], some l) else (b :: (split1 c l).1, (split1 c l).2)
theorem split1_none (c : UInt8) : ∀ l : List UInt8, (∀ b ∈ l, b ≠ c) → split1 c l = (l, none)
  | [], _ => rfl
  | b :: l, h => by rw [split1, if_neg (h b (List.mem_cons_self ..)), split1_none c l (fun x hx => h x (List.mem_cons_of_mem _ hx))]
theorem split1_at (c : UInt8) : ∀ (a b : List UInt8), (∀ x ∈ a, x ≠ c) → split1 c (a ++ c :: b) = (a, some b)
  | [], b, _ => by rw [List.nil_append, split1, if_pos rfl]
  | x :: a, b, h => by rw [List.cons_append, split1, if_neg (h x (List.mem_cons_self ..)), split1_at c a b (fun y hy => h y (List.mem_cons_of_mem _ hy))]
theorem split1_lower : ∀ l : List UInt8, split1 58 (Lk.lower l) = (Lk.lower (split1 58 l).1, (split1 58 l).2.map Lk.lower)
  | [] => rfl
  | b :: l => by
    have e : Lk.lower (b :: l) = Lk.lowU b :: Lk.lower l := rfl
    rw [e, split1, split1, split1_lower l]
    by_cases h : b = 58
    · rw [if_pos h, if_pos ((low_low58 b).2 h)]; rfl
    · rw [if_neg h, if_neg (fun x => h ((low_low58 b).1 x))]; rfl

def portL (d : List UInt8) : Nat := if 5 < d.length ∨ d.head? = some 48 then 0 else if Lk.digL d then Lk.valL d else 0
def portAt (sc : List UInt8) : Option (List UInt8) → Int
  | none => defL sc
  | some d => portL d
/-- what a text is read as -/
def parseL (l : List UInt8) : Option (List UInt8 × List UInt8 × Int) :=
  match seek (Lk.lower l) with
  | none => none
  | some (sc, r) => if checkL sc (split1 58 r).1 (portAt sc (split1 58 r).2) then some (sc, (split1 58 r).1, portAt sc (split1 58 r).2) else none
theorem parse_check {l a b : List UInt8} {p : Int} (h : parseL l = some (a, b, p)) : checkL a b p = true := by
  unfold parseL at h
  cases hs : seek (Lk.lower l) with
  | none => rw [hs] at h; simp at h
  | some q =>
    rw [hs] at h
    simp only at h
    split at h
    · rename_i hc
      simp only [Option.some.injEq, Prod.mk.injEq] at h
      obtain ⟨rfl, rfl, rfl⟩ := h
      exact hc
    · cases h
end Go.Proofs.YtlkneapidmdpbaaGreatDoor

namespace Go.Proofs.YtlkneapidmdpbaaGreatDoor

theorem numF_from (n : Nat) (f : Nat) (h : n < 10 ^ (f + 1)) : ∀ k, numF f n = numF (f + k) n
  | 0 => rfl
  | k + 1 => by
    rw [numF_from n f h k, Nat.add_succ]
    refine numF_more (f + k) n (Nat.lt_of_lt_of_le h (Nat.pow_le_pow_right (by omega) (by omega)))
theorem numL_len5 {n : Nat} (h : n ≤ 65535) : (numL n).length ≤ 5 := by
  have e : numL n = numF 4 n := (numF_from n 4 (by omega) 21).symm
  rw [e]; exact (numF_ok 4 n (by omega)).2.2
theorem digL_ne {l : List UInt8} (h : Lk.digL l = true) : l ≠ [] := by
  rintro rfl; simp [Lk.digL] at h
theorem numL_ne {n : Nat} (h : n ≤ Lk.M64) : numL n ≠ [] := digL_ne (numL_ok h).1
theorem ofNat48 {k : Nat} (h : k ≤ 9) (h0 : 1 ≤ k) : UInt8.ofNat (48 + k) ≠ 48 := by
  intro e
  have := congrArg UInt8.toNat e
  rw [dig_byte h] at this
  simp at this
  omega
theorem numL_head (n : Nat) : 1 ≤ n → n ≤ Lk.M64 → (numL n).head? ≠ some 48 := by
  induction n using Nat.strongRecOn with
  | _ n ih =>
    intro h1 hm
    by_cases h9 : n ≤ 9
    · rw [numL_small h9]
      simp only [List.head?_cons, ne_eq, Option.some.injEq]
      exact ofNat48 h9 h1
    · have hm' : n / 10 ≤ Lk.M64 := by unfold Lk.M64 at *; omega
      rw [numL_big h9 (by unfold Lk.M64 at hm; omega)]
      cases hl : numL (n / 10) with
      | nil => exact absurd hl (numL_ne hm')
      | cons b r =>
        have := ih (n / 10) (by omega) (by omega) hm'
        rw [hl] at this
        simpa using this
theorem port_num {n : Nat} (h1 : 1 ≤ n) (h2 : n ≤ 65535) : portL (numL n) = n := by
  have hm : n ≤ Lk.M64 := by unfold Lk.M64; omega
  obtain ⟨a, b, _⟩ := numL_ok hm
  rw [portL, if_neg (by rintro (h | h); have := numL_len5 h2; omega; exact numL_head n h1 hm h), if_pos a, b]
theorem port_num_or {n : Nat} (h : n ≤ Lk.M64) : portL (numL n) = 0 ∨ portL (numL n) = n := by
  obtain ⟨a, b, _⟩ := numL_ok h
  rw [portL]
  split
  · exact .inl rfl
  · exact .inr b
theorem port_zero (l : List UInt8) (h : l.head? = some 48) : portL l = 0 := by rw [portL, if_pos (.inr h)]
theorem num_zero : numL 0 = [48] := by rw [numL_small (by omega)]; rfl

theorem val_cons_pos : ∀ (l : List UInt8) (b : UInt8), b.toNat - 48 ≥ 1 → 1 ≤ Lk.valL (b :: l) := by
  intro l b hb
  unfold Lk.valL
  simp only [List.foldl_cons]
  have : ∀ (l : List UInt8) (n : Nat), 1 ≤ n → 1 ≤ l.foldl (fun n b => 10 * n + (b.toNat - 48)) n := by
    intro l
    induction l with
    | nil => intro n h; exact h
    | cons x l ih => intro n h; exact ih _ (by show 1 ≤ 10 * n + (x.toNat - 48); omega)
  exact this l _ (by omega)
theorem dig_all {l : List UInt8} (h : Lk.digL l = true) : ∀ b ∈ l, 48 ≤ b.toNat ∧ b.toNat ≤ 57 := by
  intro b hb
  unfold Lk.digL at h
  rw [Bool.and_eq_true, List.all_eq_true] at h
  have := h.1 b hb
  simp [Lk.digB] at this
  omega
theorem dig_of {l : List UInt8} (h : ∀ b ∈ l, 48 ≤ b.toNat ∧ b.toNat ≤ 57) (hn : l ≠ []) : Lk.digL l = true := by
  unfold Lk.digL
  rw [Bool.and_eq_true, List.all_eq_true]
  refine ⟨fun b hb => ?_, by simpa using hn⟩
  have := h b hb
  simp [Lk.digB]
  omega
theorem val_lt : ∀ (l : List UInt8), Lk.digL l = true → Lk.valL l < 10 ^ l.length := by
  intro l
  have : ∀ (l : List UInt8) (n : Nat), (∀ b ∈ l, b.toNat ≤ 57) → l.foldl (fun n b => 10 * n + (b.toNat - 48)) n < (n + 1) * 10 ^ l.length := by
    intro l
    induction l with
    | nil => intro n _; simp
    | cons x l ih =>
      intro n h
      rw [List.foldl_cons]
      refine Nat.lt_of_lt_of_le (ih _ (fun b hb => h b (List.mem_cons_of_mem _ hb))) ?_
      have hx := h x (List.mem_cons_self ..)
      rw [List.length_cons, Nat.pow_succ, Nat.mul_comm (10 ^ l.length) 10, ← Nat.mul_assoc]
      exact Nat.mul_le_mul_right _ (by omega)
  intro h
  have := this l 0 (fun b hb => (dig_all h b hb).2)
  simpa [Lk.valL] using this
/-- digits without a nought ahead are the number's own -/
theorem num_val (l : List UInt8) : l.length ≤ 20 → Lk.digL l = true → l.head? ≠ some 48 → numL (Lk.valL l) = l := by
  induction hn : l.length generalizing l with
  | zero => intro _ h _; exact absurd (List.length_eq_zero_iff.1 hn) (digL_ne h)
  | succ n ih =>
    intro hl hd hh
    rcases List.eq_nil_or_concat l with rfl | ⟨r, b, rfl⟩
    · simp at hn
    rw [List.concat_eq_append] at *
    have hb := dig_all hd b (by simp)
    have eb : UInt8.ofNat (48 + (b.toNat - 48)) = b := by rw [show 48 + (b.toNat - 48) = b.toNat by omega]; exact UInt8.ofNat_toNat
    rw [Lk.val_snoc]
    have hrl : r.length = n := by simpa using hn
    cases hr : r with
    | nil =>
      have : Lk.valL [] = 0 := rfl
      rw [this, numL_small (by omega)]
      simp [eb]
    | cons c r' =>
      rw [← hr]
      have hd' : Lk.digL r = true := dig_of (fun x hx => dig_all hd x (by simp [hx])) (by rw [hr]; simp)
      have hh' : r.head? ≠ some 48 := by rw [hr] at hh ⊢; simpa using hh
      have hc := dig_all hd' c (by rw [hr]; simp)
      have hc48 : c ≠ 48 := by rw [hr] at hh'; simpa using hh'
      have hcn : c.toNat ≠ 48 := fun h => hc48 (UInt8.toNat_inj.1 (by simpa using h))
      have hv : 1 ≤ Lk.valL r := by rw [hr]; exact val_cons_pos r' c (by omega)
      have hlt := val_lt r hd'
      have hp : (10 : Nat) ^ r.length ≤ 10 ^ 20 := Nat.pow_le_pow_right (by omega) (by omega)
      rw [numL_big (by omega) (by omega), show (10 * Lk.valL r + (b.toNat - 48)) / 10 = Lk.valL r by omega, show (10 * Lk.valL r + (b.toNat - 48)) % 10 = b.toNat - 48 by omega, eb]
      rw [ih r hrl (by omega) hd' hh']

/-- texts that small letters leave alone -/
theorem lowU_dig {b : UInt8} (h : b.toNat < 65 ∨ 90 < b.toNat) : Lk.lowU b = b := by
  apply Lk.u8_eq
  rw [Lk.lowU_toNat, Lk.lowI_not (by omega)]
theorem lower_id {l : List UInt8} (h : ∀ b ∈ l, b.toNat < 65 ∨ 90 < b.toNat) : Lk.lower l = l := by
  unfold Lk.lower
  conv => rhs; rw [← List.map_id l]
  exact List.map_congr_left (fun b hb => lowU_dig (h b hb))
theorem lower_dig {l : List UInt8} (h : Lk.digL l = true) : Lk.lower l = l := lower_id (fun b hb => by have := dig_all h b hb; omega)
theorem dig_lower (l : List UInt8) : Lk.digL (Lk.lower l) = true → Lk.digL l = true := by
  intro h
  refine dig_of (fun b hb => ?_) (by rintro rfl; simp [Lk.digL, Lk.lower] at h)
  have := dig_all h (Lk.lowU b) (List.mem_map_of_mem hb)
  have e := Lk.lowU_toNat b
  rcases Int.lt_or_le (b.toNat : Int) 65 with h1 | h1
  · rw [Lk.lowI_not (.inl h1)] at e; omega
  · rcases Int.lt_or_le 90 (b.toNat : Int) with h2 | h2
    · rw [Lk.lowI_not (.inr h2)] at e; omega
    · rw [Lk.lowI_up h1 h2] at e; omega

/-- the reference's reading of a port -/
def okC (d : List UInt8) (most : Nat) : Bool := Lk.digL d && decide (d.length ≤ 20) && (numL (Lk.sat (Lk.valL d)) == d) && decide (Lk.sat (Lk.valL d) ≤ most)
theorem sat_small {n m : Nat} (h : Lk.sat n ≤ m) (hm : m < Lk.M64) : Lk.sat n = n := by unfold Lk.sat Lk.M64 at *; omega
theorem okC_port {d : List UInt8} (h : okC d 65535 = true) (h1 : 1 ≤ Lk.sat (Lk.valL d)) : portL (Lk.lower d) = Lk.sat (Lk.valL d) := by
  unfold okC at h
  simp only [Bool.and_eq_true, decide_eq_true_eq, beq_iff_eq] at h
  obtain ⟨⟨⟨a, b⟩, c⟩, e⟩ := h
  rw [lower_dig a]
  conv => lhs; rw [← c]
  exact port_num h1 e
theorem okC_not {d : List UInt8} (h : okC d 65535 = false ∨ Lk.sat (Lk.valL d) < 1) : portL (Lk.lower d) = 0 ∨ 65535 < portL (Lk.lower d) := by
  rcases Nat.eq_zero_or_pos (portL (Lk.lower d)) with h0 | h0
  · exact .inl h0
  refine .inr ?_
  rw [portL] at h0 ⊢
  by_cases hx : 5 < (Lk.lower d).length ∨ (Lk.lower d).head? = some 48
  · rw [if_pos hx] at h0; omega
  rw [if_neg hx] at h0 ⊢
  cases hd : Lk.digL (Lk.lower d)
  · rw [hd] at h0; simp at h0
  rw [hd] at h0
  rw [if_pos rfl] at h0 ⊢
  have hd2 := dig_lower d hd
  rw [lower_dig hd2] at h0 hx ⊢
  have hl : d.length ≤ 5 := by omega
  have hh : d.head? ≠ some 48 := fun e => hx (.inr e)
  have hlt := val_lt d hd2
  have hp : (10 : Nat) ^ d.length ≤ 10 ^ 5 := Nat.pow_le_pow_right (by omega) hl
  have hsat : Lk.sat (Lk.valL d) = Lk.valL d := by unfold Lk.sat Lk.M64; omega
  rcases h with h | h
  · have hnv := num_val d (by omega) hd2 hh
    unfold okC at h
    rw [hsat, hnv, hd2] at h
    simp at h
    have := h (by omega)
    omega
  · rw [hsat] at h; omega
theorem check_port {sc h : List UInt8} {n : Nat} (hn : n = 0 ∨ 65535 < n) : checkL sc h (n : Int) = false := by
  unfold checkL
  rcases hn with rfl | hn
  · simp
  · have : decide ((n : Int) ≤ 65535) = false := by simp; omega
    rw [this]; simp

/-- what a scheme, a host that may be look like -/
theorem def_cases {sc : List UInt8} (h : defL sc ≠ 0) : (sc = [104, 116, 116, 112] ∧ defL sc = 80) ∨ (sc = [104, 116, 116, 112, 115] ∧ defL sc = 443) := by
  unfold defL at h ⊢
  by_cases h1 : sc = [104, 116, 116, 112]
  · exact .inl ⟨h1, if_pos h1⟩
  · rw [if_neg h1] at h ⊢
    by_cases h2 : sc = [104, 116, 116, 112, 115]
    · exact .inr ⟨h2, if_pos h2⟩
    · rw [if_neg h2] at h; exact absurd rfl h
theorem check_parts {sc h : List UInt8} {p : Int} (hc : checkL sc h p = true) : defL sc ≠ 0 ∧ hostL h = true ∧ 1 ≤ p ∧ p ≤ 65535 := by
  unfold checkL at hc
  simp only [Bool.and_eq_true, decide_eq_true_eq, bne_iff_ne] at hc
  exact ⟨hc.1.1.1, hc.1.1.2, hc.1.2, hc.2⟩
theorem host_bytes {h : List UInt8} (hh : hostL h = true) : ∀ b ∈ h, b = 46 ∨ hostB b.toNat = true := by
  intro b hb
  by_cases h46 : b = 46
  · exact .inl h46
  · obtain ⟨p, hp, hbp⟩ := parts_mem 46 h b hb h46
    unfold hostL at hh
    rw [Bool.and_eq_true, List.all_eq_true] at hh
    have := hh.2 p hp
    unfold labelL at this
    simp only [Bool.and_eq_true, List.all_eq_true] at this
    exact .inr (this.1.1.2 b hbp)
theorem hostB_bd {b : UInt8} (h : hostB b.toNat = true) : (97 ≤ b.toNat ∧ b.toNat ≤ 122) ∨ (48 ≤ b.toNat ∧ b.toNat ≤ 57) ∨ b.toNat = 45 := by
  unfold hostB Lk.smB Lk.digB at h
  simp at h
  omega
theorem host_small {h : List UInt8} (hh : hostL h = true) : ∀ b ∈ h, (b.toNat < 65 ∨ 90 < b.toNat) ∧ b ≠ 58 := by
  intro b hb
  rcases host_bytes hh b hb with rfl | hx
  · decide
  · have := hostB_bd hx
    refine ⟨by omega, ?_⟩
    rintro rfl
    simp at this
theorem scheme_small {sc : List UInt8} (h : defL sc ≠ 0) : (∀ b ∈ sc, (b.toNat < 65 ∨ 90 < b.toNat) ∧ b ≠ 58) ∧ sc.length ≤ 5 := by
  rcases def_cases h with ⟨rfl, _⟩ | ⟨rfl, _⟩ <;> decide
theorem host_len {h : List UInt8} (hh : hostL h = true) : h.length ≤ 253 := by
  unfold hostL at hh
  rw [Bool.and_eq_true, decide_eq_true_eq] at hh
  exact hh.1
theorem parse_key {sc h : List UInt8} {p : Int} (hc : checkL sc h p = true) : parseL (sc ++ [58, 47, 47] ++ h ++ [58] ++ numL p.toNat) = some (sc, h, p) := by
  obtain ⟨h1, h2, h3, h4⟩ := check_parts hc
  have hs := (scheme_small h1).1
  have hh := host_small h2
  have hp : p.toNat ≤ 65535 := by omega
  have hnd := (numL_ok (n := p.toNat) (by unfold Lk.M64; omega)).1
  have hlow : Lk.lower (sc ++ [58, 47, 47] ++ h ++ [58] ++ numL p.toNat) = sc ++ [58, 47, 47] ++ (h ++ 58 :: numL p.toNat) := by
    rw [lower_id]
    · simp
    · intro b hb
      simp only [List.mem_append, List.mem_cons, List.not_mem_nil, or_false] at hb
      rcases hb with ((((hb | rfl | rfl | rfl) | hb) | rfl) | hb)
      · exact (hs b hb).1
      · decide
      · decide
      · decide
      · exact (hh b hb).1
      · decide
      · have := dig_all hnd b hb; omega
  unfold parseL
  rw [hlow, seek_mk _ _ (fun x hx => (hs x hx).2)]
  simp only [split1_at 58 h (numL p.toNat) (fun x hx => (hh x hx).2), portAt]
  have e : ((portL (numL p.toNat) : Nat) : Int) = p := by rw [port_num (by omega) hp]; omega
  rw [e, if_pos hc]
theorem parse_bare {sc h : List UInt8} {p : Int} (hc : checkL sc h p = true) (hd : p = defL sc) : parseL (sc ++ [58, 47, 47] ++ h) = some (sc, h, p) := by
  obtain ⟨h1, h2, h3, h4⟩ := check_parts hc
  have hs := (scheme_small h1).1
  have hh := host_small h2
  have hlow : Lk.lower (sc ++ [58, 47, 47] ++ h) = sc ++ [58, 47, 47] ++ h := by
    rw [lower_id]
    intro b hb
    simp only [List.mem_append, List.mem_cons, List.not_mem_nil, or_false] at hb
    rcases hb with ((hb | rfl | rfl | rfl) | hb)
    · exact (hs b hb).1
    · decide
    · decide
    · decide
    · exact (hh b hb).1
  unfold parseL
  rw [hlow, seek_mk _ _ (fun x hx => (hs x hx).2)]
  simp only [split1_none 58 h (fun x hx => (hh x hx).2), portAt]
  rw [← hd, if_pos hc]
theorem parse_show {sc h : List UInt8} {p : Int} (hc : checkL sc h p = true) : parseL (showL sc h p) = some (sc, h, p) := by
  rw [showL, if_pos hc]
  split
  · rename_i hd; exact parse_bare hc hd
  · exact parse_key hc
theorem key_eq {sc h : List UInt8} {p : Int} (hc : checkL sc h p = true) : keyL sc h p = sc ++ [58, 47, 47] ++ h ++ [58] ++ numL p.toNat := by rw [keyL, if_pos hc]
theorem parse_keyL {sc h : List UInt8} {p : Int} (hc : checkL sc h p = true) : parseL (keyL sc h p) = some (sc, h, p) := by rw [key_eq hc, parse_key hc]
theorem key_len {sc h : List UInt8} {p : Int} : (keyL sc h p).length ≤ 270 := by
  cases hc : checkL sc h p
  · rw [keyL, hc]; simp
  · rw [key_eq hc]
    obtain ⟨h1, h2, h3, h4⟩ := check_parts hc
    have a := (scheme_small h1).2
    have b := host_len h2
    have c := numL_len5 (n := p.toNat) (by omega)
    simp; omega
theorem show_len {sc h : List UInt8} {p : Int} : (showL sc h p).length ≤ 270 := by
  cases hc : checkL sc h p
  · rw [showL, hc]; simp
  · rw [showL, if_pos hc]
    obtain ⟨h1, h2, h3, h4⟩ := check_parts hc
    have a := (scheme_small h1).2
    have b := host_len h2
    have c := numL_len5 (n := p.toNat) (by omega)
    split
    · simp; omega
    · simp; omega
theorem show_inj {sc h sc' h' : List UInt8} {p p' : Int} (hc : checkL sc h p = true) (hc' : checkL sc' h' p' = true) (e : showL sc h p = showL sc' h' p') : sc = sc' ∧ h = h' ∧ p = p' := by
  have a := parse_show hc
  rw [e, parse_show hc'] at a
  simp at a
  exact ⟨a.1.symm, a.2.1.symm, a.2.2.symm⟩
theorem key_inj {sc h sc' h' : List UInt8} {p p' : Int} (hc : checkL sc h p = true) (hc' : checkL sc' h' p' = true) (e : keyL sc h p = keyL sc' h' p') : sc = sc' ∧ h = h' ∧ p = p' := by
  have a := parse_keyL hc
  rw [e, parse_keyL hc'] at a
  simp at a
  exact ⟨a.1.symm, a.2.1.symm, a.2.2.symm⟩
end Go.Proofs.YtlkneapidmdpbaaGreatDoor

namespace Go.Proofs.YtlkneapidmdpbaaGreatDoor

/-- 1: a segment is single; 2: it is double; 0: neither -/
def dotsT (t : List UInt8) : Int :=
  if t = [46] ∨ t = [37, 50, 101] then 1 else if t = [46, 46] ∨ t = [46, 37, 50, 101] ∨ t = [37, 50, 101, 46] ∨ t = [37, 50, 101, 37, 50, 101] then 2 else 0
def dotsL (l : List UInt8) : Int := dotsT (Lk.lower l)
theorem dots_cases (l : List UInt8) : dotsL l = 0 ∨ dotsL l = 1 ∨ dotsL l = 2 := by
  unfold dotsL dotsT; split; exact .inr (.inl rfl); split; exact .inr (.inr rfl); exact .inl rfl
theorem dots_nil : dotsL [] = 0 := by decide
theorem dots_len {l : List UInt8} (h : dotsL l ≠ 0) : 1 ≤ l.length ∧ l.length ≤ 6 := by
  have e : (Lk.lower l).length = l.length := Lk.lower_len l
  unfold dotsL dotsT at h
  by_cases h1 : Lk.lower l = [46] ∨ Lk.lower l = [37, 50, 101]
  · rcases h1 with h1 | h1 <;> rw [h1] at e <;> simp at e <;> omega
  · rw [if_neg h1] at h
    by_cases h2 : Lk.lower l = [46, 46] ∨ Lk.lower l = [46, 37, 50, 101] ∨ Lk.lower l = [37, 50, 101, 46] ∨ Lk.lower l = [37, 50, 101, 37, 50, 101]
    · rcases h2 with h2 | h2 | h2 | h2 <;> rw [h2] at e <;> simp at e <;> omega
    · rw [if_neg h2] at h; exact absurd rfl h
theorem dots_long {l : List UInt8} (h : 6 < l.length) : dotsL l = 0 := by
  rcases dots_cases l with h0 | h0 | h0
  · exact h0
  · have := dots_len (l := l) (by rw [h0]; decide); omega
  · have := dots_len (l := l) (by rw [h0]; decide); omega

/-- one segment more -/
def stepL (acc : List (List UInt8)) (s : List UInt8) (last : Bool) : List (List UInt8) :=
  if dotsL s = 0 then acc ++ [s] else (if dotsL s = 2 then acc.dropLast else acc) ++ (if last then [[]] else [])
def keepL (acc : List (List UInt8)) : List (List UInt8) → List (List UInt8)
  | [] => acc
  | s :: r => keepL (stepL acc s r.isEmpty) r
def joinS : List (List UInt8) → List UInt8
  | [] => []
  | s :: r => 47 :: (s ++ joinS r)
def stripS (l : List UInt8) : List UInt8 := if l.head? = some 47 then l.tail else l
def cleanL (l : List UInt8) : List UInt8 := joinS (keepL [] (parts 47 (stripS l)))

def noSl (l : List UInt8) : Prop := ∀ b ∈ l, b ≠ 47
theorem parts_noSl : ∀ (l p : List UInt8), p ∈ parts 47 l → noSl p
  | [], p, h => by simp [parts] at h; subst h; intro b hb; simp at hb
  | b :: l, p, h => by
    rw [parts] at h
    by_cases hb : b = 47
    · rw [if_pos hb] at h
      rcases List.mem_cons.1 h with rfl | h
      · intro x hx; simp at hx
      · exact parts_noSl l p h
    · rw [if_neg hb] at h
      cases hl : parts 47 l with
      | nil => exact absurd hl (parts_ne 47 l)
      | cons q r =>
        rw [hl] at h
        rcases List.mem_cons.1 h with rfl | h
        · intro x hx
          rcases List.mem_cons.1 hx with rfl | hx
          · exact hb
          · exact parts_noSl l q (by rw [hl]; simp) x hx
        · exact parts_noSl l p (by rw [hl]; simp [h])
theorem joinS_append : ∀ a b : List (List UInt8), joinS (a ++ b) = joinS a ++ joinS b
  | [], _ => rfl
  | s :: r, b => by simp [joinS, joinS_append r b]
theorem joinS_snoc (a : List (List UInt8)) (s : List UInt8) : joinS (a ++ [s]) = joinS a ++ 47 :: s := by simp [joinS_append, joinS]
theorem joinS_parts : ∀ l : List UInt8, joinS (parts 47 l) = 47 :: l
  | [] => rfl
  | b :: l => by
    have ih := joinS_parts l
    rw [parts]
    by_cases hb : b = 47
    · rw [if_pos hb, hb, joinS, ih]; rfl
    · rw [if_neg hb]
      cases hl : parts 47 l with
      | nil => exact absurd hl (parts_ne 47 l)
      | cons q r =>
        rw [hl] at ih
        simp only [joinS, List.cons.injEq, true_and] at ih
        simp only [glue1, joinS, List.cons_append, ih]
theorem parts_join : ∀ (s : List UInt8) (r : List (List UInt8)), noSl s → (∀ t ∈ r, noSl t) → parts 47 (s ++ joinS r) = s :: r
  | s, [], h, _ => by simp only [joinS, List.append_nil]; exact parts_none 47 s h
  | s, t :: r, h, k => by
    rw [joinS, parts_at 47 s _ h, parts_join t r (k t (by simp)) (fun x hx => k x (by simp [hx]))]
theorem strip_join (s : List UInt8) (r : List (List UInt8)) : stripS (joinS (s :: r)) = s ++ joinS r := by simp [joinS, stripS]
theorem parts_strip_join {l : List (List UInt8)} (h0 : l ≠ []) (h : ∀ t ∈ l, noSl t) : parts 47 (stripS (joinS l)) = l := by
  cases l with
  | nil => exact absurd rfl h0
  | cons s r => rw [strip_join, parts_join s r (h s (by simp)) (fun t ht => h t (by simp [ht]))]

/-- what holds of each segment that is there holds of each that is kept -/
theorem step_all {Q : List UInt8 → Prop} {acc : List (List UInt8)} {s : List UInt8} {b : Bool} (h : ∀ t ∈ acc, Q t) (hs : dotsL s = 0 → Q s) (h0 : Q []) : ∀ t ∈ stepL acc s b, Q t := by
  intro t ht
  unfold stepL at ht
  by_cases hd : dotsL s = 0
  · rw [if_pos hd] at ht
    rcases List.mem_append.1 ht with ht | ht
    · exact h t ht
    · simp at ht; subst ht; exact hs hd
  · rw [if_neg hd] at ht
    rcases List.mem_append.1 ht with ht | ht
    · split at ht
      · exact h t (List.dropLast_subset _ ht)
      · exact h t ht
    · cases b
      · simp at ht
      · simp at ht; subst ht; exact h0
theorem keep_all {Q : List UInt8 → Prop} (h0 : Q []) : ∀ (r acc : List (List UInt8)), (∀ t ∈ acc, Q t) → (∀ s ∈ r, dotsL s = 0 → Q s) → ∀ t ∈ keepL acc r, Q t
  | [], acc, h, _ => h
  | s :: r, acc, h, k => keep_all h0 r _ (step_all h (k s (by simp)) h0) (fun t ht => k t (by simp [ht]))
theorem step_ne (acc : List (List UInt8)) (s : List UInt8) : stepL acc s true ≠ [] := by
  unfold stepL; split <;> simp
theorem keep_ne : ∀ (r acc : List (List UInt8)), r ≠ [] → keepL acc r ≠ []
  | [], _, h => absurd rfl h
  | [s], acc, _ => by simp only [keepL, List.isEmpty_nil]; exact step_ne acc s
  | s :: t :: r, acc, _ => by rw [keepL]; exact keep_ne (t :: r) _ (by simp)
theorem keep_id : ∀ (r acc : List (List UInt8)), (∀ s ∈ r, dotsL s = 0) → keepL acc r = acc ++ r
  | [], acc, _ => by simp [keepL]
  | s :: r, acc, h => by
    rw [keepL, keep_id r _ (fun t ht => h t (by simp [ht]))]
    unfold stepL
    rw [if_pos (h s (by simp))]
    simp
theorem clean_segs (l : List UInt8) : ∃ ss : List (List UInt8), cleanL l = joinS ss ∧ ss ≠ [] ∧ (∀ t ∈ ss, noSl t) ∧ (∀ t ∈ ss, dotsL t = 0) := by
  refine ⟨keepL [] (parts 47 (stripS l)), rfl, keep_ne _ _ (parts_ne 47 _), ?_, ?_⟩
  · exact keep_all (by intro b hb; simp at hb) _ _ (by simp) (fun s hs _ => parts_noSl _ s hs)
  · exact keep_all dots_nil _ _ (by simp) (fun s _ h => h)
theorem clean_join {ss : List (List UInt8)} (h0 : ss ≠ []) (h : ∀ t ∈ ss, noSl t) : cleanL (joinS ss) = joinS (keepL [] ss) := by
  rw [cleanL, parts_strip_join h0 h]
theorem clean_id {ss : List (List UInt8)} (h0 : ss ≠ []) (h : ∀ t ∈ ss, noSl t) (hd : ∀ t ∈ ss, dotsL t = 0) : cleanL (joinS ss) = joinS ss := by
  rw [clean_join h0 h, keep_id ss [] hd]; rfl
theorem clean_clean (l : List UInt8) : cleanL (cleanL l) = cleanL l := by
  obtain ⟨ss, e, h0, h1, h2⟩ := clean_segs l
  rw [e, clean_id h0 h1 h2]
theorem clean_head (l : List UInt8) : (cleanL l).head? = some 47 := by
  obtain ⟨ss, e, h0, _, _⟩ := clean_segs l
  rw [e]
  cases ss with
  | nil => exact absurd rfl h0
  | cons s r => rfl

/-- how long, of which bytes -/
theorem joinS_dropLast (a : List (List UInt8)) : (joinS a.dropLast).length ≤ (joinS a).length := by
  rcases List.eq_nil_or_concat a with rfl | ⟨b, s, rfl⟩
  · simp
  · rw [List.concat_eq_append, List.dropLast_concat, joinS_snoc]; simp
theorem step_len (acc : List (List UInt8)) (s : List UInt8) (b : Bool) : (joinS (stepL acc s b)).length ≤ (joinS acc).length + (s.length + 1) := by
  unfold stepL
  by_cases hd : dotsL s = 0
  · rw [if_pos hd, joinS_snoc]; simp
  · rw [if_neg hd, joinS_append, List.length_append]
    have h1 := (dots_len hd).1
    have h2 := joinS_dropLast acc
    have h3 : (joinS (if b = true then [[]] else [])).length ≤ 1 := by cases b <;> simp [joinS]
    split <;> omega
theorem keep_len : ∀ (r acc : List (List UInt8)), (joinS (keepL acc r)).length ≤ (joinS acc).length + (joinS r).length
  | [], acc => by simp [keepL, joinS]
  | s :: r, acc => by
    have h1 := keep_len r (stepL acc s r.isEmpty)
    have h2 := step_len acc s r.isEmpty
    rw [keepL]
    simp only [joinS, List.length_cons, List.length_append]
    omega
theorem clean_len1 (l : List UInt8) : (cleanL l).length ≤ (stripS l).length + 1 := by
  have h := keep_len (parts 47 (stripS l)) []
  rw [joinS_parts] at h
  simpa [cleanL, joinS] using h
theorem strip_len (l : List UInt8) : (stripS l).length ≤ l.length := by unfold stripS; split <;> simp
theorem clean_len (l : List UInt8) : (cleanL l).length ≤ l.length + 1 := by have := clean_len1 l; have := strip_len l; omega
theorem clean_len_sl {l : List UInt8} (h : l.head? = some 47) : (cleanL l).length ≤ l.length := by
  have h1 := clean_len1 l
  have h2 : (stripS l).length + 1 = l.length := by
    unfold stripS; rw [if_pos h]
    cases l with
    | nil => simp at h
    | cons x r => simp
  omega
theorem joinS_mem : ∀ (ss : List (List UInt8)) (b : UInt8), b ∈ joinS ss → b = 47 ∨ ∃ s ∈ ss, b ∈ s
  | [], b, h => by simp [joinS] at h
  | s :: r, b, h => by
    simp only [joinS, List.mem_cons, List.mem_append] at h
    rcases h with h | h | h
    · exact .inl h
    · exact .inr ⟨s, by simp, h⟩
    · rcases joinS_mem r b h with h | ⟨t, ht, hb⟩
      · exact .inl h
      · exact .inr ⟨t, by simp [ht], hb⟩
theorem parts_sub : ∀ (l p : List UInt8), p ∈ parts 47 l → ∀ b ∈ p, b ∈ l := by
  intro l p hp b hb
  have h : b ∈ joinS (parts 47 l) := by
    generalize parts 47 l = ss at hp
    induction ss with
    | nil => simp at hp
    | cons s r ih =>
      simp only [joinS, List.mem_cons, List.mem_append]
      rcases List.mem_cons.1 hp with rfl | hp
      · exact .inr (.inl hb)
      · exact .inr (.inr (ih hp))
  rw [joinS_parts] at h
  rcases List.mem_cons.1 h with rfl | h
  · exact absurd rfl (parts_noSl l p hp _ hb)
  · exact h
theorem strip_sub (l : List UInt8) : ∀ b ∈ stripS l, b ∈ l := by
  intro b hb
  unfold stripS at hb
  split at hb
  · exact List.mem_of_mem_tail hb
  · exact hb
theorem clean_sub (l : List UInt8) : ∀ b ∈ cleanL l, b = 47 ∨ b ∈ l := by
  intro b hb
  rcases joinS_mem _ b hb with h | ⟨s, hs, hbs⟩
  · exact .inl h
  · refine .inr ?_
    have := keep_all (Q := fun t => ∀ b ∈ t, b ∈ l) (by simp) (parts 47 (stripS l)) [] (by simp) (fun s hs _ b hb => strip_sub l b (parts_sub _ s hs b hb)) s hs
    exact this b hbs

/-- where a byte stands last -/
theorem last_cases (c : UInt8) (l : List UInt8) : (∀ b ∈ l, b ≠ c) ∨ ∃ a b, l = a ++ c :: b ∧ ∀ x ∈ b, x ≠ c := by
  rcases at_cases c l.reverse with h | ⟨a, b, e, h⟩
  · exact .inl (fun x hx => h x (by simpa using hx))
  · refine .inr ⟨b.reverse, a.reverse, ?_, fun x hx => h x (by simpa using hx)⟩
    have := congrArg List.reverse e
    simpa using this
theorem app_inj_last {c : UInt8} {a b a' b' : List UInt8} (e : a ++ c :: b = a' ++ c :: b') (h : ∀ x ∈ b, x ≠ c) (h' : ∀ x ∈ b', x ≠ c) : a = a' := by
  have e1 : b.reverse ++ c :: a.reverse = b'.reverse ++ c :: a'.reverse := by have := congrArg List.reverse e; simpa using this
  have s1 := split1_at c b.reverse a.reverse (fun x hx => h x (by simpa using hx))
  have s2 := split1_at c b'.reverse a'.reverse (fun x hx => h' x (by simpa using hx))
  rw [e1, s2] at s1
  simp only [Prod.mk.injEq, Option.some.injEq, List.reverse_inj] at s1
  exact s1.2.symm
end Go.Proofs.YtlkneapidmdpbaaGreatDoor

namespace Go.Proofs.YtlkneapidmdpbaaGreatDoor

def noPathL : List UInt8 := [34, 35, 60, 62, 63, 92, 94, 96, 123, 124, 125]
def noQueryL : List UInt8 := [34, 35, 60, 62]
def freeB (bar : List UInt8) (b : UInt8) : Bool := decide (33 ≤ b.toNat) && decide (b.toNat ≤ 126) && !bar.contains b
def freeL (bar l : List UInt8) : Bool := l.all (freeB bar)
def pathL (l : List UInt8) : Bool := freeL noPathL l && (cleanL l == l)
def queryL (l : List UInt8) : Bool := l.isEmpty || ((l.head? == some 63) && freeL noQueryL l)
def nsq (b : UInt8) : Bool := !(b == 47 || b == 63)
def nq (b : UInt8) : Bool := !(b == 63)

structure Url where
  sc : List UInt8
  h : List UInt8
  p : Int
  pa : List UInt8
  q : List UInt8
def Url.zero : Url := ⟨[], [], 0, [], []⟩
def Url.len (u : Url) : Nat := (showL u.sc u.h u.p).length + u.pa.length + u.q.length
def Url.ok (u : Url) : Bool := checkL u.sc u.h u.p && pathL u.pa && queryL u.q && decide (u.len ≤ 512)
def Url.show_ (u : Url) : List UInt8 := if u.ok then showL u.sc u.h u.p ++ u.pa ++ u.q else []

/-- behind the origin -/
def restL (sc h : List UInt8) (p : Int) (r : List UInt8) : Url × Int :=
  if (freeL noPathL (r.takeWhile nq) && freeL noQueryL (r.dropWhile nq)) = false then (Url.zero, 3)
  else if 512 < (⟨sc, h, p, cleanL (r.takeWhile nq), r.dropWhile nq⟩ : Url).len then (Url.zero, 4)
  else (⟨sc, h, p, cleanL (r.takeWhile nq), r.dropWhile nq⟩, 0)
def headL (a b : List UInt8) : List UInt8 := a ++ [58, 47, 47] ++ b.takeWhile nsq
def textL (l : List UInt8) : Url × Int :=
  match seek l with
  | none => (Url.zero, 3)
  | some (a, b) => match parseL (headL a b) with
    | none => (Url.zero, 3)
    | some (sc, h, p) => restL sc h p (b.dropWhile nsq)
def tgtL (l : List UInt8) : Url × Int := if 512 < l.length then (Url.zero, 4) else textL (split1 35 l).1

theorem free_mem {bar l : List UInt8} (h : freeL bar l = true) : ∀ b ∈ l, 33 ≤ b.toNat ∧ b.toNat ≤ 126 ∧ b ∉ bar := by
  intro b hb
  have := List.all_eq_true.1 h b hb
  simpa [freeB, and_assoc] using this
theorem free_47 : freeB noPathL 47 = true := by decide
theorem free_clean {l : List UInt8} (h : freeL noPathL l = true) : freeL noPathL (cleanL l) = true := by
  unfold freeL at *
  rw [List.all_eq_true] at *
  intro b hb
  rcases clean_sub l b hb with rfl | hb
  · exact free_47
  · exact h b hb
theorem path_clean {l : List UInt8} (h : freeL noPathL l = true) : pathL (cleanL l) = true := by
  unfold pathL; rw [free_clean h, clean_clean]; simp
theorem path_parts {l : List UInt8} (h : pathL l = true) : freeL noPathL l = true ∧ cleanL l = l := by
  unfold pathL at h; simpa using h
theorem path_head {l : List UInt8} (h : pathL l = true) : l.head? = some 47 := by
  have := clean_head l; rwa [(path_parts h).2] at this
theorem drop_nq (l : List UInt8) : l.dropWhile nq = [] ∨ (l.dropWhile nq).head? = some 63 := by
  cases e : l.dropWhile nq with
  | nil => exact .inl rfl
  | cons x r =>
    refine .inr ?_
    have h : ∀ (l : List UInt8) (x : UInt8) (r : List UInt8), l.dropWhile nq = x :: r → x = 63 := by
      intro l
      induction l with
      | nil => intro x r h; simp at h
      | cons y l ih =>
        intro x r h
        rw [List.dropWhile_cons] at h
        by_cases hy : nq y = true
        · rw [if_pos hy] at h; exact ih x r h
        · rw [if_neg hy] at h
          injection h with h1 _
          subst h1
          simpa [nq] using hy
    rw [h l x r e]; rfl
theorem query_of {l : List UInt8} (h : l = [] ∨ l.head? = some 63) (hf : freeL noQueryL l = true) : queryL l = true := by
  unfold queryL
  rcases h with h | h
  · simp [h]
  · simp [h, hf]
theorem query_parts {l : List UInt8} (h : queryL l = true) : (l = [] ∨ l.head? = some 63) ∧ freeL noQueryL l = true := by
  unfold queryL at h
  cases l with
  | nil => exact ⟨.inl rfl, rfl⟩
  | cons x r => simp at h; exact ⟨.inr (by simp [h.1]), h.2⟩
theorem ok_parts {u : Url} (h : u.ok = true) : checkL u.sc u.h u.p = true ∧ pathL u.pa = true ∧ queryL u.q = true ∧ u.len ≤ 512 := by
  unfold Url.ok at h; simpa [and_assoc] using h
theorem zero_ok : Url.zero.ok = false := by
  have : checkL [] [] 0 = false := by simp [checkL, defL]
  unfold Url.ok; rw [show Url.zero.sc = [] from rfl, show Url.zero.h = [] from rfl, show Url.zero.p = 0 from rfl, this]; rfl
theorem show_ok {u : Url} (h : u.ok = true) : u.show_ = showL u.sc u.h u.p ++ u.pa ++ u.q := by rw [Url.show_, if_pos h]
theorem show_no {u : Url} (h : u.ok = false) : u.show_ = [] := by rw [Url.show_, h]; rfl
theorem ushow_len (u : Url) : u.show_.length ≤ 512 := by
  cases h : u.ok
  · rw [show_no h]; simp
  · rw [show_ok h]; have := (ok_parts h).2.2.2; unfold Url.len at this; simp; omega

theorem rest_cases (sc h : List UInt8) (p : Int) (r : List UInt8) :
    (restL sc h p r = (Url.zero, 3)) ∨ (restL sc h p r = (Url.zero, 4)) ∨
    (restL sc h p r = (⟨sc, h, p, cleanL (r.takeWhile nq), r.dropWhile nq⟩, 0) ∧ freeL noPathL (r.takeWhile nq) = true ∧ freeL noQueryL (r.dropWhile nq) = true ∧ (⟨sc, h, p, cleanL (r.takeWhile nq), r.dropWhile nq⟩ : Url).len ≤ 512) := by
  unfold restL
  by_cases h1 : (freeL noPathL (r.takeWhile nq) && freeL noQueryL (r.dropWhile nq)) = false
  · rw [if_pos h1]; exact .inl rfl
  · rw [if_neg h1]
    have h1' : freeL noPathL (r.takeWhile nq) = true ∧ freeL noQueryL (r.dropWhile nq) = true := by simpa using h1
    by_cases h2 : 512 < (⟨sc, h, p, cleanL (r.takeWhile nq), r.dropWhile nq⟩ : Url).len
    · rw [if_pos h2]; exact .inr (.inl rfl)
    · rw [if_neg h2]; exact .inr (.inr ⟨rfl, h1'.1, h1'.2, by omega⟩)
theorem tgt_cases (l : List UInt8) : (tgtL l = (Url.zero, 3)) ∨ (tgtL l = (Url.zero, 4)) ∨ ((tgtL l).2 = 0 ∧ (tgtL l).1.ok = true) := by
  unfold tgtL
  by_cases h0 : 512 < l.length
  · rw [if_pos h0]; exact .inr (.inl rfl)
  rw [if_neg h0]
  unfold textL
  cases hs : seek (split1 35 l).1 with
  | none => exact .inl rfl
  | some q =>
    obtain ⟨a, b⟩ := q
    simp only
    cases hp : parseL (headL a b) with
    | none => exact .inl rfl
    | some o =>
      obtain ⟨sc, h, p⟩ := o
      simp only
      rcases rest_cases sc h p (b.dropWhile nsq) with e | e | ⟨e, f1, f2, f3⟩
      · exact .inl e
      · exact .inr (.inl e)
      · refine .inr (.inr ?_)
        rw [e]
        refine ⟨rfl, ?_⟩
        unfold Url.ok
        have c1 : checkL sc h p = true := parse_check hp
        simp only [c1, path_clean f1, query_of (drop_nq _) f2, Bool.true_and, decide_eq_true_eq]
        exact f3

/-- what is told is read back -/
theorem take_stop {P : UInt8 → Bool} {a b : List UInt8} (ha : ∀ x ∈ a, P x = true) (hb : b = [] ∨ ∃ x r, b = x :: r ∧ P x = false) : (a ++ b).takeWhile P = a ∧ (a ++ b).dropWhile P = b := by
  induction a with
  | nil =>
    rcases hb with rfl | ⟨x, r, rfl, h⟩
    · exact ⟨rfl, rfl⟩
    · simp [h]
  | cons y a ih =>
    have hy := ha y (by simp)
    have := ih (fun x hx => ha x (by simp [hx]))
    simp only [List.cons_append, List.takeWhile_cons, List.dropWhile_cons, hy, if_true]
    exact ⟨by rw [this.1], this.2⟩
theorem nsq_of {b : UInt8} (h1 : b ≠ 47) (h2 : b ≠ 63) : nsq b = true := by simp [nsq, h1, h2]
theorem nq_of {b : UInt8} (h2 : b ≠ 63) : nq b = true := by simp [nq, h2]
theorem host_plain {h : List UInt8} (hh : hostL h = true) : ∀ b ∈ h, b ≠ 35 ∧ b ≠ 47 ∧ b ≠ 63 := by
  intro b hb
  rcases host_bytes hh b hb with rfl | hx
  · decide
  · have := hostB_bd hx
    refine ⟨?_, ?_, ?_⟩ <;> (rintro rfl; simp at this)
theorem num_plain {n : Nat} (hn : n ≤ 65535) : ∀ b ∈ numL n, b ≠ 35 ∧ b ≠ 47 ∧ b ≠ 63 := by
  intro b hb
  have := dig_all (numL_ok (n := n) (by unfold Lk.M64; omega)).1 b hb
  refine ⟨?_, ?_, ?_⟩ <;> (rintro rfl; simp at this)
/-- an origin that is told: its scheme, and a host with or without a port -/
theorem show_split {sc h : List UInt8} {p : Int} (hc : checkL sc h p = true) : ∃ t, showL sc h p = sc ++ [58, 47, 47] ++ t ∧ (∀ b ∈ t, b ≠ 35 ∧ b ≠ 47 ∧ b ≠ 63) := by
  obtain ⟨h1, h2, h3, h4⟩ := check_parts hc
  rw [showL, if_pos hc]
  by_cases hd : p = defL sc
  · rw [if_pos hd]; exact ⟨h, rfl, host_plain h2⟩
  · rw [if_neg hd]
    refine ⟨h ++ [58] ++ numL p.toNat, by simp, ?_⟩
    intro b hb
    simp only [List.mem_append, List.mem_cons, List.not_mem_nil, or_false] at hb
    rcases hb with (hb | rfl) | hb
    · exact host_plain h2 b hb
    · decide
    · exact num_plain (by omega) b hb
theorem scheme_plain {sc : List UInt8} (h : defL sc ≠ 0) : ∀ b ∈ sc, b ≠ 35 ∧ b ≠ 58 := by
  rcases def_cases h with ⟨rfl, _⟩ | ⟨rfl, _⟩ <;> decide
theorem tgt_show {u : Url} (hu : u.ok = true) : tgtL u.show_ = (u, 0) := by
  obtain ⟨hc, hp, hq, hl⟩ := ok_parts hu
  obtain ⟨t, et, ht⟩ := show_split hc
  obtain ⟨h1, h2, h3, h4⟩ := check_parts hc
  have hsc := scheme_plain h1
  have ⟨pf, pc⟩ := path_parts hp
  have ⟨qh, qf⟩ := query_parts hq
  have hlen := ushow_len u
  rw [tgtL, if_neg (by omega)]
  have e : u.show_ = u.sc ++ [58, 47, 47] ++ (t ++ (u.pa ++ u.q)) := by rw [show_ok hu, et]; simp
  have n35 : ∀ b ∈ u.show_, b ≠ 35 := by
    rw [e]
    intro b hb
    simp only [List.mem_append, List.mem_cons, List.not_mem_nil, or_false] at hb
    rcases hb with (hb | rfl | rfl | rfl) | hb | hb | hb
    · exact (hsc b hb).1
    · decide
    · decide
    · decide
    · exact (ht b hb).1
    · rintro rfl; exact (free_mem pf _ hb).2.2 (by decide)
    · rintro rfl; exact (free_mem qf _ hb).2.2 (by decide)
  rw [split1_none 35 _ n35]
  unfold textL
  rw [e, seek_mk _ _ (fun x hx => (hsc x hx).2)]
  have hpa := path_head hp
  have st := take_stop (P := nsq) (a := t) (b := u.pa ++ u.q) (fun x hx => nsq_of (ht x hx).2.1 (ht x hx).2.2) (.inr (by
    cases hx : u.pa with
    | nil => rw [hx] at hpa; simp at hpa
    | cons x r => rw [hx] at hpa; simp at hpa; exact ⟨x, r ++ u.q, rfl, by subst hpa; decide⟩))
  have hh : headL u.sc (t ++ (u.pa ++ u.q)) = showL u.sc u.h u.p := by rw [headL, st.1, et]
  simp only [hh, parse_show hc, st.2]
  have sq := take_stop (P := nq) (a := u.pa) (b := u.q) (fun x hx => nq_of (by rintro rfl; exact (free_mem pf _ hx).2.2 (by decide))) (by
    rcases qh with qh | qh
    · exact .inl qh
    · cases hx : u.q with
      | nil => exact .inl rfl
      | cons x r => rw [hx] at qh; simp at qh; exact .inr ⟨x, r, rfl, by subst qh; decide⟩)
  unfold restL
  rw [sq.1, sq.2, pf, qf, pc]
  have : (⟨u.sc, u.h, u.p, u.pa, u.q⟩ : Url) = u := rfl
  rw [this, if_neg (by simp), if_neg (by omega)]

/-- what stands behind a number sign counts for nothing -/
theorem tgt_frag (s t : List UInt8) (h : (s ++ 35 :: t).length ≤ 512) : tgtL (s ++ 35 :: t) = tgtL s := by
  have h2 : s.length ≤ 512 := by simp at h; omega
  rw [tgtL, tgtL, if_neg (by omega), if_neg (by omega)]
  rcases at_cases 35 s with hn | ⟨a, b, rfl, hn⟩
  · rw [split1_at 35 s t hn, split1_none 35 s hn]
  · rw [List.append_assoc, List.cons_append, split1_at 35 a _ hn, split1_at 35 a b hn]

/-- a beginning that holds an origin -/
theorem pre_append {s : List UInt8} (h : [58, 47, 47].isPrefixOf s = true) (t : List UInt8) : [58, 47, 47].isPrefixOf (s ++ t) = true ∧ (s ++ t).drop 3 = s.drop 3 ++ t := by
  rw [List.isPrefixOf_iff_prefix] at *
  obtain ⟨r, rfl⟩ := h
  exact ⟨⟨r ++ t, by simp⟩, by simp⟩
theorem seek_append : ∀ (s a b : List UInt8), seek s = some (a, b) → ∀ t, seek (s ++ t) = some (a, b ++ t)
  | [], a, b, h, _ => by simp [seek] at h
  | x :: s, a, b, h, t => by
    rw [seek] at h
    rw [List.cons_append, seek]
    by_cases hp : [58, 47, 47].isPrefixOf (x :: s) = true
    · rw [if_pos hp] at h
      simp only [Option.some.injEq, Prod.mk.injEq] at h
      obtain ⟨rfl, rfl⟩ := h
      have := pre_append hp t
      rw [List.cons_append] at this
      rw [if_pos this.1, this.2]
    · rw [if_neg hp] at h
      cases hs : seek s with
      | none => rw [hs] at h; simp at h
      | some q =>
        rw [hs] at h
        simp only [Option.map_some, Option.some.injEq, Prod.mk.injEq] at h
        obtain ⟨rfl, rfl⟩ := h
        have ih := seek_append s q.1 q.2 hs t
        have hno : ¬ [58, 47, 47].isPrefixOf (x :: (s ++ t)) = true := by
          intro hy
          have hlen : 3 ≤ s.length := by have := congrArg List.length (seek_eq s q.1 q.2 hs); simp at this; omega
          rw [List.isPrefixOf_iff_prefix] at hy
          obtain ⟨r, hr⟩ := hy
          apply hp
          rw [List.isPrefixOf_iff_prefix]
          have := congrArg (List.take 3) hr
          have e3 : List.take 3 ([58, 47, 47] ++ r) = [58, 47, 47] := by simp
          rw [e3] at this
          refine ⟨(x :: s).drop 3, ?_⟩
          have e2 : (x :: (s ++ t)).take 3 = (x :: s).take 3 := by
            rw [← List.cons_append, List.take_append_of_le_length (by simp; omega)]
          rw [this, e2, List.take_append_drop]
        rw [if_neg hno, ih]; rfl
theorem show_len_parse {l sc h : List UInt8} {p : Int} (hp : parseL l = some (sc, h, p)) : (showL sc h p).length ≤ l.length := by
  have hc := parse_check hp
  have hl : (Lk.lower l).length = l.length := Lk.lower_len l
  unfold parseL at hp
  cases hs : seek (Lk.lower l) with
  | none => rw [hs] at hp; simp at hp
  | some q =>
    obtain ⟨a, r⟩ := q
    rw [hs] at hp
    simp only at hp
    have e := congrArg List.length (seek_eq _ _ _ hs)
    simp only [List.length_append, List.length_cons, List.length_nil] at e
    rcases at_cases 58 r with hn | ⟨x, y, rfl, hn⟩
    · rw [split1_none 58 r hn] at hp
      replace hp : (if checkL a r (defL a) = true then some (a, r, defL a) else none) = some (sc, h, p) := hp
      by_cases hq : checkL a r (defL a) = true
      · rw [if_pos hq] at hp
        simp only [Option.some.injEq, Prod.mk.injEq] at hp
        obtain ⟨rfl, rfl, rfl⟩ := hp
        rw [showL, if_pos hc, if_pos rfl]; simp; omega
      · rw [if_neg hq] at hp; cases hp
    · rw [split1_at 58 x y hn] at hp
      replace hp : (if checkL a x (portL y : Int) = true then some (a, x, (portL y : Int)) else none) = some (sc, h, p) := hp
      by_cases hq : checkL a x (portL y : Int) = true
      · rw [if_pos hq] at hp
        simp only [Option.some.injEq, Prod.mk.injEq] at hp
        obtain ⟨rfl, rfl, rfl⟩ := hp
        have h1 := (check_parts hc).2.2.1
        have hy : numL (portL y) = y := by
          have h1' : portL y ≠ 0 := by omega
          unfold portL at h1' ⊢
          by_cases hx : 5 < y.length ∨ y.head? = some 48
          · rw [if_pos hx] at h1'; exact absurd rfl h1'
          · rw [if_neg hx] at h1' ⊢
            cases hd : Lk.digL y
            · rw [hd] at h1'; exact absurd rfl h1'
            · rw [if_pos rfl]; exact num_val y (by omega) hd (fun e => hx (.inr e))
        rw [showL, if_pos hc]
        simp only [List.length_append, List.length_cons] at e
        split
        · simp; omega
        · simp [hy]; omega
      · rw [if_neg hq] at hp; cases hp
theorem tgt_origin {s a b p : List UInt8} (hk : seek s = some (a, b)) (hl : s.length + p.length + 2 ≤ 500) (h35 : ∀ x ∈ s, x ≠ 35) (h47 : ∀ x ∈ b, x ≠ 47) (h63 : ∀ x ∈ s, x ≠ 63) :
    (parseL s = none ∧ tgtL (s ++ 47 :: p) = (Url.zero, 3)) ∨
    ∃ sc h n, parseL s = some (sc, h, n) ∧ (tgtL (s ++ 47 :: p) = (Url.zero, 3) ∨ ∃ pa q, tgtL (s ++ 47 :: p) = (⟨sc, h, n, pa, q⟩, 0)) := by
  have es := seek_eq s a b hk
  obtain ⟨p', hp', hpl⟩ : ∃ p', (split1 35 (s ++ 47 :: p)).1 = s ++ 47 :: p' ∧ p'.length ≤ p.length := by
    rcases at_cases 35 p with hn | ⟨x, y, rfl, hn⟩
    · refine ⟨p, ?_, Nat.le_refl _⟩
      rw [split1_none 35 _]
      intro z hz
      rcases List.mem_append.1 hz with hz | hz
      · exact h35 z hz
      · rcases List.mem_cons.1 hz with rfl | hz
        · decide
        · exact hn z hz
    · refine ⟨x, ?_, by simp⟩
      have := split1_at 35 (s ++ 47 :: x) y (by
        intro z hz
        rcases List.mem_append.1 hz with hz | hz
        · exact h35 z hz
        · rcases List.mem_cons.1 hz with rfl | hz
          · decide
          · exact hn z hz)
      rw [show s ++ 47 :: (x ++ 35 :: y) = (s ++ 47 :: x) ++ 35 :: y by simp, this]
  have et : tgtL (s ++ 47 :: p) = textL (s ++ 47 :: p') := by
    rw [tgtL, if_neg (by simp; omega), hp']
  rw [et]
  unfold textL
  rw [seek_append s a b hk (47 :: p')]
  have hb63 : ∀ x ∈ b, x ≠ 63 := fun x hx => h63 x (by rw [es]; simp [hx])
  have st := take_stop (P := nsq) (a := b) (b := 47 :: p') (fun x hx => nsq_of (h47 x hx) (hb63 x hx)) (.inr ⟨47, p', rfl, by decide⟩)
  have hh : headL a (b ++ 47 :: p') = s := by rw [headL, st.1, es]
  simp only [hh, st.2]
  cases hp : parseL s with
  | none => exact .inl ⟨rfl, rfl⟩
  | some o =>
    obtain ⟨sc, h, n⟩ := o
    refine .inr ⟨sc, h, n, rfl, ?_⟩
    simp only
    rcases rest_cases sc h n (47 :: p') with e | e | ⟨e, _⟩
    · exact .inl e
    · exfalso
      unfold restL at e
      split at e
      · simp at e
      · split at e
        · rename_i _ hbig
          have h1 := show_len_parse hp
          have h2 : ((47 :: p').takeWhile nq).head? = some 47 := by simp [nq]
          have h3 := clean_len_sl h2
          have h4 : ((47 :: p').takeWhile nq).length + ((47 :: p').dropWhile nq).length = p'.length + 1 := by
            rw [← List.length_append, List.takeWhile_append_dropWhile]; simp
          unfold Url.len at hbig
          simp only at hbig
          omega
        · simp at e
    · exact .inr ⟨_, _, e⟩
end Go.Proofs.YtlkneapidmdpbaaGreatDoor

namespace Go.Proofs.YtlkneapidmdpbaaGreatDoor

def stepsL (acc : List (List UInt8)) : List (List UInt8) → List (List UInt8)
  | [] => acc
  | s :: r => stepsL (stepL acc s false) r
theorem keep_append : ∀ (a b acc : List (List UInt8)), b ≠ [] → keepL acc (a ++ b) = keepL (stepsL acc a) b
  | [], b, acc, _ => rfl
  | s :: r, b, acc, hb => by
    have : (r ++ b).isEmpty = false := by
      cases r with
      | nil => cases b with
        | nil => exact absurd rfl hb
        | cons _ _ => rfl
      | cons _ _ => rfl
    rw [List.cons_append, keepL, this, keep_append r b _ hb]; rfl
theorem steps_append : ∀ (a b acc : List (List UInt8)), stepsL acc (a ++ b) = stepsL (stepsL acc a) b
  | [], _, _ => rfl
  | s :: r, b, acc => by rw [List.cons_append, stepsL, steps_append r b]; rfl
theorem steps_plain : ∀ (a acc : List (List UInt8)), (∀ s ∈ a, dotsL s = 0) → stepsL acc a = acc ++ a
  | [], acc, _ => by simp [stepsL]
  | s :: r, acc, h => by
    rw [stepsL, steps_plain r _ (fun t ht => h t (by simp [ht]))]
    unfold stepL
    rw [if_pos (h s (by simp))]; simp
theorem step_up {acc : List (List UInt8)} {s : List UInt8} (h : dotsL s = 2) : stepL acc s false = acc.dropLast := by
  unfold stepL; rw [if_neg (by rw [h]; decide), if_pos h]; simp
theorem steps_ups : ∀ (a acc : List (List UInt8)), (∀ s ∈ a, dotsL s = 2) → stepsL acc a = acc.take (acc.length - a.length)
  | [], acc, _ => by simp [stepsL]
  | s :: r, acc, h => by
    rw [stepsL, step_up (h s (by simp)), steps_ups r _ (fun t ht => h t (by simp [ht])), List.dropLast_eq_take, List.take_take, List.length_take]
    congr 1
    simp
    omega
/-- segments, a slash behind each -/
def catS : List (List UInt8) → List UInt8
  | [] => []
  | s :: r => s ++ 47 :: catS r
theorem catS_append : ∀ a b : List (List UInt8), catS (a ++ b) = catS a ++ catS b
  | [], _ => rfl
  | s :: r, b => by simp [catS, catS_append r b]
theorem cat_join : ∀ a : List (List UInt8), joinS (a ++ [[]]) = 47 :: catS a
  | [] => rfl
  | s :: r => by simp [joinS, catS, cat_join r]
theorem clean_ups {a u : List (List UInt8)} (ha : ∀ s ∈ a, dotsL s = 0) (hu : ∀ s ∈ u, dotsL s = 2) (na : ∀ s ∈ a, noSl s) (nu : ∀ s ∈ u, noSl s) :
    cleanL (47 :: catS (a ++ u)) = 47 :: catS (a.take (a.length - u.length)) := by
  rw [← cat_join, clean_join (by simp) (by
    intro t ht
    simp only [List.mem_append, List.mem_cons, List.not_mem_nil, or_false] at ht
    rcases ht with (ht | ht) | rfl
    · exact na t ht
    · exact nu t ht
    · intro b hb; simp at hb)]
  rw [keep_append _ _ _ (by simp), steps_append, steps_plain a [] ha, List.nil_append, steps_ups u a hu]
  have : keepL (a.take (a.length - u.length)) [[]] = a.take (a.length - u.length) ++ [[]] := keep_id _ _ (by intro s hs; simp at hs; subst hs; exact dots_nil)
  rw [this, cat_join]
end Go.Proofs.YtlkneapidmdpbaaGreatDoor
