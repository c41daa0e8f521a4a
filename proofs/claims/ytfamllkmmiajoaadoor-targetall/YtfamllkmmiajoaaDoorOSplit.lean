/-
  Contracts of the library's Cut at a comma and of octet's Split, over this seat's program: Split returns a row of its own that holds the parts, and nothing that was there has turned. Conditions: the text has at most 2^40 bytes.
-/
import Derived.Test.YtfamllkmmiajoaaDoorODig
import Derived.Test.YtfamllkmmiajoaaDoorShelf
import Derived.Lib.IndexLaws
namespace Go.Proofs.YtfamllkmmiajoaaDoor
open Go.RowKit

theorem indexByte_no : ∀ (l : List UInt8) (c : UInt8), (∀ b ∈ l, b ≠ c) → Lib.indexByte l c = -1
  | [], _, _ => rfl
  | b :: l, c, h => by
    have h1 := indexByte_no l c (fun x hx => h x (List.mem_cons_of_mem _ hx))
    have h2 : (b == c) = false := beq_eq_false_iff_ne.2 (h b (List.mem_cons_self ..))
    rw [Lib.indexByte, h2, h1]; rfl
theorem indexByte_at : ∀ (a b : List UInt8) (c : UInt8), (∀ x ∈ a, x ≠ c) → Lib.indexByte (a ++ c :: b) c = a.length
  | [], b, c, _ => by simp [Lib.indexByte]
  | x :: a, b, c, h => by
    have h1 := indexByte_at a b c (fun x hx => h x (List.mem_cons_of_mem _ hx))
    have h2 : (x == c) = false := beq_eq_false_iff_ne.2 (h x (List.mem_cons_self ..))
    have h3 : ((a.length : Int) == -1) = false := by rw [beq_eq_false_iff_ne]; omega
    rw [List.cons_append, Lib.indexByte, h2, h1, h3]; simp

theorem ret_cut {a a' b b' : ByteArray} (h : a = a') (k : b = b') : Ending.returned (.tuple #[.string a, .string b, .bool true]) = .returned (.tuple #[.string a', .string b', .bool true]) := by rw [h, k]

set_option maxHeartbeats 400000 in
theorem liteCut_no (s : ByteArray) (c : UInt8) (w : World) (_hs : s.size ≤ maxLen) (h : ∀ b ∈ s.data.toList, b ≠ c) :
    Calls Tryd.prog 49 #[.string s, .string ⟨#[c]⟩] w fun e w' => e = .returned (.tuple #[.string s, .string ⟨#[]⟩, .bool false]) ∧ ∃ n, w' = w.drewN n := by
  have hi := indexByte_no s.data.toList c h
  have HI := Lib.hid hi
  clear h hi
  go_enter Tryd.func49, Tryd.ntmps49
  go_wp2_with (go_at_call 66; refine (Tryd.stringslite_Index_one _ _ _).mono ?_; rintro e w' ⟨rfl, rfl⟩; rw [HI.out])
  go_ret3
  exact ⟨rfl, 0, rfl⟩

set_option maxHeartbeats 400000 in
theorem liteCut_yes (s : ByteArray) (a b : List UInt8) (c : UInt8) (w : World) (hs : s.size ≤ maxLen) (hl : s.data.toList = a ++ c :: b) (h : ∀ x ∈ a, x ≠ c) :
    Calls Tryd.prog 49 #[.string s, .string ⟨#[c]⟩] w fun e w' => e = .returned (.tuple #[.string ⟨a.toArray⟩, .string ⟨b.toArray⟩, .bool true]) ∧ ∃ n, w' = w.drewN n := by
  have hi := indexByte_at a b c h
  rw [← hl] at hi
  have HI := Lib.hid hi
  have hsz : s.size = a.length + (b.length + 1) := by have := congrArg List.length hl; simpa using this
  have e1 : s.extract 0 a.length = ⟨a.toArray⟩ := by rw [Lib.extract_eq, hl]; simp
  have e2 : s.extract (a.length + 1) s.size = ⟨b.toArray⟩ := by rw [Lib.extract_eq, hsz, hl]; simp; exact List.take_of_length_le (by omega)
  have E1 := Lib.hid e1
  have E2 := Lib.hid e2
  have HL : a.length + 1 ≤ s.size := by omega
  clear h hi hl hsz e1 e2
  unfold maxLen at hs
  have hw : IntKind.i64.wrap ((a.length : Int) + 1) = (a.length : Int) + 1 := IntWalk.i64_in _ (by omega)
  go_enter Tryd.func49, Tryd.ntmps49
  go_wp2_with (go_at_call 66; refine (Tryd.stringslite_Index_one _ _ _).mono ?_; rintro e w' ⟨rfl, rfl⟩; rw [HI.out])
  go_quiet (fail)
  go_wp2
  go_ret3
  exact ⟨ret_cut E1.out E2.out, _, rfl⟩
set_option maxHeartbeats 400000 in
theorem Cut_no (s : ByteArray) (c : UInt8) (w : World) (hs : s.size ≤ maxLen) (h : ∀ b ∈ s.data.toList, b ≠ c) :
    Calls Tryd.prog 26 #[.string s, .string ⟨#[c]⟩] w fun e w' => e = .returned (.tuple #[.string s, .string ⟨#[]⟩, .bool false]) ∧ ∃ n, w' = w.drewN n := by
  go_enter Tryd.func26, Tryd.ntmps26
  go_wp2_with (go_at_call 49; refine (liteCut_no _ _ _ hs h).mono ?_; rintro e w' ⟨rfl, n, rfl⟩)
  go_ret3
  exact ⟨rfl, _, rfl⟩
set_option maxHeartbeats 400000 in
theorem Cut_yes (s : ByteArray) (a b : List UInt8) (c : UInt8) (w : World) (hs : s.size ≤ maxLen) (hl : s.data.toList = a ++ c :: b) (h : ∀ x ∈ a, x ≠ c) :
    Calls Tryd.prog 26 #[.string s, .string ⟨#[c]⟩] w fun e w' => e = .returned (.tuple #[.string ⟨a.toArray⟩, .string ⟨b.toArray⟩, .bool true]) ∧ ∃ n, w' = w.drewN n := by
  have HL := Lib.hid hl
  clear hl
  go_enter Tryd.func26, Tryd.ntmps26
  go_wp2_with (go_at_call 49; refine (liteCut_yes _ _ _ _ _ hs HL.out h).mono ?_; rintro e w' ⟨rfl, n, rfl⟩)
  go_ret3
  exact ⟨rfl, _, rfl⟩

/-- a text as a value -/
def sv (l : List UInt8) : Value := .string ⟨l.toArray⟩
theorem infoS : (Tryd.prog.info? 9).map (fun i => (i.zero, i.size, i.bytes)) = some (some (.string ⟨#[]⟩), 1, 16) := by kernel_rfl

def SplitPost (s : List UInt8) (w : World) (e : Ending) (w' : World) : Prop :=
  ∃ v, e = .returned v ∧ w'.ownsRow w.heap.size 9 1 v (Lk.splitL s).length ((Lk.splitL s).map sv) ∧ Below w.heap.size w w'

def strSize : Value → Nat
  | .string s => s.size
  | _ => 0
def boolN : Value → Nat
  | .bool true => 1
  | _ => 0
theorem ba_isEmpty {t : ByteArray} (h : t.data.toList = []) : t.toList.isEmpty = true := by rw [ByteArray.toList_eq, h]; rfl
theorem ba_notEmpty {t : ByteArray} (h : t.data.toList ≠ []) : t.toList.isEmpty = false := by
  rw [ByteArray.toList_eq]; cases e : t.data.toList; exact absurd e h; rfl
theorem ba_eq {t : ByteArray} {l : List UInt8} (h : t = ⟨l.toArray⟩) : t.data.toList = l := by rw [h]
theorem sv_eq {t : ByteArray} {l : List UInt8} (h : t = ⟨l.toArray⟩) : Value.string t = sv l := by rw [h]; rfl

/-- one round's cut: what stands ahead of the comma, what stands behind it, whether there was one -/
theorem Cut_any (r : ByteArray) (w : World) (hs : r.size ≤ maxLen) : ∃ (p q : ByteArray) (f : Bool),
    (Calls Tryd.prog 26 #[.string r, .string ⟨#[44]⟩] w fun e w' => e = .returned (.tuple #[.string p, .string q, .bool f]) ∧ ∃ n, w' = w.drewN n) ∧
    p.size ≤ r.size ∧ q.size ≤ r.size ∧ (f = true → q.size < r.size) ∧
    Lk.splitL r.data.toList = Lk.keep [p.data.toList] ++ (if f then Lk.splitL q.data.toList else []) := by
  rcases Lk.comma_cases r.data.toList with h | ⟨a, b, e, h⟩
  · exact ⟨r, ⟨#[]⟩, false, Cut_no r 44 w hs h, Nat.le_refl _, Nat.zero_le _, by simp, by rw [Lk.split_none h]; simp⟩
  · have hl : r.size = a.length + (b.length + 1) := by have := congrArg List.length e; simpa using this
    have ha : (⟨a.toArray⟩ : ByteArray).size = a.length := by show a.toArray.size = _; simp
    have hb : (⟨b.toArray⟩ : ByteArray).size = b.length := by show b.toArray.size = _; simp
    refine ⟨⟨a.toArray⟩, ⟨b.toArray⟩, true, Cut_yes r a b 44 w hs e h, by omega, by omega, fun _ => by omega, ?_⟩
    rw [e, Lk.split_at h]; rfl

end Go.Proofs.YtfamllkmmiajoaaDoor
