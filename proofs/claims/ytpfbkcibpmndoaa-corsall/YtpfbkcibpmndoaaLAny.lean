/-
  Contracts of the library's IndexAny and ContainsAny at bytes below 128, over this seat's program. Conditions: those of each statement.
-/
import Derived.Test.YtpfbkcibpmndoaaLOct2
import Derived.Lib.IndexAny
import Derived.Laws.RangeAny
import Derived.Laws.Runes
import Derived.WalkMore
import Derived.Deep.LoopGhost
namespace Go.Proofs.Ytpfbkcibpmndoaa
open Go.RowKit

/-- a rune that is read from a byte of 128 or more is read from such bytes alone -/
theorem decode_wide (s : ByteArray) (pos : Nat) (h : pos < s.size) (ha : 128 ≤ (s.get! pos).toNat) :
    1 ≤ (Utf8.decode s pos).2 ∧ pos + (Utf8.decode s pos).2 ≤ s.size ∧ ∀ j, pos ≤ j → j < pos + (Utf8.decode s pos).2 → 128 ≤ (s.get! j).toNat := by
  have ha' : 128 ≤ (s.get! (pos + 0)).toNat := ha
  have hn : ¬ (s.get! (pos + 0)).toNat < 128 := by omega
  have one : 1 ≤ 1 ∧ pos + 1 ≤ s.size ∧ ∀ j, pos ≤ j → j < pos + 1 → 128 ≤ (s.get! j).toNat := ⟨Nat.le_refl _, h, fun j h1 h2 => by rw [show j = pos by omega]; exact ha⟩
  simp only [Utf8.decode, hn, if_false]
  split
  · rename_i hc
    simp only [Bool.and_eq_true, decide_eq_true_eq, beq_iff_eq] at hc
    split
    · refine ⟨by omega, by omega, fun j h1 h2 => ?_⟩
      rcases (by omega : j = pos ∨ j = pos + 1) with rfl | rfl
      · exact ha
      · omega
    · exact one
  · split
    · rename_i hc
      simp only [Bool.and_eq_true, decide_eq_true_eq, beq_iff_eq] at hc
      split
      · refine ⟨by omega, by omega, fun j h1 h2 => ?_⟩
        rcases (by omega : j = pos ∨ j = pos + 1 ∨ j = pos + 2) with rfl | rfl | rfl
        · exact ha
        · omega
        · omega
      · exact one
    · split
      · rename_i hc
        simp only [Bool.and_eq_true, decide_eq_true_eq, beq_iff_eq] at hc
        split
        · refine ⟨by omega, by omega, fun j h1 h2 => ?_⟩
          rcases (by omega : j = pos ∨ j = pos + 1 ∨ j = pos + 2 ∨ j = pos + 3) with rfl | rfl | rfl | rfl
          · exact ha
          · omega
          · omega
          · omega
        · exact one
      · exact one
theorem get_bang (s : ByteArray) (j : Nat) (h : j < s.size) : s.get! j = s[j] := get_at s j h
/-- the iterator of block g stands at pos -/
def IterAt (W : World) (g : Nat) (s : ByteArray) (pos : Nat) : Prop := W.heap[g]? = some (.stringIter s pos)
def iterTo (W : World) (g : Nat) (s : ByteArray) (pos : Nat) : World := { W with heap := W.heap.setIfInBounds g (.stringIter s pos) }
theorem IterAt.to {W : World} {g : Nat} {s : ByteArray} {pos : Nat} (h : IterAt W g s pos) (p : Nat) : IterAt (iterTo W g s p) g s p := by
  have hlt : g < W.heap.size := by
    rcases Nat.lt_or_ge g W.heap.size with h' | h'
    · exact h'
    · unfold IterAt at h; rw [Array.getElem?_eq_none h'] at h; cases h
  show (W.heap.setIfInBounds g (.stringIter s p))[g]? = _
  simp [hlt]
theorem IterAt.lt {W : World} {g : Nat} {s : ByteArray} {pos : Nat} (h : IterAt W g s pos) : g < W.heap.size := by
  rcases Nat.lt_or_ge g W.heap.size with h' | h'
  · exact h'
  · unfold IterAt at h; rw [Array.getElem?_eq_none h'] at h; cases h
theorem IterAt.below {W W' : World} {g : Nat} {s : ByteArray} {pos : Nat} (h : IterAt W g s pos) (hb : Below W.heap.size W W') : IterAt W' g s pos := (hb.block g h.lt).trans h
theorem below_iterTo {B : Nat} {w W : World} {g : Nat} (h : Below B w W) (hg : B ≤ g) (s : ByteArray) (p : Nat) : Below B w (iterTo W g s p) := by
  refine ⟨h.1, h.2, h.3, ?_, fun j hj => ?_⟩
  · show w.heap.size ≤ (W.heap.setIfInBounds g _).size
    rw [Array.size_setIfInBounds]; exact h.size
  · show (W.heap.setIfInBounds g _)[j]? = _
    rw [Array.getElem?_setIfInBounds_ne (by omega)]; exact h.block j hj
theorem next_at {W : World} {g : Nat} {s : ByteArray} {pos : Nat} (hg : IterAt W g s pos) (h : pos < s.size) (ty : TypeId) :
    (Instr.next (.pointer (some ⟨g, 0, none⟩)) true ty).run Try.prog W = .ok (.tuple #[.bool true, .int .i64 pos, .int .i32 (Utf8.decode s pos).1]) (iterTo W g s (pos + (Utf8.decode s pos).2)) := by
  unfold IterAt at hg
  simp only [Instr.next, getObj, setObj, Sem.run_bind, Sem.run, hg, Result.andThen, h, if_true]
  simp [goInt, iterTo]
theorem next_end {W : World} {g : Nat} {s : ByteArray} {pos : Nat} (hg : IterAt W g s pos) (h : ¬ pos < s.size) (ty : TypeId) :
    (Instr.next (.pointer (some ⟨g, 0, none⟩)) true ty).run Try.prog W = .ok (.tuple #[.bool false]) W := by
  unfold IterAt at hg
  simp [Instr.next, getObj, Sem.run, hg, h]

/-- bytes below 128 alone -/
def Asc (cs : ByteArray) : Prop := ∀ b ∈ cs.data.toList, b.toNat < 128
theorem Asc.at {cs : ByteArray} (h : Asc cs) (i : Nat) (hi : i < cs.size) : cs[i].toNat < 128 := h _ (by
  have : cs.data.toList[i]? = some cs[i] := Lib.data_getElem? cs i hi
  exact List.mem_of_getElem? this)
theorem noAny_asc {s cs : ByteArray} {pos : Nat} (hc : Asc cs) (h : pos < s.size) (ha : 128 ≤ s[pos].toNat) (hno : Lib.NoAny s.data.toList cs.data.toList pos) :
    Lib.NoAny s.data.toList cs.data.toList (pos + (Utf8.decode s pos).2) := by
  intro j b hj hb
  by_cases hlt : j < pos
  · exact hno j b hlt hb
  · have hjs : j < s.size := by have := (List.getElem?_eq_some_iff.1 hb).1; simpa using this
    have h2 := (decode_wide s pos h (by rw [get_bang s pos h]; exact ha)).2.2 j (by omega) hj
    rw [get_bang s j hjs] at h2
    have e : s[j] = b := by
      have := (List.getElem?_eq_some_iff.1 hb).2
      rw [← this]; rfl
    rw [e] at h2
    cases hk : cs.data.toList.contains b
    · rfl
    · have := hc b (by simpa using hk); omega
theorem indexByte_high : ∀ (l : List UInt8) (c : UInt8), (∀ b ∈ l, b.toNat < 128) → 128 ≤ c.toNat → Lib.indexByte l c = -1
  | [], _, _, _ => rfl
  | b :: l, c, h, hc => by
    have ih := indexByte_high l c (fun x hx => h x (List.mem_cons_of_mem _ hx)) hc
    have hb := h b (by simp)
    have hne : b ≠ c := by rintro rfl; omega
    simp [Lib.indexByte, ih, hne]
theorem extract_asc {cs : ByteArray} (h : Asc cs) (i j : Nat) : Asc (cs.extract i j) := by
  intro b hb
  refine h b ?_
  have e : (cs.extract i j).data.toList = (cs.data.toList.take j).drop i := by simp [ByteArray.data_extract, List.drop_take]
  rw [e] at hb
  exact List.mem_of_mem_take (List.mem_of_mem_drop hb)
theorem containsAny_eq (cs : List UInt8) : ∀ s : List UInt8, Lib.containsAny s cs = s.any cs.contains
  | [] => rfl
  | b :: l => by
    have ih := containsAny_eq cs l
    unfold Lib.containsAny at ih ⊢
    have hge := Lib.indexAny_ge cs l
    rw [Lib.indexAny, List.any_cons, ← ih]
    cases h : cs.contains b
    · simp only [Bool.false_eq_true, if_false, Bool.false_or]
      split
      · rename_i h1
        rw [beq_iff_eq] at h1
        rw [h1]
      · rename_i h1
        rw [beq_iff_eq] at h1
        rw [decide_eq_decide]
        omega
    · simp
end Go.Proofs.Ytpfbkcibpmndoaa
