/-
  Words for the laws of layer 4: a row of four texts; a URL that was read, as a value. No conditions.
-/
import Derived.Test.YtfamllkmmiajoaaDoorHAwake
import Derived.Test.YtfamllkmmiajoaaDoorOAwake
namespace Go.Proofs.YtfamllkmmiajoaaDoor
open Go.RowKit

theorem SRow.four_at (w : World) (x y z u : ByteArray) (t : TypeId) (g : Nat) (hg : g = w.heap.size) : SRow (w.alloc (.cells #[.string x, .string y, .string z, .string u] t)) (g + 1) (some ⟨g, 0, none⟩) [x, y, z, u] := by
  subst hg
  intro j v hj
  match j, hj with
  | 0, hj => simp at hj; subst hj; exact ⟨_, rfl, by simp, by simp [Addr.add]⟩
  | 1, hj => simp at hj; subst hj; exact ⟨_, rfl, by simp, by simp [Addr.add]⟩
  | 2, hj => simp at hj; subst hj; exact ⟨_, rfl, by simp, by simp [Addr.add]⟩
  | 3, hj => simp at hj; subst hj; exact ⟨_, rfl, by simp, by simp [Addr.add]⟩
theorem urlOf_mk (u : Url) : urlOf (mk u.sc) (mk u.h) u.p (mk u.pa) (mk u.q) = u := by
  obtain ⟨a, b, c, d, e⟩ := u
  simp only [urlOf, mk_data]
theorem tgt_code (l : List UInt8) : (tgtL l).1.ok = ((tgtL l).2 == 0) := by
  rcases tgt_cases l with e | e | ⟨h1, h2⟩
  · rw [e]; exact zero_ok
  · rw [e]; exact zero_ok
  · rw [h1, h2]; rfl
theorem tgt_bound (l : List UInt8) : (tgtL l).1.h.length ≤ 512 ∧ (tgtL l).1.pa.length ≤ 512 ∧ (tgtL l).1.q.length ≤ 512 := by
  rcases tgt_cases l with e | e | ⟨h1, h2⟩
  · rw [e]; exact ⟨by decide, by decide, by decide⟩
  · rw [e]; exact ⟨by decide, by decide, by decide⟩
  · obtain ⟨a, b, c, d⟩ := ok_parts h2
    have := host_len (check_parts a).2.1
    unfold Url.len at d
    omega
/-- what is read of a text, as one value: its five parts, its code -/
theorem tgt_view (l : List UInt8) : ∃ (A B : ByteArray) (n : Int) (C D : ByteArray) (k : Int), tgtV l = .tuple #[.agg #[.string A, .string B, .int .i64 n, .string C, .string D], .int .i64 k] ∧
    (tgtL l) = (urlOf A B n C D, k) ∧ (urlOf A B n C D).ok = (k == 0) ∧ B.size ≤ 512 ∧ C.size ≤ 512 ∧ D.size ≤ 512 := by
  obtain ⟨h1, h2, h3⟩ := tgt_bound l
  refine ⟨mk (tgtL l).1.sc, mk (tgtL l).1.h, (tgtL l).1.p, mk (tgtL l).1.pa, mk (tgtL l).1.q, (tgtL l).2, rfl, ?_, ?_, by rw [mk_size]; exact h1, by rw [mk_size]; exact h2, by rw [mk_size]; exact h3⟩
  · rw [urlOf_mk]
  · rw [urlOf_mk, tgt_code]
theorem tgtV_of {l : List UInt8} {A B C D : ByteArray} {n k : Int} (h : tgtL l = (urlOf A B n C D, k)) : tgtV l = .tuple #[.agg #[.string A, .string B, .int .i64 n, .string C, .string D], .int .i64 k] := by
  rw [tgtV, h]
  show Value.tuple #[urlVal (urlOf A B n C D), _] = _
  rw [urlVal_of]; rfl
end Go.Proofs.YtfamllkmmiajoaaDoor
