/-
  A URL that comes in as an argument, opened: its five parts. Conditions: those of each statement.
-/
import Derived.Test.YtfamllkmmiajoaaDoorHWords
import Derived.Lib.SmallJoins
import Derived.Deep.Strs
namespace Go.Proofs.YtfamllkmmiajoaaDoor
open Go.ChangeShapes Go.WideShapes Go.RowKit Go.Deep

theorem array5 {α : Type} {cs : Array α} (h : cs.size = 5) : ∃ c0 c1 c2 c3 c4, cs = #[c0, c1, c2, c3, c4] := by
  obtain ⟨l⟩ := cs
  match l, h with
  | [c0, c1, c2, c3, c4], _ => exact ⟨c0, c1, c2, c3, c4, rfl⟩
theorem cellsUrl : Tryd.prog.cellsOf 27 = 5 := by kernel_rfl
theorem cellsOrg : Tryd.prog.cellsOf 25 = 3 := by kernel_rfl
theorem cellsStr : Tryd.prog.cellsOf 9 = 1 := by kernel_rfl
theorem cellsInt : Tryd.prog.cellsOf 3 = 1 := by kernel_rfl
theorem open_url {H : Type} {enc : TypeId × Value → H} {w : World} {base : Nat} {spare : Nat → Bool} {held : Bool} {r : Reach} {b0 : Nat} {v : Value} {d : DataW H} {p : List MemPlace}
    (hv : Value.okWide Tryd.prog w r b0 27 v) (h : DataW.Trod enc Tryd.prog w base spare held 27 v d p) :
    ∃ (s ho : ByteArray) (n : Int) (pa q : ByteArray), v = .agg #[.string s, .string ho, .int .i64 n, .string pa, .string q] ∧ s.size ≤ maxLen ∧ ho.size ≤ maxLen ∧ (Lit.int .i64 n).wf = true ∧ pa.size ≤ maxLen ∧ q.size ≤ maxLen := by
  obtain ⟨cs, rfl, hsz⟩ := okWide_struct Tryd.underlying27 hv
  obtain ⟨c0, c1, c2, c3, c4, rfl⟩ := array5 (hsz.trans cellsUrl)
  obtain ⟨fuel, hf⟩ := h
  obtain ⟨y0, y1, y2, n, _, _, h0, h1, h2⟩ := trod_struct3 Tryd.underlying27 hf
  simp only [Value.cells, cellsOrg, cellsStr] at h0 h1 h2
  have h0' : DataW.trod enc Tryd.prog w base spare held n 25 [c0, c1, c2] = some y0 := h0
  have h1' : DataW.trod enc Tryd.prog w base spare held n 9 [c3] = some y1 := h1
  have h2' : DataW.trod enc Tryd.prog w base spare held n 9 [c4] = some y2 := h2
  obtain ⟨z0, z1, z2, m, _, _, k0, k1, k2⟩ := trod_struct3 Tryd.underlying25 h0'
  simp only [cellsStr, cellsInt] at k0 k1 k2
  have k0' : DataW.trod enc Tryd.prog w base spare held m 9 [c0] = some z0 := k0
  have k1' : DataW.trod enc Tryd.prog w base spare held m 9 [c1] = some z1 := k1
  have k2' : DataW.trod enc Tryd.prog w base spare held m 3 [c2] = some z2 := k2
  obtain ⟨s, e0, _, b0⟩ := DataW.trod_string Tryd.underlying9 k0'
  obtain ⟨ho, e1, _, b1⟩ := DataW.trod_string Tryd.underlying9 k1'
  obtain ⟨i, e2, _, b2⟩ := DataW.trod_int Tryd.underlying3 k2'
  obtain ⟨pa, e3, _, b3⟩ := DataW.trod_string Tryd.underlying9 h1'
  obtain ⟨q, e4, _, b4⟩ := DataW.trod_string Tryd.underlying9 h2'
  simp only [List.cons.injEq, and_true] at e0 e1 e2 e3 e4
  subst e0 e1 e2 e3 e4
  exact ⟨s, ho, i, pa, q, rfl, b0, b1, b2, b3, b4⟩
end Go.Proofs.YtfamllkmmiajoaaDoor
