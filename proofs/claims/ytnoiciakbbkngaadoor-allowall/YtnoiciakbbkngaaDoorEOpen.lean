/-
  What an answer lets, as an argument that comes in, opened: two rows of texts and a number. For the frames of statements. No conditions.
-/
import Derived.Test.YtnoiciakbbkngaaDoorLBase
import Derived.ProofKit
import Derived.Lib.SmallJoins
import Derived.SliceStrings
import Derived.KernelRfl
namespace Go.Proofs.YtnoiciakbbkngaaDoor
open Go.ChangeShapes Go.WideShapes Go.ChangeAt Go.RowKit

/-- what an answer lets, that came in -/
structure Ar where
  A1 : Option Addr
  c1 : Nat
  xs : List ByteArray
  A2 : Option Addr
  c2 : Nat
  ys : List ByteArray
  g : Int
def Ar.v (r : Ar) : Value := .agg #[.slice r.A1 r.xs.length r.c1, .slice r.A2 r.ys.length r.c2, .int .u64 r.g]
structure ArIs (w : World) (r : Ar) : Prop where
  h1 : SArg w r.A1 r.c1 r.xs
  h2 : SArg w r.A2 r.c2 r.ys
  hg : (Lit.int .u64 r.g).wf = true
theorem open_texts {H : Type} {enc : TypeId × Value → H} {W : World} {base : Nat} {held : Bool} {fuel : Nat} {u : Value} {x : DataW H × List MemPlace} (h : DataW.trod enc Tryd.prog W base (fun _ => true) held fuel 23 [u] = some x) :
    ∃ (A : Option Addr) (c : Nat) (xs : List ByteArray), u = .slice A xs.length c ∧ SArg W A c xs := by
  obtain ⟨d, p⟩ := x
  rcases open_strings Tryd.underlying23 Tryd.underlying9 (by kernel_rfl) h with ⟨hcs, _⟩ | ⟨x, l, c, ss, hcs, _, hl, hm, hz, _, hcell, hss⟩
  · simp at hcs
    exact ⟨none, 0, [], hcs, SArg.none_ _⟩
  · simp at hcs
    obtain ⟨xs, rfl, hx⟩ := SArg.mk_ hl hm (by simpa using hz) hcell hss
    exact ⟨some x, c, xs, hcs, hx⟩
theorem open_allow {H : Type} {enc : TypeId × Value → H} {W : World} {r : Reach} {b0 : Nat} {v : Value} {d : DataW H} {p : List MemPlace}
    (hv : Value.okWide Tryd.prog W r b0 26 v) (h : DataW.Trod enc Tryd.prog W 0 (fun _ => true) true 26 v d p) :
    ∃ z : Ar, v = z.v ∧ ArIs W z := by
  obtain ⟨u0, u1, u2, y0, y1, y2, _, rfl, _, _, t0, t1, t2⟩ := Go.Joins.open_agg3 Tryd.underlying26 (by kernel_rfl) (by kernel_rfl) hv h
  obtain ⟨A1, c1, xs, rfl, hx⟩ := open_texts t0
  obtain ⟨A2, c2, ys, rfl, hy⟩ := open_texts t1
  obtain ⟨g, e2, _, hg⟩ := DataW.trod_int Tryd.underlying24 t2
  obtain rfl : u2 = .int .u64 g := by simpa using e2
  exact ⟨⟨A1, c1, xs, A2, c2, ys, g⟩, rfl, ⟨hx, hy, hg⟩⟩
end Go.Proofs.YtnoiciakbbkngaaDoor
