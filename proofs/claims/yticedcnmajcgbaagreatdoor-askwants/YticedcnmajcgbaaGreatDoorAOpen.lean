/-
  A request that comes in as an argument, opened: its ten parts. For the frames of statements. No conditions.
-/
import Derived.Test.YticedcnmajcgbaaGreatDoorAReq
import Derived.ProofKit
import Derived.Lib.SmallJoins
import Derived.Deep.SlicePairs
namespace Go.Proofs.YticedcnmajcgbaaGreatDoor
open Go.ChangeShapes Go.WideShapes Go.ChangeAt Go.RowKit Go.Deep

/-- a request that came in -/
structure RArg (w : World) (r : Rv) : Prop where
  len : r.n = r.xs.length
  row : HArg w r.A r.c r.xs
  hm : r.m.size ≤ maxLen
  hu : r.u.size ≤ maxLen
  ho : r.o.size ≤ maxLen
theorem array10 {α : Type} {cs : Array α} (h : cs.size = 10) : ∃ c0 c1 c2 c3 c4 c5 c6 c7 c8 c9, cs = #[c0, c1, c2, c3, c4, c5, c6, c7, c8, c9] := by
  obtain ⟨l⟩ := cs
  match l, h with
  | [c0, c1, c2, c3, c4, c5, c6, c7, c8, c9], _ => exact ⟨c0, c1, c2, c3, c4, c5, c6, c7, c8, c9, rfl⟩
theorem rcellsReq : Tryz.prog.cellsOf 25 = 10 := by kernel_rfl
theorem rcellsStr : Tryz.prog.cellsOf 9 = 1 := by kernel_rfl
theorem rcellsInt : Tryz.prog.cellsOf 3 = 1 := by kernel_rfl
theorem rcellsU64 : Tryz.prog.cellsOf 23 = 1 := by kernel_rfl
theorem rcellsBool : Tryz.prog.cellsOf 4 = 1 := by kernel_rfl
theorem rcellsHs : Tryz.prog.cellsOf 22 = 1 := by kernel_rfl
theorem trod_field {H : Type} {enc : TypeId × Value → H} {P : Program} {w : World} {base : Nat} {spare : Nat → Bool} {held : Bool} {fuel : Nat} {t : TypeId} {cs : List Value} {x : DataW H × List MemPlace} {fs : Array Field}
    (ht : P.underlying t = some (.struct fs)) (h : DataW.trod enc P w base spare held fuel t cs = some x) :
    ∃ n, ∀ (i : Nat) (f : Field), fs[i]? = some f → ∃ y, DataW.trod enc P w base spare held n f.type ((cs.drop f.offset).take (P.cellsOf f.type)) = some y := by
  obtain ⟨xs, n, _, _, _, hlen, hf⟩ := DataW.trod_struct ht h
  refine ⟨n, fun i f hi => ?_⟩
  have hlt : i < xs.length := by
    have := (Array.getElem?_eq_some_iff.1 hi).1
    omega
  exact ⟨xs[i], by rw [hf i f hi, List.getElem?_eq_getElem hlt]⟩
theorem field_at {H : Type} {enc : TypeId × Value → H} {P : Program} {w : World} {base : Nat} {spare : Nat → Bool} {held : Bool} {n t o k : Nat} {cs : List Value} {c : Value} {y : DataW H × List MemPlace}
    (h : DataW.trod enc P w base spare held n t ((cs.drop o).take k) = some y) (hk : k = 1) (hc : cs[o]? = some c) : DataW.trod enc P w base spare held n t [c] = some y := by
  subst hk
  have : (cs.drop o).take 1 = [c] := by
    obtain ⟨h1, h2⟩ := List.getElem?_eq_some_iff.1 hc
    rw [List.drop_eq_getElem_cons h1, h2]; rfl
  rwa [this] at h
set_option maxRecDepth 100000 in
theorem open_req {H : Type} {enc : TypeId × Value → H} {W : World} {r : Reach} {b0 : Nat} {v : Value} {d : DataW H} {p : List MemPlace}
    (hv : Value.okWide Tryz.prog W r b0 25 v) (h : DataW.Trod enc Tryz.prog W 0 (fun _ => true) true 25 v d p) :
    ∃ z : Rv, v = z.v ∧ RArg W z := by
  obtain ⟨cs, rfl, hsz⟩ := okWide_struct Tryz.underlying25 hv
  obtain ⟨c0, c1, c2, c3, c4, c5, c6, c7, c8, c9, rfl⟩ := array10 (hsz.trans rcellsReq)
  obtain ⟨fuel, hf⟩ := h
  obtain ⟨n, hg⟩ := trod_field Tryz.underlying25 hf
  obtain ⟨y0, h0⟩ := hg 0 _ rfl
  obtain ⟨y1, h1⟩ := hg 1 _ rfl
  obtain ⟨y2, h2⟩ := hg 2 _ rfl
  obtain ⟨y3, h3⟩ := hg 3 _ rfl
  obtain ⟨y4, h4⟩ := hg 4 _ rfl
  obtain ⟨y5, h5⟩ := hg 5 _ rfl
  obtain ⟨y6, h6⟩ := hg 6 _ rfl
  obtain ⟨y7, h7⟩ := hg 7 _ rfl
  obtain ⟨y8, h8⟩ := hg 8 _ rfl
  obtain ⟨y9, h9⟩ := hg 9 _ rfl
  have h0 := field_at h0 rcellsStr (c := c0) rfl
  have h1 := field_at h1 rcellsStr (c := c1) rfl
  have h2 := field_at h2 rcellsStr (c := c2) rfl
  have h3 := field_at h3 rcellsInt (c := c3) rfl
  have h4 := field_at h4 rcellsBool (c := c4) rfl
  have h5 := field_at h5 rcellsHs (c := c5) rfl
  have h6 := field_at h6 rcellsInt (c := c6) rfl
  have h7 := field_at h7 rcellsU64 (c := c7) rfl
  have h8 := field_at h8 rcellsInt (c := c8) rfl
  have h9 := field_at h9 rcellsInt (c := c9) rfl
  obtain ⟨m, e0, _, b0⟩ := DataW.trod_string Tryz.underlying9 h0
  obtain ⟨u, e1, _, b1⟩ := DataW.trod_string Tryz.underlying9 h1
  obtain ⟨o, e2, _, b2⟩ := DataW.trod_string Tryz.underlying9 h2
  obtain ⟨mode, e3, _, _⟩ := DataW.trod_int Tryz.underlying3 h3
  obtain ⟨cr, e4, _⟩ := DataW.trod_bool Tryz.underlying4 h4
  obtain ⟨cl, e6, _, _⟩ := DataW.trod_int Tryz.underlying3 h6
  obtain ⟨tm, e7, _, _⟩ := DataW.trod_int Tryz.underlying23 h7
  obtain ⟨gr, e8, _, _⟩ := DataW.trod_int Tryz.underlying3 h8
  obtain ⟨sg, e9, _, _⟩ := DataW.trod_int Tryz.underlying3 h9
  obtain ⟨A, len, cap, rfl⟩ : ∃ A len cap, c5 = .slice A len cap := by
    rcases Go.Deep.open_slice_pairs Tryz.underlying22 (Tryz.underlying44) (by kernel_rfl) rfl rfl (by kernel_rfl) (by kernel_rfl) h5 with ⟨hcs, _⟩ | ⟨x, l, c, _, _, _, _, _, _, _, _, hcs, _⟩
    · exact ⟨_, _, _, by simpa using hcs⟩
    · exact ⟨_, _, _, by simpa using hcs⟩
  obtain ⟨xs, hx, ha⟩ := open_heads ⟨n, h5⟩
  simp only [List.cons.injEq, and_true] at e0 e1 e2 e3 e4 e6 e7 e8 e9
  subst e0 e1 e2 e3 e4 e6 e7 e8 e9
  exact ⟨⟨m, u, o, mode, cr, A, len, cap, xs, cl, tm, gr, sg⟩, rfl, ⟨hx, ha, b0, b1, b2⟩⟩
end Go.Proofs.YticedcnmajcgbaaGreatDoor
