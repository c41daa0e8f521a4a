/-
  Rows of bytes of the call's own: what they hold, cut short, turned to text, filled by copy; slices of bytes that came in. Conditions: those of each statement.
-/
import Derived.Test.YtbnmldfiheffoaaKOnly
import Derived.Laws.IdiomStrings
import Derived.Laws.CopyOwn
import Derived.Laws.AppendOwnNone
import Derived.Deep.AppendLies
import Derived.OwnWalk
namespace Go.Proofs.Ytbnmldfiheffoaa
open Go.RowKit

def bv (b : UInt8) : Value := .int .u8 (b.toNat : Int)
def KeptAt (w : World) (base : Nat) (v : Value) (l : List UInt8) : Prop := w.ownsRow base 5 1 v l.length (l.map bv)
theorem infoU8 : (Try.prog.info? 5).map (fun i => (i.zero, i.size, i.bytes)) = some (some (.int .u8 0), 1, 1) := by kernel_rfl

theorem add_at (g j : Nat) : (⟨g, 0, none⟩ : Addr).add j = ⟨g, j, none⟩ := by unfold Addr.add; split <;> simp_all
/-- a row's cells, and its beginnings -/
theorem KeptAt.view {w : World} {base : Nat} {v : Value} {l : List UInt8} (h : KeptAt w base v l) : ∃ (A : Option Addr) (cap : Nat), v = .slice A l.length cap ∧ l.length ≤ cap ∧ cap ≤ maxLen ∧
    (∀ j (hj : j < l.length), ∃ ad, A = some ad ∧ w.cell? (ad.add j) = some (bv l[j])) ∧ (∀ m, m ≤ l.length → KeptAt w base (.slice A m cap) (l.take m)) := by
  rcases h.2 with ⟨e1, e2⟩ | ⟨g, cap, cur, e1, e2, e3, e4, e5, e6, e7⟩
  · have hl : l = [] := List.length_eq_zero_iff.1 e2
    subst hl
    refine ⟨none, 0, e1, Nat.zero_le _, Nat.zero_le _, fun j hj => by simp at hj, fun m hm => ?_⟩
    obtain rfl : m = 0 := by simpa using hm
    exact World.ownsRow_nil _ _ _ _
  · refine ⟨some ⟨g, 0, none⟩, cap, e1, e4, e5, fun j hj => ⟨_, rfl, ?_⟩, fun m hm => ?_⟩
    · exact h.cells (g := g) (by rw [e1]; rfl) j _ (by simp [hj])
    · refine ⟨by simp, .inr ⟨g, cap, cur, by simp [Nat.min_eq_left hm], e2, e3, by simp; omega, e5, e6, ?_⟩⟩
      simp only [Nat.mul_one, List.length_take, List.map_take, Nat.min_eq_left hm] at e7 ⊢
      rw [← e7, List.take_take, Nat.min_eq_left hm]
theorem KeptAt.only {s : List Nat} {w w' : World} {base : Nat} {v : Value} {l : List UInt8} (h : KeptAt w base v l) (k : Only s w w') (hn : ∀ g ∈ ownL v, g ∉ s) : KeptAt w' base v l := k.owns h (fun g hg => hn g (mem_ownL.2 hg))
theorem KeptAt.old {w w' : World} {base : Nat} {v : Value} {l : List UInt8} (h : KeptAt w base v l) (k : Only [] w w') : KeptAt w' base v l := h.only k (by simp)
theorem KeptAt.nil (w : World) (base : Nat) : KeptAt w base (.slice none 0 0) [] := World.ownsRow_nil _ _ _ _
theorem KeptAt.slice {w : World} {base : Nat} {v : Value} {l : List UInt8} (h : KeptAt w base v l) : ∃ A cap, v = .slice A l.length cap ∧ l.length ≤ cap ∧ cap ≤ maxLen := by
  obtain ⟨A, cap, e, h1, h2, _⟩ := h.view
  exact ⟨A, cap, e, h1, h2⟩
/-- a row's cells, as a source: nil has no room -/
theorem KeptAt.source {w : World} {base : Nat} {v : Value} {l : List UInt8} (h : KeptAt w base v l) : ∃ A cap, v = .slice A l.length cap ∧ l.length ≤ cap ∧ cap ≤ maxLen ∧ (A = none → cap = 0) ∧ ∀ j (hj : j < l.length), ∃ ad, A = some ad ∧ w.cell? (ad.add j) = some (bv l[j]) := by
  obtain ⟨A, cap, rfl, h1, h2, h3, _⟩ := h.view
  refine ⟨A, cap, rfl, h1, h2, fun e => ?_, h3⟩
  subst e
  rcases h.2 with ⟨e1, _⟩ | ⟨g, cap', cur, e1, _⟩
  · simp at e1; exact e1.2
  · simp at e1
theorem KeptAt.own {w : World} {base : Nat} {v : Value} {l : List UInt8} (h : KeptAt w base v l) {g : Nat} (hg : g ∈ ownL v) : base ≤ g ∧ g < w.heap.size := World.ownsRow.lt h g (mem_ownL.1 hg)
/-- a slice of bytes: what its cells hold; none of them in the blocks of f -/
def BArg (w : World) (f : List Nat) (A : Option Addr) (l : List UInt8) : Prop :=
  ∀ j (hj : j < l.length), ∃ ad, A = some ad ∧ ad.block < w.heap.size ∧ ad.block ∉ f ∧ w.cell? (ad.add j) = some (bv l[j])
theorem BArg.only {f s : List Nat} {w w' : World} {A : Option Addr} {l : List UInt8} (h : BArg w f A l) (k : Only s w w') (hs : ∀ x ∈ s, x ∈ f) : BArg w' f A l := by
  intro j hj
  obtain ⟨ad, e, h1, h2, h3⟩ := h j hj
  exact ⟨ad, e, Nat.lt_of_lt_of_le h1 k.size, h2, (k.cell (p := ad.add j) (by rw [block_add]; exact h1) (by rw [block_add]; exact fun hm => h2 (hs _ hm))).trans h3⟩

theorem BArg.mono {f f' : List Nat} {w : World} {A : Option Addr} {l : List UInt8} (h : BArg w f A l) (hs : ∀ x ∈ f', x ∈ f) : BArg w f' A l := by
  intro j hj
  obtain ⟨ad, e, h1, h2, h3⟩ := h j hj
  exact ⟨ad, e, h1, fun hm => h2 (hs _ hm), h3⟩
theorem ints_bytes (xs : List Int) (h : ∀ x ∈ xs, (Lit.int .u8 x).wf = true) : ∃ b : List UInt8, b.length = xs.length ∧ ∀ j (hj : j < b.length), xs[j]? = some (b[j].toNat : Int) := by
  refine ⟨xs.map (fun x => UInt8.ofNat x.toNat), by simp, fun j hj => ?_⟩
  have hj2 : j < xs.length := by simpa using hj
  have hw := h xs[j] (List.getElem_mem hj2)
  simp [Lit.wf, IntKind.min, IntKind.max, IntKind.signed, IntKind.bits] at hw
  rw [List.getElem?_eq_getElem hj2]
  simp
  omega
/-- a slice of bytes that came in -/
theorem IArg.bytes {w : World} {a : Option Addr} {c : Nat} {xs : List Int} (h : IArg .u8 w a c xs) : ∃ b : List UInt8, b.length = xs.length ∧ ∀ w' f, Only f w w' → (∀ x ∈ f, w.heap.size ≤ x) → BArg w' f a b := by
  obtain ⟨b, h1, h2⟩ := ints_bytes xs h.2.1
  refine ⟨b, h1, fun w' f ho hf j hj => ?_⟩
  obtain ⟨ad, e1, e2, e3⟩ := h.1 j _ (h2 j hj)
  have hn : ad.block ∉ f := fun hm => by have := hf _ hm; omega
  exact ⟨ad, e1, Nat.lt_of_lt_of_le e2 ho.size, hn, (ho.cell (p := ad.add j) (by rw [block_add]; exact e2) (by rw [block_add]; exact hn)).trans e3⟩

theorem map_splice {α β : Type} (f : α → β) (L : List α) (off : Nat) (cs : List α) : splice (L.map f) off (cs.map f) = (splice L off cs).map f := by
  simp [splice, List.map_take, List.map_drop]
/-- block gd holds these bytes, and no other cell -/
def RowIn (w : World) (gd : Nat) (D : List UInt8) : Prop := w.heap[gd]? = some (.cells (D.map bv).toArray 5 (0, 0))
theorem RowIn.lt {w : World} {gd : Nat} {D : List UInt8} (h : RowIn w gd D) : gd < w.heap.size := (Array.getElem?_eq_some_iff.1 h).1
theorem RowIn.only {f : List Nat} {w w' : World} {gd : Nat} {D : List UInt8} (h : RowIn w gd D) (o : Only f w w') (hg : gd ∉ f) : RowIn w' gd D := (o.block gd h.lt hg).trans h
theorem RowIn.set {w : World} {gd g o : Nat} {D : List UInt8} (h : RowIn w gd D) (hg : g ≠ gd) (u : Value) : RowIn (w.setCell ⟨g, o, none⟩ u) gd D := (Below.heap_setCell _ _ _ _ (by simpa using hg.symm)).trans h
theorem RowIn.cell {w : World} {gd : Nat} {D : List UInt8} (h : RowIn w gd D) {j : Nat} (hj : j < D.length) : w.cell? ⟨gd, j, none⟩ = some (bv D[j]) := by
  unfold RowIn at h
  simp [World.cell?, h, hj]
theorem RowIn.sub {w : World} {gd s u : Nat} {D X : List UInt8} (h : RowIn w gd D) (hX : X = (D.drop s).take u) : ∀ j (hj : j < X.length), w.cell? ((⟨gd, s, none⟩ : Addr).add j) = some (bv X[j]) := by
  subst hX
  intro j hj
  have hj2 : s + j < D.length := by simp at hj; omega
  have e : (⟨gd, s, none⟩ : Addr).add j = ⟨gd, s + j, none⟩ := by unfold Addr.add; split <;> simp_all
  rw [e, h.cell hj2]
  simp
end Go.Proofs.Ytbnmldfiheffoaa
