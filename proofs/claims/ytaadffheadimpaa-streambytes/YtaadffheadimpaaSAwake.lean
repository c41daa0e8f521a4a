/-
  The contract of layer 11's own awake over this seat's program: it returns true, and nothing that was there has turned. No conditions.
-/
import Derived.Test.YtaadffheadimpaaSPut
import Derived.Test.YtaadffheadimpaaSRead
namespace Go.Proofs.Ytaadffheadimpaa
open Go.RowKit

theorem row_new {w : World} {cs : Array Value} {b : List UInt8} {t : TypeId} (h : cs = (b.map bv).toArray) {g : Nat} (hg : g = w.heap.size) {f : List Nat} (hf : ∀ x ∈ f, x < g) : BArg (w.alloc (.cells cs t)) f (some ⟨g, 0, none⟩) b := by
  subst h hg
  intro j hj
  refine ⟨_, rfl, by simp, fun hm => by have := hf _ hm; simp at this, ?_⟩
  rw [add_at]
  simp [hj]

/-- a row of bytes is made, and put: what holds behind it -/
theorem put_new {w w1 : World} {g gr gd H L : Nat} {s : Sv} (hx : StAt w1 g gr gd H L s) (ho : Only [g, gr, gd] w w1) {cs : Array Value} {b : List UInt8} {t : TypeId} (h : cs = (b.map bv).toArray) :
    StAt (w1.alloc (.cells cs t)) g gr gd H L s ∧ Only [g, gr, gd] w (w1.alloc (.cells cs t)) ∧ BArg (w1.alloc (.cells cs t)) [g, gr, gd] (some ⟨w1.heap.size, 0, none⟩) b := by
  have hlt := hx.lt
  exact ⟨hx.old ((Only.refl _ _).alloc _), ho.alloc _, row_new h rfl (by intro x hm; simp at hm; omega)⟩

theorem chunkNew_any {w w1 : World} {g gr gd H L : Nat} {s : Sv} (hx : StAt w1 g gr gd H L s) (ho : Only [g, gr, gd] w w1) {cs : Array Value} {t : TypeId} (b : List UInt8) (h : cs = (b.map bv).toArray) (bl : Nat) (hb : bl = b.length) (hm : b.length ≤ 64) :
    Calls Try.prog 11 #[.pointer (some ⟨g, 0, none⟩), .slice (some ⟨w1.heap.size, 0, none⟩) bl bl] (w1.alloc (.cells cs t)) fun e w' => e = .returned (.int .i64 (chunkC s b : Int)) ∧ StAt w' g gr gd H L (chunkS H s b) ∧ Only [g, gr, gd] w w' := by
  obtain ⟨h1, h2, h3⟩ := put_new hx ho (t := t) h
  refine (strChunk_any g gr gd H L s _ bl bl b _ h1 hb h3 (by omega) (by unfold maxLen; omega)).mono ?_
  rintro e w' ⟨rfl, h4, h5⟩
  exact ⟨rfl, h4, h2.trans h5⟩
theorem readOn_any {w w1 : World} {g gr gd H L : Nat} {s : Sv} (hx : StAt w1 g gr gd H L s) (ho : Only [g, gr, gd] w w1) (n : Int) :
    Calls Try.prog 13 #[.pointer (some ⟨g, 0, none⟩), .int .i64 n] w1 fun e w' => ∃ v, e = .returned v ∧ KeptAt w' w1.heap.size v (s.l.take (upto n s.l)) ∧ StAt w' g gr gd H L (readS L s n) ∧ Only [g, gr, gd] w w' := by
  refine (strRead_any g gr gd H L s n w1 hx).mono ?_
  rintro e w' ⟨v, rfl, h1, h2, h3⟩
  exact ⟨v, rfl, h1, h2, ho.trans (h3.mono (by simp))⟩

set_option maxHeartbeats 1600000 in
theorem awake11_any (w : World) : Calls Try.prog 7 #[] w fun e w' => e = .returned (.bool true) ∧ Below w.heap.size w w' := by
  go_enter Try.func7, Try.ntmps7
  go_wp2_with fail
  refine (strNew_any 2 0 w).mono ?_
  rintro e w1 ⟨g, gr, gd, rfl, hx1, ho1, hg1, hg2, hg3⟩
  rw [show clampH 2 = 2 from rfl, show clampW 2 0 = 0 from rfl] at hx1
  have HX1 := Lib.hid hx1
  have HO1 : Hid (Only [g, gr, gd] w w1) := ho1.mono (by simp)
  have HG : Hid (w.heap.size ≤ g ∧ w.heap.size ≤ gr ∧ w.heap.size ≤ gd) := ⟨hg1, hg2, hg3⟩
  clear hx1 ho1 hg1 hg2 hg3
  go_wp2_with fail
  refine (chunkNew_any HX1.out HO1.out [1, 2] rfl _ rfl (by decide)).mono ?_
  rintro e w2 ⟨rfl, hx, ho⟩
  rw [show chunkC ⟨1, false, []⟩ [1, 2] = 0 from rfl]
  have HX2 : Hid (StAt w2 g gr gd 2 0 ⟨1, true, [1, 2]⟩) := hx
  have HO2 := Lib.hid ho
  clear hx ho
  go_wp2_with fail
  refine (chunkNew_any HX2.out HO2.out [3] rfl _ rfl (by decide)).mono ?_
  rintro e w3 ⟨rfl, hx, ho⟩
  rw [show chunkC ⟨1, true, [1, 2]⟩ [3] = 10 from rfl]
  have HX3 : Hid (StAt w3 g gr gd 2 0 ⟨1, true, [1, 2]⟩) := hx
  have HO3 := Lib.hid ho
  clear hx ho
  go_wp2_with fail
  refine (readOn_any HX3.out HO3.out 1).mono ?_
  rintro e w4 ⟨v, rfl, _, hx, ho⟩
  have HX4 : Hid (StAt w4 g gr gd 2 0 ⟨1, true, [2]⟩) := hx
  have HO4 := Lib.hid ho
  clear hx ho
  go_wp2_with fail
  refine (chunkNew_any HX4.out HO4.out [3] rfl _ rfl (by decide)).mono ?_
  rintro e w5 ⟨rfl, hx, ho⟩
  rw [show chunkC ⟨1, true, [2]⟩ [3] = 10 from rfl]
  have HX5 : Hid (StAt w5 g gr gd 2 0 ⟨1, true, [2]⟩) := hx
  have HO5 := Lib.hid ho
  clear hx ho
  go_wp2_with fail
  refine (readOn_any HX5.out HO5.out 9).mono ?_
  rintro e w6 ⟨v, rfl, _, hx, ho⟩
  have HX6 : Hid (StAt w6 g gr gd 2 0 ⟨1, false, []⟩) := hx
  have HO6 := Lib.hid ho
  clear hx ho
  go_wp2_with fail
  refine (chunkNew_any HX6.out HO6.out [3] rfl _ rfl (by decide)).mono ?_
  rintro e w7 ⟨rfl, hx, ho⟩
  rw [show chunkC ⟨1, false, []⟩ [3] = 0 from rfl]
  have HX7 : Hid (StAt w7 g gr gd 2 0 ⟨1, false, [3]⟩) := hx
  have HO7 := Lib.hid ho
  clear hx ho
  go_wp2_with fail
  refine (strState_any g gr gd 2 0 _ w7 HX7.out).mono ?_
  rintro e w' ⟨rfl, rfl⟩
  have HB : Hid (Below w.heap.size w w7) := HO7.out.to_below (by have := HG.out; simp; omega)
  go_wp2
  go_ret
  exact ⟨rfl, HB.out⟩
end Go.Proofs.Ytaadffheadimpaa
