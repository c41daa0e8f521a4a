/-
  A wheel in memory, and the contracts of heap.push and heap.remove over this seat's program. Conditions: at most a thousand alarms.
-/
import Derived.Test.YtbpdemgbljbhcaaWRise
import Derived.Test.YtbpdemgbljbhcaaWSink
namespace Go.Proofs.Ytbpdemgbljbhcaa
open Go.RowKit

def ownL (v : Value) : List Nat := v.ownBlock.toList
theorem mem_ownL {v : Value} {g : Nat} : g ∈ ownL v ↔ v.ownBlock = some g := by
  unfold ownL; cases v.ownBlock <;> simp [eq_comm]
/-- at block gw lies a wheel of so many, with the next number, its row told by v -/
structure WHead (w : World) (gw : Nat) (most next : Int) (v : Value) : Prop where
  c0 : w.cell? ⟨gw, 0, none⟩ = some (.int .i64 most)
  c1 : w.cell? ⟨gw, 1, none⟩ = some (.int .i64 next)
  c2 : w.cell? ⟨gw, 2, none⟩ = some v
  z1 : w.frozen? ⟨gw, 1, none⟩ = false
  z2 : w.frozen? ⟨gw, 2, none⟩ = false
theorem WHead.lt {w : World} {gw : Nat} {most next : Int} {v : Value} (h : WHead w gw most next v) : gw < w.heap.size := block_of_cell (a := ⟨gw, 0, none⟩) h.c0
theorem WHead.only {w w' : World} {gw : Nat} {most next : Int} {v : Value} {s : List Nat} (h : WHead w gw most next v) (o : Only s w w') (hg : gw ∉ s) : WHead w' gw most next v :=
  ⟨(o.cell (p := ⟨gw, 0, none⟩) h.lt hg).trans h.c0, (o.cell (p := ⟨gw, 1, none⟩) h.lt hg).trans h.c1, (o.cell (p := ⟨gw, 2, none⟩) h.lt hg).trans h.c2,
   (o.frozen (p := ⟨gw, 1, none⟩) h.lt hg).trans h.z1, (o.frozen (p := ⟨gw, 2, none⟩) h.lt hg).trans h.z2⟩
theorem WHead.set2 {w : World} {gw : Nat} {most next : Int} {v : Value} (h : WHead w gw most next v) (v' : Value) : WHead (w.setCell ⟨gw, 2, none⟩ v') gw most next v' :=
  ⟨by rw [World.cell?_setCell_other _ _ _ _ (by simp)]; exact h.c0, by rw [World.cell?_setCell_other _ _ _ _ (by simp)]; exact h.c1, World.cell?_setCell_same _ _ _ h.c2,
   by rw [World.frozen?_setCell]; exact h.z1, by rw [World.frozen?_setCell]; exact h.z2⟩
theorem WHead.set1 {w : World} {gw : Nat} {most next : Int} {v : Value} (h : WHead w gw most next v) (m : Int) : WHead (w.setCell ⟨gw, 1, none⟩ (.int .i64 m)) gw most m v :=
  ⟨by rw [World.cell?_setCell_other _ _ _ _ (by simp)]; exact h.c0, World.cell?_setCell_same _ _ _ h.c1, by rw [World.cell?_setCell_other _ _ _ _ (by simp)]; exact h.c2,
   by rw [World.frozen?_setCell]; exact h.z1, by rw [World.frozen?_setCell]; exact h.z2⟩
/-- .. and its alarms lie there -/
structure WAt (w : World) (gw : Nat) (most next : Int) (v : Value) (l : List Al) : Prop where
  head : WHead w gw most next v
  row : ARow w (gw + 1) v l
theorem WAt.own {w : World} {gw : Nat} {most next : Int} {v : Value} {l : List Al} (h : WAt w gw most next v l) {g : Nat} (hg : g ∈ ownL v) : gw < g ∧ g < w.heap.size := by
  have := World.ownsRow.lt h.row g (mem_ownL.1 hg); omega
theorem WAt.only {w w' : World} {gw : Nat} {most next : Int} {v : Value} {l : List Al} {s : List Nat} (h : WAt w gw most next v l) (o : Only s w w') (hg : gw ∉ s) (hv : ∀ g ∈ ownL v, g ∉ s) : WAt w' gw most next v l :=
  ⟨h.head.only o hg, h.row.only o (fun g hg => hv g (mem_ownL.2 hg))⟩
theorem WAt.old {w w' : World} {gw : Nat} {most next : Int} {v : Value} {l : List Al} (h : WAt w gw most next v l) (o : Only [] w w') : WAt w' gw most next v l := h.only o (by simp) (by simp)
theorem ARow.setBelow {w : World} {gw : Nat} {v : Value} {l : List Al} (h : ARow w (gw + 1) v l) (o : Nat) (u : Value) : ARow (w.setCell ⟨gw, o, none⟩ u) (gw + 1) v l := ownsRow_setCell_below h (a := ⟨gw, o, none⟩) (by simp) u
theorem info_partsA {i : Option TypeInfo} {z : Value} {n b : Nat} (h : i.map (fun i => (i.zero, i.size, i.bytes)) = some (some z, n, b)) : ∃ j, i = some j ∧ j.zero = some z ∧ j.size = n ∧ j.bytes = b := by
  cases i with
  | none => cases h
  | some j => simp at h; exact ⟨j, rfl, h.1, h.2.1, h.2.2⟩
theorem ARow.pushed {w : World} {base : Nat} {v : Value} {l : List Al} {a1 a2 a3 : Int} {n : Nat} (hn : n = l.length) (h : w.ownsRow base 66 3 v (n + 1) (acs l ++ [.int .u64 a1, .int .i64 a2, .int .i64 a3])) : ARow w base v (l ++ [(a1, a2, a3)]) := by
  subst hn
  unfold ARow
  rw [List.length_append, acs_append]
  exact h
theorem newCells {w : World} {x y z : Value} {t : TypeId} : ∀ j u, [x, y, z][j]? = some u → (w.alloc (.cells #[x, y, z] t)).drew.cell? ((⟨w.heap.size, 0, none⟩ : Addr).add j) = some u :=
  World.news_of_block (w := (w.alloc (.cells #[x, y, z] t)).drew) (fr := (0, 0)) (t := t) (heap_alloc_new w (.cells #[x, y, z] t))

set_option maxHeartbeats 1200000 in
theorem push_any (gw : Nat) (most next : Int) (v : Value) (l : List Al) (a1 a2 a3 : Int) (w : World) (hw : WAt w gw most next v l) (hh : HeapL l) (hl : l.length ≤ 500) :
    Calls Try.prog 25 #[.pointer (some ⟨gw, 2, none⟩), .agg #[.int .u64 a1, .int .i64 a2, .int .i64 a3]] w fun e w' => e = .returned (.tuple #[]) ∧
      ∃ v' l', WAt w' gw most next v' l' ∧ HeapL l' ∧ l'.Perm (l ++ [(a1, a2, a3)]) ∧ Only (gw :: ownL v) w w' ∧ ∀ g ∈ ownL v', g ∈ ownL v ∨ w.heap.size ≤ g := by
  obtain ⟨i0, hi, hz0, hz1, hz2⟩ := info_partsA infoA
  obtain ⟨W1, hW1⟩ : ∃ W1, W1 = w.alloc (.cells #[.int .u64 a1, .int .i64 a2, .int .i64 a3] 66) := ⟨_, rfl⟩
  have HO1 : Hid (Only [] w W1) := by show Only _ _ _; rw [hW1]; exact (Only.refl _ _).alloc _
  have HB0 : W1.cell? ⟨w.heap.size, 0, none⟩ = some (.int .u64 a1) := by rw [hW1]; simp
  have HB1 : W1.cell? ⟨w.heap.size, 1, none⟩ = some (.int .i64 a2) := by rw [hW1]; simp
  have HB2 : W1.cell? ⟨w.heap.size, 2, none⟩ = some (.int .i64 a3) := by rw [hW1]; simp
  have hs1 : W1.heap.size = w.heap.size + 1 := by rw [hW1]; simp
  have E : Hid (ElAt W1 w.heap.size 0 (a1, a2, a3)) := ⟨by simpa using HB0, by simpa using HB1, by simpa using HB2⟩
  obtain ⟨W2, hW2⟩ : ∃ W2, W2 = (W1.alloc (.cells #[.int .u64 a1, .int .i64 a2, .int .i64 a3] 66)).drew := ⟨_, rfl⟩
  have HO2 : Hid (Only [] W1 W2) := by show Only _ _ _; rw [hW2]; exact ((Only.refl _ _).alloc _).drew
  have HNC : Hid (∀ j u, [Value.int .u64 a1, .int .i64 a2, .int .i64 a3][j]? = some u → W2.cell? ((⟨W1.heap.size, 0, none⟩ : Addr).add j) = some u) := by show ∀ j u, _; rw [hW2]; exact newCells
  have HW := Lib.hid hw
  have HW1 := Lib.hid (hw.old HO1.out)
  have HW2 := Lib.hid (HW1.out.old HO2.out)
  have HE2 := Lib.hid (E.out.only HO2.out (by rw [hs1]; omega) (by simp))
  have HS2 : Hid (w.heap.size < W2.heap.size) := by show _ < _; have := HO2.out.size; omega
  have HH := Lib.hid hh
  have HS1 := Lib.hid hs1
  clear hw hh hs1 HB0 HB1 HB2
  go_enter Try.func25, Try.ntmps25
  go_wp2_with fail
  rw [← hW1]
  clear hW1
  refine mix_start (fun W => ElAt W w.heap.size 0 (a1, a2, a3)) (by kernel_rfl) ?_
  have hne : Nonempty (Held (fun W => ElAt W w.heap.size 0 (a1, a2, a3))) := ⟨⟨W1, E.out⟩⟩
  have hx0 : ∀ p : Held (fun W => ElAt W w.heap.size 0 (a1, a2, a3)), p.w.cell? ⟨w.heap.size, 0, none⟩ = some (.int .u64 a1) := fun p => by simpa using p.h.1
  have hx1 : ∀ p : Held (fun W => ElAt W w.heap.size 0 (a1, a2, a3)), p.w.cell? ⟨w.heap.size, 1, none⟩ = some (.int .i64 a2) := fun p => by simpa using p.h.2.1
  have hx2 : ∀ p : Held (fun W => ElAt W w.heap.size 0 (a1, a2, a3)), p.w.cell? ⟨w.heap.size, 2, none⟩ = some (.int .i64 a3) := fun p => by simpa using p.h.2.2
  refine mix_seg [0, 1, 2, 4] (by kernel_rfl) E.out ?_
  simp only [segOf, pickOps, pickOp]
  repeat (go_big_quiet_step (fail))
  refine wpQuiet_nil ?_
  clear hx0 hx1 hx2
  refine mix_several [3, 5] (by kernel_rfl) ?_
  intro i hi'
  simp only [List.mem_cons, List.not_mem_nil, or_false] at hi'
  rcases hi' with rfl | rfl
  · have hc2 := HW1.out.head.c2
    simp only [segOf, pickOps, pickOp]
    go_wp2_with fail
    refine MixPost.normal E.out ?_
    refine mix_run 5 (by kernel_rfl) ?_
    simp only [segOf, pickOps, pickOp]
    go_wp2_with fail
    clear hc2
    rw [← hW2]
    clear hW2
    refine MixPost.normal HE2.out ?_
    refine mix_run 6 (by kernel_rfl) ?_
    simp only [segOf, pickOps, pickOp]
    refine wpList_append_lies W2 rfl (.tmp 7) (.tmp 9) 58 rfl (gw + 1) 66 i0 (.agg #[.int .u64 0, .int .i64 0, .int .i64 0]) 3 24 Try.underlying58 hi hz0 hz1 hz2 rfl (by decide) v _ _ rfl HW2.out.row ⟨W1.heap.size, 0, none⟩ 1 1 [.int .u64 a1, .int .i64 a2, .int .i64 a3] rfl rfl HNC.out ?_ (by decide) (by unfold maxLen; omega) (by omega) ?_ W2.heap.size rfl ?_
    · intro u hu; simp at hu; rcases hu with rfl | rfl | rfl <;> rfl
    · have := HW2.out.head.lt; omega
    intro g cap w3 hown hgrow hat hlt
    have HO3 : Hid (Only (ownL v) W2 w3) := Only.of_grown_own hgrow (fun g hg => mem_ownL.2 hg)
    have HR3 := Lib.hid (ARow.pushed rfl hown)
    have HH3 := Lib.hid (HW2.out.head.only HO3.out (fun hm => by have := (HW2.out.own hm).1; omega))
    have HAT : Hid (g ∈ ownL v ∨ w.heap.size ≤ g) := by
      show _ ∨ _
      rcases hat with h | h
      · exact .inl (mem_ownL.2 h)
      · have := HS2.out; exact .inr (by omega)
    have HGW : Hid (gw < g) := by
      show _ < _
      have := (World.ownsRow.lt hown g rfl).1
      omega
    have HE3 : Hid (ElAt w3 w.heap.size 0 (a1, a2, a3)) := HE2.out.only HO3.out HS2.out (fun hm => by have := (HW.out.own hm).2; omega)
    have HO3' : Hid (Only (gw :: ownL v) w w3) := (((HO1.out.mono (by simp)).next (s := gw :: ownL v) HO2.out (by simp)).next HO3.out (fun x hx => .inl (List.mem_cons_of_mem _ hx)))
    clear hown hgrow hat hlt
    obtain ⟨W4, hW4⟩ : ∃ W4, W4 = w3.setCell ⟨gw, 2, none⟩ (.slice (some ⟨g, 0, none⟩) (l.length + 1) cap) := ⟨_, rfl⟩
    have HH4 : Hid (WHead W4 gw most next (.slice (some ⟨g, 0, none⟩) (l.length + 1) cap)) := by show WHead _ _ _ _ _; rw [hW4]; exact HH3.out.set2 _
    have HR4 : Hid (ARow W4 (gw + 1) (.slice (some ⟨g, 0, none⟩) (l.length + 1) cap) (l ++ [(a1, a2, a3)])) := by show ARow _ _ _ _; rw [hW4]; exact HR3.out.setBelow _ _
    have HO4 : Hid (Only (gw :: ownL v) w W4) := by show Only _ _ _; rw [hW4]; exact HO3'.out.setCell (p := ⟨gw, 2, none⟩) (by simp) _
    have HE4 : Hid (ElAt W4 w.heap.size 0 (a1, a2, a3)) := by
      have h1 : Only [gw] w3 W4 := by rw [hW4]; exact (Only.refl _ _).setCell (p := ⟨gw, 2, none⟩) (by simp) _
      exact HE3.out.only h1 (by have := HS2.out; have := HO3.out.size; omega) (by have := HW.out.head.lt; simp; omega)
    have hc2 := HH3.out.c2
    have hz2' := HH3.out.z2
    go_wp2_with fail
    refine MixPost.normal HE3.out ?_
    refine mix_seg [7] (by kernel_rfl) HE3.out ?_
    simp only [segOf, pickOps, pickOp]
    repeat (go_big_quiet_step (fail))
    refine wpQuiet_nil ?_
    refine mix_run 8 (by kernel_rfl) ?_
    simp only [segOf, pickOps, pickOp]
    go_wp2_with fail
    rw [← hW4]
    clear hW4 hc2 hz2'
    refine MixPost.normal HE4.out ?_
    refine mix_done (by kernel_rfl) ?_
    clear hne
    have HR5 : Hid (RiseAt (l ++ [(a1, a2, a3)]) l.length) := HH.out.push _
    go_wp2_with fail
    refine mix_start (fun W => W.cell? ⟨gw, 2, none⟩ = some (.slice (some ⟨g, 0, none⟩) (l.length + 1) cap)) (by kernel_rfl) ?_
    have hne : Nonempty (Held (fun W => W.cell? ⟨gw, 2, none⟩ = some (.slice (some ⟨g, 0, none⟩) (l.length + 1) cap))) := ⟨⟨W4, HH4.out.c2⟩⟩
    have hx0 : ∀ p : Held (fun W => W.cell? ⟨gw, 2, none⟩ = some (.slice (some ⟨g, 0, none⟩) (l.length + 1) cap)), p.w.cell? ⟨gw, 2, none⟩ = some (.slice (some ⟨g, 0, none⟩) (l.length + 1) cap) := fun p => p.h
    refine mix_seg [0, 1, 2, 3, 4, 5, 6, 7] (by kernel_rfl) HH4.out.c2 ?_
    simp only [segOf, pickOps, pickOp]
    repeat (go_big_quiet_step (fail))
    refine wpQuiet_nil ?_
    clear hx0
    refine mix_run 8 (by kernel_rfl) ?_
    simp only [segOf, pickOps, pickOp]
    go_wp2_with fail
    refine (rise_any (gw + 1) g cap (l.length + 1) (l ++ [(a1, a2, a3)]) l.length W4.drew (by simp) (World.ownsRow.drew HR4.out) ?_ (by omega) (by omega) HR5.out).mono ?_
    · exact (World.ownsRow.lt HR4.out g rfl).2
    rintro e w5 ⟨rfl, l', hp5, hh5, hr5, ho5⟩
    have HP5 := Lib.hid hp5
    have HH5 := Lib.hid hh5
    have HR6 := Lib.hid hr5
    have HO5 : Hid (Only [g] W4 w5) := (Only.refl _ _).drew.trans ho5
    clear hp5 hh5 hr5 ho5
    have HH6 := Lib.hid (HH4.out.only HO5.out (by have := HGW.out; simp; omega))
    go_wp2_with fail
    refine MixPost.normal HH6.out.c2 ?_
    refine mix_done (by kernel_rfl) ?_
    go_wp2_with fail
    go_end0
    refine ⟨rfl, _, l', ⟨HH6.out, HR6.out⟩, HH5.out, HP5.out, HO4.out.next HO5.out ?_, ?_⟩
    · intro x hx
      simp at hx
      subst hx
      rcases HAT.out with h | h
      · exact .inl (List.mem_cons_of_mem _ h)
      · exact .inr h
    · intro x hx
      have := mem_ownL.1 hx
      simp [Value.ownBlock] at this
      subst this
      exact HAT.out
  · simp only [segOf, pickOps, pickOp]
    go_wp2_with fail
    rw [← hW2]
    refine MixPost.normal HE2.out ?_
    refine mix_run 3 (by kernel_rfl) ?_
    simp only [segOf, pickOps, pickOp]
    have hc2 := HW2.out.head.c2
    clear hW2
    go_wp2_with fail
    clear hc2
    refine MixPost.normal HE2.out ?_
    refine mix_run 6 (by kernel_rfl) ?_
    simp only [segOf, pickOps, pickOp]
    refine wpList_append_lies W2 rfl (.tmp 7) (.tmp 9) 58 rfl (gw + 1) 66 i0 (.agg #[.int .u64 0, .int .i64 0, .int .i64 0]) 3 24 Try.underlying58 hi hz0 hz1 hz2 rfl (by decide) v _ _ rfl HW2.out.row ⟨W1.heap.size, 0, none⟩ 1 1 [.int .u64 a1, .int .i64 a2, .int .i64 a3] rfl rfl HNC.out ?_ (by decide) (by unfold maxLen; omega) (by omega) ?_ W2.heap.size rfl ?_
    · intro u hu; simp at hu; rcases hu with rfl | rfl | rfl <;> rfl
    · have := HW2.out.head.lt; omega
    intro g cap w3 hown hgrow hat hlt
    have HO3 : Hid (Only (ownL v) W2 w3) := Only.of_grown_own hgrow (fun g hg => mem_ownL.2 hg)
    have HR3 := Lib.hid (ARow.pushed rfl hown)
    have HH3 := Lib.hid (HW2.out.head.only HO3.out (fun hm => by have := (HW2.out.own hm).1; omega))
    have HAT : Hid (g ∈ ownL v ∨ w.heap.size ≤ g) := by
      show _ ∨ _
      rcases hat with h | h
      · exact .inl (mem_ownL.2 h)
      · have := HS2.out; exact .inr (by omega)
    have HGW : Hid (gw < g) := by
      show _ < _
      have := (World.ownsRow.lt hown g rfl).1
      omega
    have HE3 : Hid (ElAt w3 w.heap.size 0 (a1, a2, a3)) := HE2.out.only HO3.out HS2.out (fun hm => by have := (HW.out.own hm).2; omega)
    have HO3' : Hid (Only (gw :: ownL v) w w3) := (((HO1.out.mono (by simp)).next (s := gw :: ownL v) HO2.out (by simp)).next HO3.out (fun x hx => .inl (List.mem_cons_of_mem _ hx)))
    clear hown hgrow hat hlt
    obtain ⟨W4, hW4⟩ : ∃ W4, W4 = w3.setCell ⟨gw, 2, none⟩ (.slice (some ⟨g, 0, none⟩) (l.length + 1) cap) := ⟨_, rfl⟩
    have HH4 : Hid (WHead W4 gw most next (.slice (some ⟨g, 0, none⟩) (l.length + 1) cap)) := by show WHead _ _ _ _ _; rw [hW4]; exact HH3.out.set2 _
    have HR4 : Hid (ARow W4 (gw + 1) (.slice (some ⟨g, 0, none⟩) (l.length + 1) cap) (l ++ [(a1, a2, a3)])) := by show ARow _ _ _ _; rw [hW4]; exact HR3.out.setBelow _ _
    have HO4 : Hid (Only (gw :: ownL v) w W4) := by show Only _ _ _; rw [hW4]; exact HO3'.out.setCell (p := ⟨gw, 2, none⟩) (by simp) _
    have HE4 : Hid (ElAt W4 w.heap.size 0 (a1, a2, a3)) := by
      have h1 : Only [gw] w3 W4 := by rw [hW4]; exact (Only.refl _ _).setCell (p := ⟨gw, 2, none⟩) (by simp) _
      exact HE3.out.only h1 (by have := HS2.out; have := HO3.out.size; omega) (by have := HW.out.head.lt; simp; omega)
    have hc2 := HH3.out.c2
    have hz2' := HH3.out.z2
    go_wp2_with fail
    refine MixPost.normal HE3.out ?_
    refine mix_seg [7] (by kernel_rfl) HE3.out ?_
    simp only [segOf, pickOps, pickOp]
    repeat (go_big_quiet_step (fail))
    refine wpQuiet_nil ?_
    refine mix_run 8 (by kernel_rfl) ?_
    simp only [segOf, pickOps, pickOp]
    go_wp2_with fail
    rw [← hW4]
    clear hW4 hc2 hz2'
    refine MixPost.normal HE4.out ?_
    refine mix_done (by kernel_rfl) ?_
    clear hne
    have HR5 : Hid (RiseAt (l ++ [(a1, a2, a3)]) l.length) := HH.out.push _
    go_wp2_with fail
    refine mix_start (fun W => W.cell? ⟨gw, 2, none⟩ = some (.slice (some ⟨g, 0, none⟩) (l.length + 1) cap)) (by kernel_rfl) ?_
    have hne : Nonempty (Held (fun W => W.cell? ⟨gw, 2, none⟩ = some (.slice (some ⟨g, 0, none⟩) (l.length + 1) cap))) := ⟨⟨W4, HH4.out.c2⟩⟩
    have hx0 : ∀ p : Held (fun W => W.cell? ⟨gw, 2, none⟩ = some (.slice (some ⟨g, 0, none⟩) (l.length + 1) cap)), p.w.cell? ⟨gw, 2, none⟩ = some (.slice (some ⟨g, 0, none⟩) (l.length + 1) cap) := fun p => p.h
    refine mix_seg [0, 1, 2, 3, 4, 5, 6, 7] (by kernel_rfl) HH4.out.c2 ?_
    simp only [segOf, pickOps, pickOp]
    repeat (go_big_quiet_step (fail))
    refine wpQuiet_nil ?_
    clear hx0
    refine mix_run 8 (by kernel_rfl) ?_
    simp only [segOf, pickOps, pickOp]
    go_wp2_with fail
    refine (rise_any (gw + 1) g cap (l.length + 1) (l ++ [(a1, a2, a3)]) l.length W4.drew (by simp) (World.ownsRow.drew HR4.out) ?_ (by omega) (by omega) HR5.out).mono ?_
    · exact (World.ownsRow.lt HR4.out g rfl).2
    rintro e w5 ⟨rfl, l', hp5, hh5, hr5, ho5⟩
    have HP5 := Lib.hid hp5
    have HH5 := Lib.hid hh5
    have HR6 := Lib.hid hr5
    have HO5 : Hid (Only [g] W4 w5) := (Only.refl _ _).drew.trans ho5
    clear hp5 hh5 hr5 ho5
    have HH6 := Lib.hid (HH4.out.only HO5.out (by have := HGW.out; simp; omega))
    go_wp2_with fail
    refine MixPost.normal HH6.out.c2 ?_
    refine mix_done (by kernel_rfl) ?_
    go_wp2_with fail
    go_end0
    refine ⟨rfl, _, l', ⟨HH6.out, HR6.out⟩, HH5.out, HP5.out, HO4.out.next HO5.out ?_, ?_⟩
    · intro x hx
      simp at hx
      subst hx
      rcases HAT.out with h | h
      · exact .inl (List.mem_cons_of_mem _ h)
      · exact .inr h
    · intro x hx
      have := mem_ownL.1 hx
      simp [Value.ownBlock] at this
      subst this
      exact HAT.out
end Go.Proofs.Ytbpdemgbljbhcaa
