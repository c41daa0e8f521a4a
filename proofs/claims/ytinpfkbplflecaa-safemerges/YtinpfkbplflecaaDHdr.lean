/-
  Contracts of header over this seat's program: each returns what the plain mathematics says, and nothing that was there has turned. Conditions: the texts' sizes are such as any text's; rows are not too long.
-/
import Derived.Test.YtinpfkbplflecaaDRow
import Derived.Test.YtinpfkbplflecaaKAny
namespace Go.Proofs.Ytinpfkbplflecaa
open Go.RowKit

/-- block g holds a header -/
structure HdAt (W : World) (g : Nat) (a b : ByteArray) : Prop where
  c0 : W.cell? ⟨g, 0, none⟩ = some (.string a)
  c1 : W.cell? ⟨g, 1, none⟩ = some (.string b)
theorem HdAt.below {W W' : World} {g B : Nat} {a b : ByteArray} (o : HdAt W g a b) (hb : Below B W W') (hg : g < B) : HdAt W' g a b :=
  ⟨(hb.cell hg).trans o.c0, (hb.cell hg).trans o.c1⟩
theorem HdAt.new (w : World) (a b : ByteArray) (t : TypeId) : HdAt (w.alloc (.cells #[.string a, .string b] t)) w.heap.size a b := ⟨by simp, by simp⟩
theorem HdAt.drew {W : World} {g : Nat} {a b : ByteArray} (o : HdAt W g a b) : HdAt W.drew g a b := ⟨o.c0, o.c1⟩
theorem HdAt.lt {W : World} {g : Nat} {a b : ByteArray} (o : HdAt W g a b) : g < W.heap.size := block_of_cell o.c0
structure Own2 (W : World) (g : Nat) : Prop where
  f0 : W.frozen? ⟨g, 0, none⟩ = false
  f1 : W.frozen? ⟨g, 1, none⟩ = false
theorem Own2.below {W W' : World} {g B : Nat} (o : Own2 W g) (hb : Below B W W') (hg : g < B) : Own2 W' g := ⟨(hb.frozen hg).trans o.f0, (hb.frozen hg).trans o.f1⟩
theorem Own2.new (w : World) (cs : Array Value) (t : TypeId) : Own2 (w.alloc (.cells cs t)) w.heap.size := ⟨by simp, by simp⟩
theorem set2_hd {W : World} {g : Nat} {a b : ByteArray} (h : HdAt W g a b) (c d : ByteArray) : HdAt ((W.setCell ⟨g, 0, none⟩ (.string c)).setCell ⟨g, 1, none⟩ (.string d)) g c d := by
  have d1 : (W.setCell ⟨g, 0, none⟩ (.string c)).cell? ⟨g, 1, none⟩ = some (.string b) := by rw [World.cell?_setCell_other _ _ _ _ (by simp)]; exact h.c1
  refine ⟨?_, ?_⟩
  · rw [World.cell?_setCell_other _ _ _ _ (by simp), World.cell?_setCell_same _ _ _ h.c0]
  · rw [World.cell?_setCell_same _ _ _ d1]
theorem set2_below {B : Nat} {w W : World} {g : Nat} (h : Below B w W) (hg : B ≤ g) (a b : Value) : Below B w ((W.setCell ⟨g, 0, none⟩ a).setCell ⟨g, 1, none⟩ b) :=
  (h.setCell (p := ⟨g, 0, none⟩) hg _).setCell (p := ⟨g, 1, none⟩) hg _

set_option maxHeartbeats 1000000 in
theorem hnorm_any (x1 x2 : ByteArray) (w : World) (h1 : x1.size ≤ maxLen) (h2 : x2.size ≤ maxLen) :
    Calls Try.prog 52 #[.agg #[.string x1, .string x2]] w fun e w' => e = .returned (.agg #[.string (mk (Lk.lower x1.data.toList)), .string (mk (Lk.trimL x2.data.toList))]) ∧ Below w.heap.size w w' := by
  obtain ⟨a, ha⟩ : ∃ a : ByteArray, a = ⟨(Lk.lower x1.data.toList).toArray⟩ := ⟨_, rfl⟩
  obtain ⟨b, hb⟩ : ∃ b : ByteArray, b = ⟨(Lk.trimL x2.data.toList).toArray⟩ := ⟨_, rfl⟩
  rw [show mk (Lk.lower x1.data.toList) = a from ha.symm, show mk (Lk.trimL x2.data.toList) = b from hb.symm]
  have HLA := Lib.hid ha
  have HLB := Lib.hid hb
  clear ha hb
  obtain ⟨W, hW⟩ : ∃ W, W = ((w.alloc (Obj.cells #[.string x1, .string x2] 41)).alloc (Obj.cells #[.string { data := #[] }, .string { data := #[] }] 41)) := ⟨_, rfl⟩
  have HA : Hid (HdAt W w.heap.size x1 x2) := by
    rw [hW]; exact HdAt.below (HdAt.new w x1 x2 _) ((Below.refl _ _).alloc (Nat.le_refl _) _) (by simp)
  have HR : Hid (HdAt W (w.heap.size + 1) ⟨#[]⟩ ⟨#[]⟩) := by
    show HdAt W _ _ _; rw [hW]; have := HdAt.new (w.alloc (Obj.cells #[.string x1, .string x2] 41)) ⟨#[]⟩ ⟨#[]⟩ 41; simpa using this
  have HO : Hid (Own2 W (w.heap.size + 1)) := by
    show Own2 W _; rw [hW]; have := Own2.new (w.alloc (Obj.cells #[.string x1, .string x2] 41)) #[.string { data := #[] }, .string { data := #[] }] 41; simpa using this
  have HB : Hid (Below w.heap.size w W) := by
    rw [hW]; exact ((Below.refl _ _).alloc (Nat.le_refl _) _).alloc (by simp) _
  go_enter Try.func52, Try.ntmps52
  go_wp2_with fail
  rw [← hW]
  clear hW
  refine mix_start (fun W => HdAt W w.heap.size x1 x2) (by kernel_rfl) ?_
  have hne : Nonempty (Held (fun W => HdAt W w.heap.size x1 x2)) := ⟨⟨_, HA.out⟩⟩
  have hx0 : ∀ q : Held (fun W => HdAt W w.heap.size x1 x2), q.w.cell? ⟨w.heap.size, 0, none⟩ = some (.string x1) := fun q => q.h.c0
  have hx1 : ∀ q : Held (fun W => HdAt W w.heap.size x1 x2), q.w.cell? ⟨w.heap.size, 1, none⟩ = some (.string x2) := fun q => q.h.c1
  refine mix_seg [0, 1, 3, 4] (by kernel_rfl) HA.out.drew ?_
  simp only [segOf, pickOps, pickOp]
  repeat (go_big_quiet_step (fail))
  refine wpQuiet_nil ?_
  refine mix_run 2 (by kernel_rfl) ?_
  simp only [segOf, pickOps, pickOp]
  go_wp2_with fail
  refine (Lower_any _ _ h1).mono ?_
  rintro e w1 ⟨rfl, hb1⟩
  rw [← HLA.out]
  have ha1 : HdAt w1 w.heap.size x1 x2 := HA.out.drew.below hb1 HA.out.lt
  have HR1 : Hid (HdAt w1 (w.heap.size + 1) ⟨#[]⟩ ⟨#[]⟩) := HR.out.drew.below hb1 HR.out.lt
  have HO1 : Hid (Own2 w1 (w.heap.size + 1)) := Own2.below (W := W.drew) ⟨HO.out.f0, HO.out.f1⟩ hb1 HR.out.lt
  have HB1 : Hid (Below w.heap.size w w1) := HB.out.drew.trans (hb1.mono HB.out.size)
  clear hb1
  go_wp2_with fail
  refine MixPost.normal ha1 ?_
  refine mix_run 5 (by kernel_rfl) ?_
  simp only [segOf, pickOps, pickOp]
  go_wp2_with fail
  refine (Trim_any _ _ h2).mono ?_
  rintro e w' ⟨rfl, rfl⟩
  rw [← HLB.out]
  go_wp2_with fail
  refine MixPost.normal ha1 ?_
  refine mix_run 6 (by kernel_rfl) ?_
  simp only [segOf, pickOps, pickOp]
  go_wp2_with fail
  refine MixPost.normal ha1 ?_
  refine mix_run 7 (by kernel_rfl) ?_
  simp only [segOf, pickOps, pickOp]
  obtain ⟨r0, r1⟩ := HR1.out
  obtain ⟨f0, f1⟩ := HO1.out
  go_wp2_with fail
  obtain ⟨q0, q1⟩ := set2_hd HR1.out a b
  have HB2 := Lib.hid (set2_below HB1.out (g := w.heap.size + 1) (by omega) (.string a) (.string b))
  refine MixPost.normal (HdAt.below ha1 (set2_below (Below.refl (w.heap.size + 1) _) (Nat.le_refl _) _ _) (by omega)) ?_
  refine mix_done (by kernel_rfl) ?_
  go_wp2_with fail
  refine bodyPost_ret (v := .agg #[.string (a), .string (b)]) ?_ rfl ?_
  · simp [results, Try.results52, go_sem, q0, q1]
  · exact ⟨rfl, HB2.out⟩

set_option maxHeartbeats 1000000 in
theorem Norm_any (A : Option Addr) (len c B : Nat) (xs : List (ByteArray × ByteArray)) (w : World) (hlen : len = xs.length) (hB : B ≤ w.heap.size) (hx : PRow w B A xs) (hl : xs.length ≤ 1000000000) (hs : ∀ x ∈ xs, x.1.size ≤ maxLen ∧ x.2.size ≤ maxLen) :
    Calls Try.prog 18 #[.slice A len c] w fun e w' => ∃ v, e = .returned v ∧ HdRow w' w.heap.size v (normL (xs.map hd)) ∧ Below w.heap.size w w' := by
  subst hlen
  have HX := Lib.hid hx
  have HS := Lib.hid hs
  clear hx hs
  obtain ⟨i0, hi, hz0, hz1, hz2⟩ := info_parts infoH
  go_enter Try.func18, Try.ntmps18
  go_wp2_with (at_make; refine wpList_make_full _ rfl _ _ 22 rfl w.heap.size 41 i0 (.agg #[.string ⟨#[]⟩, .string ⟨#[]⟩]) 2 Try.underlying22 hi hz0 hz1 .i64 .i64 _ _ xs.length rfl rfl rfl rfl ?c1 ?c2 ?c3 ?_)
  case c1 => rw [hz2]; omega
  case c2 => unfold maxLen; omega
  case c3 => exact Nat.le_refl _
  intro w1 hown hg
  have hr0 : HdRow w1 w.heap.size (.slice (some ⟨w.heap.size, 0, none⟩) xs.length xs.length) (List.replicate xs.length ([], [])) := by
    have h := hown
    rw [made_two] at h
    unfold HdRow
    rw [List.length_replicate]
    exact h
  have hbe : Below w.heap.size w w1 := (Below.refl _ _).grown hg (Nat.le_refl _) (by intro k hk; cases hk)
  have HR := Lib.hid hr0
  have BE := Lib.hid hbe
  clear hown hg hr0 hbe
  go_wp2_with fail
  go_loopw [11] (fun i wr => ∃ k : Nat, k ≤ xs.length ∧ i = .int .i64 k ∧ HdRow wr w.heap.size (.slice (some ⟨w.heap.size, 0, none⟩) xs.length xs.length) (normL ((xs.take k).map hd) ++ List.replicate (xs.length - k) ([], [])) ∧ Below w.heap.size w wr) (fun i _ => xs.length - (intOf i).toNat)
  case atStart => exact ⟨0, Nat.zero_le _, rfl, HR.out, BE.out⟩
  case round =>
    obtain ⟨k, hk, rfl, hr, hb⟩ := hrel
    have HRR := Lib.hid hr
    have HBB := Lib.hid hb
    clear hr hb
    by_cases hlt : k < xs.length
    · obtain ⟨ad, hA, _, hc1, hc2⟩ := ((HX.out.mono hB).below HBB.out) k xs[k] (List.getElem?_eq_getElem hlt)
      have hz := HS.out xs[k] (List.getElem_mem hlt)
      have HD : Hid (xs.take (k + 1) = xs.take k ++ [xs[k]]) := List.take_succ_eq_append_getElem hlt
      generalize xs[k] = x at *
      obtain ⟨x1, x2⟩ := x
      subst hA
      go_wp2_with fail
      refine (hnorm_any x1 x2 _ hz.1 hz.2).mono ?_
      rintro e w3 ⟨rfl, hb3⟩
      have hb4 : Below wr.heap.size wr w3 := ((Below.refl _ _).alloc (Nat.le_refl _) _).trans (hb3.mono (by simp))
      have HR3 := Lib.hid (HRR.out.below hb4)
      have HB3 : Hid (Below w.heap.size w w3) := HBB.out.trans (hb4.mono HBB.out.size)
      clear hb3 hb4 hc1 hc2
      obtain ⟨a, ha⟩ : ∃ a : ByteArray, a = mk (Lk.lower x1.data.toList) := ⟨_, rfl⟩
      obtain ⟨b, hb⟩ : ∃ b : ByteArray, b = mk (Lk.trimL x2.data.toList) := ⟨_, rfl⟩
      rw [← ha, ← hb]
      have HLen : Hid ((normL ((xs.take k).map hd) ++ List.replicate (xs.length - k) ([], [])).length = xs.length) := by
        show _ = _; simp [normL]; omega
      obtain ⟨s1, s2, s3, s4⟩ := HR3.out.slot HLen.out.symm k (by rw [HLen.out]; exact hlt)
      generalize mk ((normL ((xs.take k).map hd) ++ List.replicate (xs.length - k) ([], []))[k]'(by rw [HLen.out]; exact hlt)).1 = o1 at *
      generalize mk ((normL ((xs.take k).map hd) ++ List.replicate (xs.length - k) ([], []))[k]'(by rw [HLen.out]; exact hlt)).2 = o2 at *
      have HN := Lib.hid (HR3.out.set HLen.out.symm k a b)
      have HNB : Hid (Below w.heap.size w ((w3.setCell ⟨w.heap.size, k * 2, none⟩ (.string a)).setCell ⟨w.heap.size, k * 2 + 1, none⟩ (.string b))) :=
        (HB3.out.setCell (p := ⟨w.heap.size, k * 2, none⟩) (Nat.le_refl _) _).setCell (p := ⟨w.heap.size, k * 2 + 1, none⟩) (Nat.le_refl _) _
      have HE : Hid ((normL ((xs.take k).map hd) ++ List.replicate (xs.length - k) ([], [])).set k (a.data.toList, b.data.toList) = normL ((xs.take (k + 1)).map hd) ++ List.replicate (xs.length - (k + 1)) ([], [])) := by
        show _ = _
        have hl1 : (normL ((xs.take k).map hd)).length = k := by simp [normL]; omega
        rw [HD.out, List.set_append_right _ _ (by omega), hl1, Nat.sub_self, show xs.length - k = (xs.length - (k + 1)) + 1 by omega, List.replicate_succ, List.set_cons_zero]
        simp [normL, normH, hd, ha, hb, mk_data]
      clear ha hb
      go_wp2
      go_roundw
      case rel => exact ⟨k + 1, by omega, by go_num, by rw [← HE.out]; exact HN.out, HNB.out⟩
      case measure => simp [intOf]; omega
    · obtain rfl : k = xs.length := by omega
      go_wp2
      go_ret
      refine ⟨_, rfl, ?_, HBB.out⟩
      have := HRR.out
      rw [Nat.sub_self, List.take_length] at this
      simpa using this
end Go.Proofs.Ytinpfkbplflecaa
