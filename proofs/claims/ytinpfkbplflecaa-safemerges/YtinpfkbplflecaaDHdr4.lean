/-
  The contract of header's Names over this seat's program: it returns what the plain mathematics says, and nothing that was there has turned. Conditions: at most a thousand headers, each text of at most 100,000 bytes.
-/
import Derived.Test.YtinpfkbplflecaaDHdr3
import Derived.Sort.Grow
namespace Go.Proofs.Ytinpfkbplflecaa
open Go.RowKit

abbrev sown (w : World) (base : Nat) (v : Value) (l : List (List UInt8)) : Prop := w.ownsRow base 9 1 v l.length (l.map sv)
theorem sown_holds {w : World} {base g cap : Nat} {l : List (List UInt8)} (h : sown w base (.slice (some ⟨g, 0, none⟩) l.length cap) l) : Sort.Holds encStr w g 0 l.toArray := by
  intro j hj
  have hjl : j < l.length := by simpa using hj
  refine ⟨?_, by rw [Nat.zero_add]; exact h.frozenAt j⟩
  rw [Nat.zero_add, h.cellAt j (by omega), List.getElem?_map, List.getElem?_eq_getElem hjl, Option.map_some]
  simp [hjl, sv]
theorem sown_put {w : World} {base g cap : Nat} {l : List (List UInt8)} (h : sown w base (.slice (some ⟨g, 0, none⟩) l.length cap) l) (d : List (List UInt8)) (hd : d.length = l.length) :
    sown (Sort.putRow encStr w g 0 d.toArray) base (.slice (some ⟨g, 0, none⟩) d.length cap) d := by
  rcases h.2 with ⟨h', _⟩ | ⟨g', cap', cur, h', hb, hg, hnc, hcm, hcs, htake⟩
  · simp at h'
  · simp only [Value.slice.injEq, Option.some.injEq, Addr.mk.injEq, and_true, true_and] at h'
    obtain ⟨rfl, rfl⟩ := h'
    refine ⟨by simp, .inr ⟨g, cap, Sort.putCells encStr 0 d.toArray cur, rfl, hb, ?_, by omega, hcm, by simpa [Sort.putCells] using hcs, ?_⟩⟩
    · show (w.heap.modify g _)[g]? = _
      rw [Array.getElem?_modify, if_pos rfl, hg]; rfl
    · apply List.ext_getElem
      · simp [Sort.putCells]; omega
      · intro j h1 h2
        have hj : j < d.length := by simpa using h2
        simp [Sort.putCells, hj, sv]
theorem sown_take {w : World} {base g cap : Nat} {l : List (List UInt8)} (h : sown w base (.slice (some ⟨g, 0, none⟩) l.length cap) l) (m : Nat) (hm : m ≤ l.length) :
    sown w base (.slice (some ⟨g, 0, none⟩) m cap) (l.take m) := by
  rcases h.2 with ⟨h', _⟩ | ⟨g', cap', cur, h', hb, hg, hnc, hcm, hcs, htake⟩
  · simp at h'
  · simp only [Value.slice.injEq, Option.some.injEq, Addr.mk.injEq, and_true, true_and] at h'
    obtain ⟨rfl, rfl⟩ := h'
    have hl : (l.take m).length = m := by simp; omega
    refine ⟨by simp, .inr ⟨g, cap, cur, by rw [hl], hb, hg, by omega, hcm, hcs, ?_⟩⟩
    simp only [Nat.mul_one] at htake ⊢
    rw [hl, List.map_take, ← htake, List.take_take, Nat.min_eq_left hm]
theorem below_put {B : Nat} {w W : World} (h : Below B w W) {g : Nat} (hg : B ≤ g) (d : Array (List UInt8)) : Below B w (Sort.putRow encStr W g 0 d) := by
  refine ⟨h.os, h.tape, h.output, by simpa using h.size, fun k hk => ?_⟩
  show (W.heap.modify g _)[k]? = _
  rw [Array.getElem?_modify, if_neg (by omega)]
  exact h.block k hk
theorem below_grow {B : Nat} {w W : World} (h : Below B w W) (hB : B ≤ W.heap.size) (os : Array Obj) : Below B w (Sort.grow W os) := by
  refine ⟨h.os, h.tape, h.output, by have := h.size; simp; omega, fun k hk => ?_⟩
  show (W.heap ++ os)[k]? = _
  rw [Array.getElem?_append_left (by omega)]
  exact h.block k hk
theorem below_ahead {B : Nat} {w W : World} (h : Below B w W) (n : Nat) : Below B w (Sort.ahead W n) := ⟨h.os, h.tape, h.output, h.size, h.block⟩
theorem sown_grow {w : World} {base : Nat} {v : Value} {l : List (List UInt8)} (h : sown w base v l) (os : Array Obj) : sown (Sort.grow w os) base v l :=
  ownsRow_below h (below_grow (Below.refl _ _) (Nat.le_refl _) os)
theorem made_one (n : Nat) : (madeCells #[Value.string ⟨#[]⟩] n).toList = (List.replicate n []).map sv := by
  rw [toList_madeCells_one, List.map_replicate]; rfl
theorem sown_slot {w : World} {base g n cap : Nat} {l : List (List UInt8)} (h : sown w base (.slice (some ⟨g, 0, none⟩) n cap) l) (hn : n = l.length) (k : Nat) (hk : k < l.length) : w.cell? ⟨g, k, none⟩ = some (.string (mk l[k])) ∧ w.frozen? ⟨g, k, none⟩ = false := by
  subst hn
  refine ⟨?_, h.frozenAt k⟩
  rw [h.cellAt k (by omega), List.getElem?_map, List.getElem?_eq_getElem hk]; rfl
theorem sown_set {w : World} {base g n cap : Nat} {l : List (List UInt8)} (h : sown w base (.slice (some ⟨g, 0, none⟩) n cap) l) (hn : n = l.length) (k : Nat) (a : ByteArray) : sown (w.setCell ⟨g, k, none⟩ (.string a)) base (.slice (some ⟨g, 0, none⟩) n cap) (l.set k a.data.toList) := by
  subst hn
  have h1 := (h.stored k (.string a)).1
  unfold sown
  rw [List.length_set, List.map_set, show sv a.data.toList = .string a by rw [sv_mk, mk_eq]]
  exact h1

set_option maxHeartbeats 2000000 in
theorem Names_any (A : Option Addr) (len c B : Nat) (xs : List (ByteArray × ByteArray)) (w : World) (hlen : len = xs.length) (hB : B ≤ w.heap.size) (hx : PRow w B A xs) (hsm : Sm (xs.map hd)) :
    Calls Try.prog 25 #[.slice A len c] w fun e w' => ∃ v, e = .returned v ∧ sown w' w.heap.size v (namesH (xs.map hd)) ∧ Below w.heap.size w w' := by
  subst hlen
  obtain ⟨hl, hs⟩ := hsm.sizes
  have HX := Lib.hid hx
  have HS := Lib.hid hs
  clear hx hs hsm
  obtain ⟨i0, hi, hz0, hz1, hz2⟩ := info_parts infoS
  go_enter Try.func25, Try.ntmps25
  go_wp2_with (at_make; refine wpList_make_full _ rfl _ _ 36 rfl w.heap.size 9 i0 (.string ⟨#[]⟩) 1 Try.underlying36 hi hz0 hz1 .i64 .i64 _ _ xs.length rfl rfl rfl rfl ?c1 ?c2 ?c3 ?_)
  case c1 => rw [hz2]; omega
  case c2 => unfold maxLen; omega
  case c3 => exact Nat.le_refl _
  intro w1 hown hg
  have hr0 : sown w1 w.heap.size (.slice (some ⟨w.heap.size, 0, none⟩) xs.length xs.length) (List.replicate xs.length []) := by
    have h := hown
    rw [made_one] at h
    unfold sown
    rw [List.length_replicate]
    exact h
  have hbe : Below w.heap.size w w1 := (Below.refl _ _).grown hg (Nat.le_refl _) (by intro k hk; cases hk)
  have HR := Lib.hid hr0
  have BE := Lib.hid hbe
  clear hown hg hr0 hbe
  go_wp2_with fail
  go_loopw [11] (fun i wr => ∃ (k : Nat) (dl : List (List UInt8)), k ≤ xs.length ∧ i = .int .i64 k ∧ dl = ((xs.take k).map hd).map (fun h => Lk.lower h.1) ++ List.replicate (xs.length - k) [] ∧ sown wr w.heap.size (.slice (some ⟨w.heap.size, 0, none⟩) xs.length xs.length) dl ∧ Below w.heap.size w wr) (fun i _ => xs.length - (intOf i).toNat)
  case atStart => exact ⟨0, List.replicate xs.length [], Nat.zero_le _, rfl, rfl, HR.out, BE.out⟩
  case round =>
    obtain ⟨k, dl, hk, rfl, hdl, hr, hb⟩ := hrel
    have hdk : xs.length = dl.length := by rw [hdl]; simp; omega
    have HDK := Lib.hid hdk
    have HDL := Lib.hid hdl
    have HRR := Lib.hid hr
    have HBB := Lib.hid hb
    clear hr hb hdl hdk
    by_cases hlt : k < xs.length
    · obtain ⟨ad, hA, _, hc1, hc2⟩ := ((HX.out.mono hB).below HBB.out) k xs[k] (List.getElem?_eq_getElem hlt)
      have hz := HS.out xs[k] (List.getElem_mem hlt)
      have HD := Lib.hid (take_hd (List.take_succ_eq_append_getElem hlt))
      generalize xs[k] = x at *
      obtain ⟨x1, x2⟩ := x
      subst hA
      obtain ⟨a, ha⟩ : ∃ a : ByteArray, a = ⟨(Lk.lower x1.data.toList).toArray⟩ := ⟨_, rfl⟩
      have HLA := Lib.hid ha
      clear ha
      go_wp2_with fail
      refine (Lower_any x1 _ (by unfold maxLen; omega)).mono ?_
      rintro e w3 ⟨rfl, hb3⟩
      rw [← HLA.out]
      have hb4 : Below wr.heap.size wr w3 := ((Below.refl _ _).alloc (Nat.le_refl _) _).trans (hb3.mono (by simp))
      have HR3 : Hid (sown w3 w.heap.size (.slice (some ⟨w.heap.size, 0, none⟩) xs.length xs.length) dl) := ownsRow_below HRR.out hb4
      have HB3 : Hid (Below w.heap.size w w3) := HBB.out.trans (hb4.mono HBB.out.size)
      clear hb3 hb4 hc1 hc2
      obtain ⟨s1, s2⟩ := sown_slot HR3.out HDK.out k (by rw [← HDK.out]; exact hlt)
      generalize mk (dl[k]'(by rw [← HDK.out]; exact hlt)) = o1 at *
      have HN := Lib.hid (sown_set HR3.out HDK.out k a)
      have HNB : Hid (Below w.heap.size w (w3.setCell ⟨w.heap.size, k, none⟩ (.string a))) := HB3.out.setCell (p := ⟨w.heap.size, k, none⟩) (Nat.le_refl _) _
      have HE : Hid (dl.set k a.data.toList = ((xs.take (k + 1)).map hd).map (fun h => Lk.lower h.1) ++ List.replicate (xs.length - (k + 1)) []) := by
        show _ = _
        have hl1 : (((xs.take k).map hd).map (fun h => Lk.lower h.1)).length = k := by simp; omega
        rw [HDL.out, HD.out, List.set_append_right _ _ (by omega), hl1, Nat.sub_self, show xs.length - k = (xs.length - (k + 1)) + 1 by omega, List.replicate_succ, List.set_cons_zero, List.map_append]
        simp [hd, HLA.out]
      go_wp2
      go_roundw
      case rel => exact ⟨k + 1, _, by omega, by go_num, HE.out, HN.out, HNB.out⟩
      case measure => simp [intOf]; omega
    · obtain rfl : k = xs.length := by omega
      obtain ⟨nl, hnl⟩ : ∃ nl, nl = (xs.map hd).map (fun h => Lk.lower h.1) := ⟨_, rfl⟩
      have HNL : Hid (dl = nl) := by show _ = _; rw [HDL.out, List.take_length, Nat.sub_self, hnl]; simp
      have HNM : Hid (Lib.compact (sortT nl) = namesH (xs.map hd)) := by show _ = _; rw [compact_sort, hnl]; rfl
      clear hnl
      have hnd := HNL.out
      subst hnd
      have hdk := HDK.out
      have hsl : (sortT dl).length = dl.length := List.length_mergeSort _
      have HCL : Hid ((Lib.compact (sortT dl)).length ≤ (sortT dl).length) := by
        show _ ≤ _
        rw [hsl, HNM.out]
        have := names_len (xs.map hd)
        simp at this; omega
      have HR2 : Hid (sown wr w.heap.size (.slice (some ⟨w.heap.size, 0, none⟩) dl.length dl.length) dl) := by rw [← hdk]; exact HRR.out
      have hgl : w.heap.size < wr.heap.size := (HR2.out.lt w.heap.size rfl).2
      have HP1 := Lib.hid (sown_put HR2.out (sortT dl) hsl)
      have HSL := Lib.hid hsl
      clear hsl
      rw [hdk]
      go_wp2_with fail
      refine (Try.slices_Sort_string w.heap.size 0 dl.length dl _ (sown_holds HR2.out) hgl (by omega)).mono ?_
      rintro e w3 ⟨rfl, n, os, hw3⟩
      have HR3 : Hid (sown w3 w.heap.size (.slice (some ⟨w.heap.size, 0, none⟩) (sortT dl).length dl.length) (sortT dl)) := by
        show sown _ _ _ _
        rw [hw3]
        exact sown_grow (w := Sort.putRow encStr (Sort.ahead wr n) w.heap.size 0 (sortT dl).toArray) HP1.out os
      have HB3 : Hid (Below w.heap.size w w3) := by
        show Below _ _ _
        rw [hw3]
        exact below_grow (below_put (below_ahead HBB.out n) (Nat.le_refl _) _) (by simp; omega) os
      clear hw3
      go_wp2_with fail
      have hc := Try.slices_Compact_string w.heap.size 0 dl.length (sortT dl) w3 (sown_holds HR3.out) (by rw [HSL.out]; omega) (by rw [HSL.out]; exact Nat.le_refl _)
      rw [HSL.out] at hc
      refine hc.mono ?_
      clear hc
      rintro e w4 ⟨rfl, q, rfl⟩
      go_wp2
      go_ret
      refine ⟨_, rfl, ?_, ?_⟩
      · have h1 : (Lib.compact (sortT dl) ++ List.replicate ((sortT dl).length - (Lib.compact (sortT dl)).length) []).length = (sortT dl).length := by
          rw [List.length_append, List.length_replicate]; have := HCL.out; omega
        have h2 := sown_put (w := Sort.ahead w3 q) HR3.out _ h1
        rw [HSL.out] at h2
        have h3 := sown_take h2 (Lib.compact (sortT dl)).length (by rw [List.length_append]; omega)
        rw [List.take_left] at h3
        rw [← HNM.out]
        exact h3
      · exact below_put (below_ahead HB3.out q) (Nat.le_refl _) _
end Go.Proofs.Ytinpfkbplflecaa
