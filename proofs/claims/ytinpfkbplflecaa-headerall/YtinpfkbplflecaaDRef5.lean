/-
  The contract of the document's own Names of layer 6, over this seat's program, by the same plain mathematics as header's. Conditions: at most a thousand headers, each text of at most 100,000 bytes.
-/
import Derived.Test.YtinpfkbplflecaaDRef4
namespace Go.Proofs.Ytinpfkbplflecaa
open Go.RowKit

set_option maxHeartbeats 2000000 in
theorem refNames_any (A : Option Addr) (len c B : Nat) (xs : List (ByteArray × ByteArray)) (w : World) (hlen : len = xs.length) (hB : B ≤ w.heap.size) (hx : PRow w B A xs) (hsm : Sm (xs.map hd)) :
    Calls Try.prog 26 #[.slice A len c] w fun e w' => ∃ v, e = .returned v ∧ sown w' w.heap.size v (namesH (xs.map hd)) ∧ Below w.heap.size w w' := by
  subst hlen
  obtain ⟨hl, hs⟩ := hsm.sizes
  have HX := Lib.hid hx
  have HS := Lib.hid hs
  clear hx hs hsm
  obtain ⟨i0, hi, hz0, hz1, hz2⟩ := info_parts infoS
  go_enter Try.func26, Try.ntmps26
  go_wp2_with fail
  go_loopw [3, 4] (fun v i wr => ∃ (k : Nat) (dl : List Tx), k ≤ xs.length ∧ i = .int .i64 k ∧ dl = ((xs.take k).map hd).map (fun h => Lk.lower h.1) ∧ sown wr w.heap.size v dl ∧ Below w.heap.size w wr) (fun _ i _ => xs.length - (intOf i).toNat)
  case atStart => exact ⟨0, [], Nat.zero_le _, rfl, rfl, World.ownsRow_nil _ _ _ _, Below.refl _ _⟩
  case round =>
    obtain ⟨k, dl, hk, rfl, hdl, hr, hb⟩ := hrel
    have hdk : dl.length ≤ k := by rw [hdl]; simp; omega
    have HDL := Lib.hid hdl
    have HRR := Lib.hid hr
    have HBB := Lib.hid hb
    clear hr hb hdl
    by_cases hlt : k < xs.length
    · obtain ⟨ad, hA, _, hc1, hc2⟩ := ((HX.out.mono hB).below HBB.out) k xs[k] (List.getElem?_eq_getElem hlt)
      have hz := HS.out xs[k] (List.getElem_mem hlt)
      have HD := Lib.hid (take_hd (List.take_succ_eq_append_getElem hlt))
      generalize xs[k] = x at *
      obtain ⟨x1, x2⟩ := x
      subst hA
      obtain ⟨a, ha⟩ : ∃ a : ByteArray, a = ⟨(Lk.lower x1.data.toList).toArray⟩ := ⟨_, rfl⟩
      have HLA := Lib.hid ha
      have HNE : Hid (((xs.take (k + 1)).map hd).map (fun h => Lk.lower h.1) = dl ++ [a.data.toList]) := by
        show _ = _
        rw [HD.out, HDL.out, ha, List.map_append]
        rfl
      clear ha hc2
      go_wp2_with fail
      refine (refLower_any x1 _ (by unfold maxLen; omega)).mono ?_
      rintro e w2 ⟨rfl, hb2⟩
      rw [← HLA.out]
      have HB2 : Hid (Below w.heap.size w w2) := HBB.out.trans (hb2.mono HBB.out.size)
      have HR2 : Hid (sown w2 w.heap.size u3 dl) := ownsRow_below HRR.out hb2
      clear hb2 hc1
      go_wp2_with (at_builtin; refine wpList_append_own _ rfl (.tmp 11) (.tmp 18) 36 rfl w.heap.size 9 i0 (.string ⟨#[]⟩) 1 16 Try.underlying36 hi hz0 hz1 hz2 rfl (by decide) _ _ _ rfl (World.ownsRow.alloc (w := w2) HR2.out _) ⟨w2.heap.size, 0, none⟩ 1 1 [.string a] rfl rfl ?c1 ?c2 ?c3 ?c4 ?c5 ?_)
      case c1 => exact cell_one_new _ _ _
      case c2 => intro u hu; simp at hu; subst hu; rfl
      case c3 => unfold maxLen; omega
      case c4 => omega
      case c5 => have := HB2.out.size; simp; omega
      intro v' w3 hown' hgrow _
      have HR3 : Hid (sown w3 w.heap.size v' (dl ++ [a.data.toList])) := by
        show sown _ _ _ _
        unfold sown
        rw [List.length_append, List.map_append, show [a.data.toList].map sv = [.string a] by show [sv _] = _; rw [sv_mk, mk_eq]]
        exact hown'
      have HB3 : Hid (Below w.heap.size w w3) := (HB2.out.alloc HB2.out.size _).grown hgrow (by have := HB2.out.size; simp; omega) (fun b hb => (HR2.out.lt b hb).1)
      clear hown' hgrow
      go_wp2
      go_roundw
      case rel => exact ⟨k + 1, dl ++ [a.data.toList], by omega, by go_num, HNE.out.symm, HR3.out, HB3.out⟩
      case measure => simp [intOf]; omega
    · obtain rfl : k = xs.length := by omega
      have HE : Hid (risL dl = namesH (xs.map hd)) := by show _ = _; rw [HDL.out, List.take_length]; rfl
      obtain ⟨A2, c2, e2, hc2, hsr⟩ := trow_of HRR.out
      have HSR := Lib.hid hsr
      clear hsr
      subst e2
      go_wp2_with fail
      refine (refRising_any A2 _ c2 wr.heap.size (dl.map mk) _ (by simp) (Nat.le_refl _) HSR.out (by simp; omega)).mono ?_
      rintro e w2 ⟨v, rfl, hr2, hb2⟩
      rw [dat_mk, HE.out] at hr2
      have HR2 : Hid (sown w2 w.heap.size v (namesH (xs.map hd))) := ownsRow_base hr2 HBB.out.size
      have HB2 : Hid (Below w.heap.size w w2) := HBB.out.trans (hb2.mono HBB.out.size)
      clear hr2 hb2
      go_wp2
      go_ret
      exact ⟨_, rfl, HR2.out, HB2.out⟩
end Go.Proofs.Ytinpfkbplflecaa
