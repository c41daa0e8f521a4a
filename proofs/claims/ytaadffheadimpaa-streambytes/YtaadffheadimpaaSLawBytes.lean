/-
  The walk of the law StreamBytes: what is read is what came, and nothing that was there has turned. Conditions: the bytes and numbers lie where the slices say.
-/
import Derived.Test.YtaadffheadimpaaSAwake
import Derived.Test.YtaadffheadimpaaKRows
import Derived.Test.YtaadffheadimpaaKLow
import Derived.Deep.CutRange
namespace Go.Proofs.Ytaadffheadimpaa
open Go.RowKit

theorem bytes_both (a b : List UInt8) : (⟨a.toArray⟩ : ByteArray) ++ ⟨b.toArray⟩ = ⟨(a ++ b).toArray⟩ := by
  apply ByteArray.ext
  simp
theorem bytes_len (a : List UInt8) : (⟨a.toArray⟩ : ByteArray).size = a.length := by show a.toArray.size = _; simp
/-- what holds at the head of a round: what went in is what came out, and what is there -/
structure HoldAt (w W : World) (g gr gd H L : Nat) (p : Bool) (si so : ByteArray) (n : Nat) (O l : List UInt8) : Prop where
  x : StAt W g gr gd H L ⟨1, p, l⟩
  o : Only [g, gr, gd] w W
  si : si = ⟨(O ++ l).toArray⟩
  so : so = ⟨O.toArray⟩
  len : (O ++ l).length ≤ 64 * n
theorem HoldAt.size {w W : World} {g gr gd H L n : Nat} {p : Bool} {si so : ByteArray} {O l : List UInt8} (h : HoldAt w W g gr gd H L p si so n O l) : si.size ≤ 64 * n ∧ so.size ≤ 64 * n := by
  have h1 := h.len
  rw [List.length_append] at h1
  rw [h.si, h.so, bytes_len, bytes_len, List.length_append]
  omega

set_option maxRecDepth 20000 in
set_option maxHeartbeats 8000000 in
theorem walk_StreamBytes (a0 a1 : Int) (a2 : Option Addr) (c2 : Nat) (x2 : List Bs) (a3 : Option Addr) (c3 : Nat) (x3 : List Int) (w : World) (_h0 : (Lit.int .i64 a0).wf = true) (_h1 : (Lit.int .i64 a1).wf = true) (h2 : RowsArg w a2 c2 x2) (h3 : IArg .i64 w a3 c3 x3) :
    Calls Try.prog 4 #[.int .i64 a0, .int .i64 a1, .slice a2 x2.length c2, .slice a3 x3.length c3] w fun e w' => e = .returned (.bool true) ∧ Below w.heap.size w w' := by
  clear _h0 _h1
  have H2 := Lib.hid h2
  have H3 := Lib.hid h3
  have hl2 := h2.2.2.1
  have hm2 := h2.2.2.2
  have hl3 := h3.2.2.1
  have hm3 := h3.2.2.2
  unfold maxLen at hm2 hm3
  clear h2 h3
  by_cases hbad : 60 < x2.length ∨ x3.length < x2.length ∨ 200 < x3.length
  · rcases (by omega : 60 < x2.length ∨ (¬ 60 < x2.length ∧ x3.length < x2.length) ∨ (¬ 60 < x2.length ∧ ¬ x3.length < x2.length ∧ 200 < x3.length)) with h | ⟨h, h'⟩ | ⟨h, h', h''⟩
    all_goals
      clear hbad
      go_enter Try.func4, Try.ntmps4
      go_wp2_with fail
      refine (awake11_any _).mono ?_
      rintro e w' ⟨rfl, hb⟩
      go_wp2
      go_ret
      exact ⟨rfl, hb⟩
  have hb1 : ¬ 60 < x2.length := by omega
  have hb2 : ¬ x3.length < x2.length := by omega
  have hb3 : ¬ 200 < x3.length := by omega
  clear hbad
  obtain ⟨H0, hH0⟩ : ∃ H0 : Nat, lowV a0 200 = (H0 : Int) := ⟨(lowV a0 200).toNat, by have := lowV_bd a0 (n := 200) (by omega); omega⟩
  obtain ⟨H, hH⟩ : ∃ H : Nat, (1 + (H0 : Int)) = (H : Int) := ⟨H0 + 1, by omega⟩
  have hHb : 1 ≤ H ∧ H ≤ 200 := by have := lowV_bd a0 (n := 200) (by omega); omega
  have hH0b : H0 < 200 := by have := lowV_bd a0 (n := 200) (by omega); omega
  obtain ⟨L, hL⟩ : ∃ L : Nat, lowV a1 (H : Int) = (L : Int) := ⟨(lowV a1 (H : Int)).toNat, by have := lowV_bd a1 (n := (H : Int)) (by omega); omega⟩
  have hLb : L < H := by have := lowV_bd a1 (n := (H : Int)) (by omega); omega
  have HH0 := Lib.hid hH0
  have HH := Lib.hid hH
  have HL := Lib.hid hL
  have HLB := Lib.hid hLb
  clear hH hH0 hL hLb
  go_enter Try.func4, Try.ntmps4
  go_wp2_with fail
  refine (Low_any a0 200 w (by omega) (by omega)).mono ?_
  rintro e w' ⟨rfl, rfl⟩
  rw [HH0.out]
  go_wp2_with fail
  rw [HH.out]
  refine (Low_any a1 (H : Int) w (by omega) (by omega)).mono ?_
  rintro e w' ⟨rfl, rfl⟩
  rw [HL.out]
  clear hH0b
  go_wp2_with fail
  refine (strNew_any (H : Int) (L : Int) w).mono ?_
  rintro e w1 ⟨g, gr, gd, rfl, hx1, ho1, hg1, hg2, hg3⟩
  rw [clampH_id hHb.1 (by omega), clampW_id HLB.out] at hx1
  have HX1 : Hid (HoldAt w w1 g gr gd H L false ⟨#[]⟩ ⟨#[]⟩ 0 [] []) := ⟨hx1, ho1.mono (by simp), rfl, rfl, by simp⟩
  have HG : Hid (w.heap.size ≤ g ∧ w.heap.size ≤ gr ∧ w.heap.size ≤ gd) := ⟨hg1, hg2, hg3⟩
  have HSB : Hid (∀ W, Only [g, gr, gd] w W → Below w.heap.size w W) := by
    show ∀ W, _
    intro W h
    exact h.to_below (by have := HG.out; simp; omega)
  clear hx1 ho1 hg1 hg2 hg3
  go_wp2_with fail
  go_loopw [11, 12, 13] (fun s11 s12 s13 wr => ∃ (k : Nat) (p : Bool) (si so : ByteArray) (O l : List UInt8), k ≤ x2.length ∧ s13 = .int .i64 k ∧ s11 = .string si ∧ s12 = .string so ∧ HoldAt w wr g gr gd H L p si so k O l) (fun _ _ i _ => x2.length - (intOf i).toNat)
  case atStart => exact ⟨0, false, _, _, [], [], by omega, rfl, rfl, rfl, HX1.out⟩
  case round =>
    obtain ⟨k, p, si, so, O, l, hk, rfl, rfl, rfl, hx⟩ := hrel
    have HX := Lib.hid hx
    have hsz := hx.size
    clear hx HX1
    by_cases hlt : k < x2.length
    · obtain ⟨ad, e1, hB, hc0⟩ := H2.out.1 k _ (List.getElem?_eq_getElem hlt)
      obtain ⟨x, hx⟩ : ∃ x, x = x2[k] := ⟨_, rfl⟩
      have HBS : Hid (BsAt w x) := by show BsAt _ _; rw [hx]; exact H2.out.2.1 _ (List.getElem_mem hlt)
      rw [← hx] at hc0
      clear hx
      obtain ⟨A, cap, b⟩ := x
      simp only at hc0 HBS
      have HCL : Hid (∀ W, Only [g, gr, gd] w W → W.cell? (ad.add k) = some (.slice A b.length cap)) := by
        show ∀ W, _
        intro W h
        exact ((HSB.out W h).cell (p := ad.add k) (by rw [block_add]; exact hB)).trans hc0
      obtain ⟨td, e2, hB2, ht0⟩ := H3.out.1 k _ (List.getElem?_eq_getElem (by omega : k < x3.length))
      obtain ⟨y, hy⟩ : ∃ y, y = x3[k]'(by omega) := ⟨_, rfl⟩
      rw [← hy] at ht0
      have HTL : Hid (∀ W, Only [g, gr, gd] w W → W.cell? (td.add k) = some (.int .i64 y)) := by
        show ∀ W, _
        intro W h
        exact ((HSB.out W h).cell (p := td.add k) (by rw [block_add]; exact hB2)).trans ht0
      clear hc0 ht0 hB hB2 hy
      subst e1 e2
      have HBR : Hid (b.length ≤ cap ∧ cap ≤ maxLen) := ⟨HBS.out.room, HBS.out.most⟩
      have HBA : Hid (∀ W, Only [g, gr, gd] w W → BArg W [g, gr, gd] A b) := by
        show ∀ W, _
        intro W h
        exact HBS.out.lies W _ h (by have := HG.out; simp; omega)
      obtain ⟨bl, hbl⟩ : ∃ bl, bl = b.length := ⟨_, rfl⟩
      have HBLE := Lib.hid hbl
      have hcm : cap ≤ 9223372036854775807 := HBR.out.2
      have hbc : bl ≤ cap := by rw [hbl]; exact HBR.out.1
      rw [← hbl] at HCL
      clear hbl HBS
      have hf := HCL.out wr HX.out.o
      by_cases hb64 : 64 < bl
      · go_wp2_with fail
        refine (awake11_any _).mono ?_
        rintro e w' ⟨rfl, hb⟩
        have HBE := Lib.hid ((HSB.out wr HX.out.o).trans (hb.mono (HX.out.o.size)))
        clear hb hf
        go_wp2
        go_ret
        exact ⟨rfl, HBE.out⟩
      have hb60 : k < 60 := by omega
      go_wp2_with fail
      refine (strChunk_any g gr gd H L _ A bl cap b wr HX.out.x HBLE.out (HBA.out wr HX.out.o) HBR.out.1 HBR.out.2).mono ?_
      rintro e w3 ⟨rfl, hx3, ho3⟩
      have HO3 : Hid (Only [g, gr, gd] w w3) := HX.out.o.trans ho3
      clear ho3 hf
      obtain ⟨code, hcode⟩ : ∃ code, code = chunkC ⟨1, p, l⟩ b := ⟨_, rfl⟩
      rw [← hcode]
      by_cases hc0 : code = 0
      case' pos =>
        have hs3 : chunkS H ⟨1, p, l⟩ b = ⟨1, decide (H ≤ (l ++ b).length), l ++ b⟩ := by unfold chunkS; rw [if_pos (by rw [← hcode]; exact hc0)]
        rw [hs3] at hx3
        have hcv := (HBA.out w3 HO3.out).conv (n := bl) cap (by have := HBLE.out; omega)
        obtain ⟨sb, hsb⟩ : ∃ sb : ByteArray, sb = ⟨(b.take bl).toArray⟩ := ⟨_, rfl⟩
        rw [← hsb] at hcv
        have hsb2 : sb = ⟨b.toArray⟩ := by rw [hsb, HBLE.out, List.take_length]
        have hsbs : sb.size ≤ 64 := by rw [hsb2, bytes_len]; have := HBLE.out; omega
        have HX3 : Hid (HoldAt w w3 g gr gd H L (decide (H ≤ (l ++ b).length)) (si ++ sb) so (k + 1) O (l ++ b)) := by
          refine ⟨hx3, HO3.out, ?_, HX.out.so, ?_⟩
          · rw [HX.out.si, hsb2, bytes_both, List.append_assoc]
          · have := HX.out.len
            have := HBLE.out
            simp only [List.length_append] at *
            omega
        have hf3 := HCL.out w3 HO3.out
        clear hx3 hs3 hsb hsb2 hcode
        subst hc0
        obtain ⟨p3, hp3⟩ : ∃ p3, p3 = decide (H ≤ (l ++ b).length) := ⟨_, rfl⟩
        rw [← hp3] at HX3
        clear hp3
        obtain ⟨l3, hl3⟩ : ∃ l3, l3 = l ++ b := ⟨_, rfl⟩
        rw [← hl3] at HX3
        clear hl3
        obtain ⟨si3, hsi3⟩ : ∃ si3, si3 = si ++ sb := ⟨_, rfl⟩
        rw [← hsi3] at HX3
        go_wp2_with fail
        rw [← hsi3]
        clear hcv hf3 hsi3
      case' neg =>
        have hs3 : chunkS H ⟨1, p, l⟩ b = ⟨1, p, l⟩ := by unfold chunkS; rw [if_neg (by rw [← hcode]; exact hc0)]
        rw [hs3] at hx3
        have hc2 : (((code : Nat) : Int) == 0) = false := by simp; omega
        have HX3 : Hid (HoldAt w w3 g gr gd H L p si so (k + 1) O l) := ⟨hx3, HO3.out, HX.out.si, HX.out.so, by have := HX.out.len; omega⟩
        clear hx3 hs3 hcode hc0
        obtain ⟨p3, hp3⟩ : ∃ p3, p3 = p := ⟨_, rfl⟩
        rw [← hp3] at HX3
        clear hp3
        obtain ⟨l3, hl3⟩ : ∃ l3, l3 = l := ⟨_, rfl⟩
        rw [← hl3] at HX3
        clear hl3
        obtain ⟨si3, hsi3⟩ : ∃ si3, si3 = si := ⟨_, rfl⟩
        rw [← hsi3] at HX3
        go_wp2_with fail
        rw [← hsi3]
        clear hc2 hsi3
      all_goals
        refine (strLen_any g gr gd H L _ w3 HX3.out.x).mono ?_
        rintro e w' ⟨rfl, rfl⟩
        have hfit : l3.length ≤ H + 63 := HX3.out.x.ok.fits
        have hgd : ¬ ((H : Int) - 1 + 64 < (l3.length : Int)) := by omega
        have hft := HTL.out w3 HO3.out
        go_wp2_with fail
        refine (Low_any y 90 w3 (by omega) (by omega)).mono ?_
        rintro e w' ⟨rfl, rfl⟩
        clear hgd hft
        obtain ⟨X, hX⟩ : ∃ X, X = l3.take (upto (lowV y 90) l3) := ⟨_, rfl⟩
        have HXE := Lib.hid hX
        clear hX
        go_wp2_with fail
        refine (readOn_any HX3.out.x HO3.out (lowV y 90)).mono ?_
        rintro e w5 ⟨v5, rfl, hk5, hx5, ho5⟩
        have hk5' : KeptAt w5 w3.heap.size v5 X := by rw [HXE.out]; exact hk5
        obtain ⟨sx, hsx⟩ : ∃ sx : ByteArray, sx = ⟨X.toArray⟩ := ⟨_, rfl⟩
        have hcv5 := hk5'.conv
        rw [← hsx] at hcv5
        have HKE : Hid (∃ p5 l5, HoldAt w w5 g gr gd H L p5 si3 (so ++ sx) (k + 1) (O ++ X) l5) := by
          refine ⟨_, _, hx5, ho5, ?_, ?_, ?_⟩
          · show _ = (⟨((O ++ X) ++ l3.drop (upto (lowV y 90) l3)).toArray⟩ : ByteArray)
            rw [HX3.out.si, HXE.out, List.append_assoc, List.take_append_drop]
          · rw [HX3.out.so, hsx, bytes_both]
          · show ((O ++ X) ++ l3.drop (upto (lowV y 90) l3)).length ≤ _
            rw [HXE.out, List.append_assoc, List.take_append_drop]
            exact HX3.out.len
        obtain ⟨p5, l5, hke⟩ := HKE.out
        have hsz2 := hke.size
        rw [ByteArray.size_append] at hsz2
        have HKF := Lib.hid hke
        clear hk5 hk5' hx5 ho5 hsx hke HKE
        go_wp2_with fail
        clear hcv5
        go_roundw
        case rel => exact ⟨k + 1, p5, si3, so ++ sx, O ++ X, l5, by omega, by go_num, rfl, rfl, HKF.out⟩
        case measure => simp [intOf]; omega
    · have h8 : k = x2.length := by omega
      subst h8
      have hlen : l.length ≤ H + 63 := HX.out.x.ok.fits
      have HUP : Hid (upto 5000 l = l.length) := by
        show min (5000 : Int).toNat l.length = _
        omega
      obtain ⟨z, hz⟩ : ∃ z, z = overC ⟨2, false, l⟩ := ⟨_, rfl⟩
      have HZ := Lib.hid hz
      have hz2 : (((l.length : Nat) : Int) == 0) = z := by
        rw [hz]
        unfold overC
        by_cases h0 : l.length = 0
        · rw [h0]; rfl
        · simp [h0]
      have hzz : (z != z) = false := by simp
      obtain ⟨c, hc⟩ : ∃ c, c = l.length := ⟨_, rfl⟩
      have HC := Lib.hid hc
      rw [← hc] at hz2 hlen
      clear hz hc
      go_wp2_with fail
      refine (strEnd_any g gr gd H L _ wr HX.out.x).mono ?_
      rintro e w2 ⟨rfl, hx2, ho2⟩
      rw [show endC ⟨1, p, l⟩ = 0 from rfl]
      rw [show endS ⟨1, p, l⟩ = ⟨2, false, l⟩ from rfl] at hx2
      have HX2 := Lib.hid hx2
      have HO2 : Hid (Only [g, gr, gd] w w2) := HX.out.o.trans (ho2.mono (by simp))
      clear hx2 ho2
      go_wp2_with fail
      refine (strOver_any g gr gd H L _ w2 HX2.out).mono ?_
      rintro e w' ⟨rfl, rfl⟩
      rw [← HZ.out]
      go_wp2_with fail
      refine (strLen_any g gr gd H L _ w2 HX2.out).mono ?_
      rintro e w' ⟨rfl, rfl⟩
      simp only [← HC.out]
      go_wp2_with fail
      refine (strEnd_any g gr gd H L _ w2 HX2.out).mono ?_
      rintro e w4 ⟨rfl, hx4, ho4⟩
      rw [show endC ⟨2, false, l⟩ = 12 from rfl]
      rw [show endS ⟨2, false, l⟩ = ⟨2, false, l⟩ from rfl] at hx4
      have HX4 := Lib.hid hx4
      have HO4 : Hid (Only [g, gr, gd] w w4) := HO2.out.trans (ho4.mono (by simp))
      clear hx4 ho4 hz2 hzz
      go_wp2_with fail
      refine (readOn_any HX4.out HO4.out 5000).mono ?_
      rintro e w5 ⟨v5, rfl, hk5, hx5, ho5⟩
      have hk5' : KeptAt w5 w4.heap.size v5 l := by
        have h := hk5
        simp only [HUP.out, List.take_length] at h
        exact h
      have HX5 : Hid (∃ p5, StAt w5 g gr gd H L ⟨2, p5, []⟩) := by
        have e : readS L ⟨2, false, l⟩ 5000 = ⟨2, (readS L ⟨2, false, l⟩ 5000).p, []⟩ := by
          unfold readS
          simp only [HUP.out, List.drop_length]
        exact ⟨(readS L ⟨2, false, l⟩ 5000).p, by rw [← e]; exact hx5⟩
      obtain ⟨p5, hx5'⟩ := HX5.out
      have HX6 := Lib.hid hx5'
      have HO5 := Lib.hid ho5
      obtain ⟨sx, hsx⟩ : ∃ sx : ByteArray, sx = ⟨l.toArray⟩ := ⟨_, rfl⟩
      have hcv := hk5'.conv
      rw [← hsx] at hcv
      have hse : so ++ sx = si := by rw [HX.out.so, HX.out.si, hsx, bytes_both]
      have hss : so.size + sx.size ≤ 3840 := by rw [← ByteArray.size_append, hse]; omega
      have hse2 : (si.toList == so.toList ++ sx.toList) = true := by rw [← hse]; simp [ByteArray.toList_eq]
      clear hk5 hk5' hx5 hx5' ho5 hsx HX5
      go_wp2_with fail
      refine (strOver_any g gr gd H L _ w5 HX6.out).mono ?_
      rintro e w' ⟨rfl, rfl⟩
      rw [show overC ⟨2, p5, []⟩ = true from rfl]
      clear hcv
      go_wp2_with fail
      refine (awake11_any _).mono ?_
      rintro e w' ⟨rfl, hb⟩
      have HBE := Lib.hid ((HSB.out w5 HO5.out).trans (hb.mono HO5.out.size))
      clear hb
      go_wp2
      go_ret
      exact ⟨rfl, HBE.out⟩
end Go.Proofs.Ytaadffheadimpaa
