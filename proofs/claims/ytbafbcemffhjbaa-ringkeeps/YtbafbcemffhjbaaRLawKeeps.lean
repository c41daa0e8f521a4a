/-
  The walk of the law RingKeeps: what goes in comes out, and nothing that was there has turned. Conditions: the bytes and numbers lie where the slices say.
-/
import Derived.Test.YtbafbcemffhjbaaRAwake
import Derived.Test.YtbafbcemffhjbaaKRows
import Derived.Test.YtbafbcemffhjbaaKLow
import Derived.Deep.CutRange
namespace Go.Proofs.Ytbafbcemffhjbaa
open Go.RowKit

theorem bytes_join (a b : List UInt8) : (⟨a.toArray⟩ : ByteArray) ++ ⟨b.toArray⟩ = ⟨(a ++ b).toArray⟩ := by
  apply ByteArray.ext
  simp
theorem bytes_size (a : List UInt8) : (⟨a.toArray⟩ : ByteArray).size = a.length := by show a.toArray.size = _; simp
/-- what holds at the head of a round: what went in is what came out, and what is there -/
structure KeepsAt (w W : World) (g gd K : Nat) (si so : ByteArray) (n : Nat) (O l : List UInt8) : Prop where
  r : RgAt W g gd K l
  b : Only [g, gd] w W
  si : si = ⟨(O ++ l).toArray⟩
  so : so = ⟨O.toArray⟩
  len : (O ++ l).length ≤ 60 * n
theorem KeepsAt.old {w W W' : World} {g gd K n : Nat} {si so : ByteArray} {O l : List UInt8} (h : KeepsAt w W g gd K si so n O l) (o : Only [] W W') : KeepsAt w W' g gd K si so n O l := ⟨h.r.old o, h.b.trans (o.mono (by simp)), h.si, h.so, h.len⟩
theorem KeepsAt.size {w W : World} {g gd K n : Nat} {si so : ByteArray} {O l : List UInt8} (h : KeepsAt w W g gd K si so n O l) : si.size ≤ 60 * n ∧ so.size ≤ 60 * n := by
  have h1 := h.len
  rw [List.length_append] at h1
  rw [h.si, h.so, bytes_size, bytes_size, List.length_append]
  omega

set_option maxRecDepth 20000 in
set_option maxHeartbeats 8000000 in
theorem walk_RingKeeps (a0 : Int) (a1 : Option Addr) (c1 : Nat) (x1 : List Bs) (a2 : Option Addr) (c2 : Nat) (x2 : List Int) (w : World) (_h0 : (Lit.int .i64 a0).wf = true) (h1 : RowsArg w a1 c1 x1) (h2 : IArg .i64 w a2 c2 x2) :
    Calls Try.prog 4 #[.int .i64 a0, .slice a1 x1.length c1, .slice a2 x2.length c2] w fun e w' => e = .returned (.bool true) ∧ Below w.heap.size w w' := by
  clear _h0
  have H1 := Lib.hid h1
  have H2 := Lib.hid h2
  have hl1 := h1.2.2.1
  have hm1 := h1.2.2.2
  have hl2 := h2.2.2.1
  have hm2 := h2.2.2.2
  unfold maxLen at hm1 hm2
  clear h1 h2
  by_cases hbad : 60 < x1.length ∨ x2.length < x1.length ∨ 200 < x2.length
  · rcases (by omega : 60 < x1.length ∨ (¬ 60 < x1.length ∧ x2.length < x1.length) ∨ (¬ 60 < x1.length ∧ ¬ x2.length < x1.length ∧ 200 < x2.length)) with h | ⟨h, h'⟩ | ⟨h, h', h''⟩
    all_goals
      clear hbad
      go_enter Try.func4, Try.ntmps4
      go_wp2_with fail
      refine (awake10_any _).mono ?_
      rintro e w' ⟨rfl, hb⟩
      go_wp2
      go_ret
      exact ⟨rfl, hb⟩
  have hb1 : ¬ 60 < x1.length := by omega
  have hb2 : ¬ x2.length < x1.length := by omega
  have hb3 : ¬ 200 < x2.length := by omega
  clear hbad
  obtain ⟨K0, hK0⟩ : ∃ K0 : Nat, lowV a0 200 = (K0 : Int) := ⟨(lowV a0 200).toNat, by have := lowV_bd a0 (n := 200) (by omega); omega⟩
  obtain ⟨K, hK⟩ : ∃ K : Nat, (1 + (K0 : Int)) = (K : Int) := ⟨K0 + 1, by omega⟩
  have hKb : 1 ≤ K ∧ K ≤ 200 := by have := lowV_bd a0 (n := 200) (by omega); omega
  have hK0b : K0 < 200 := by have := lowV_bd a0 (n := 200) (by omega); omega
  have HK0 := Lib.hid hK0
  have HK := Lib.hid hK
  have HKB := Lib.hid hKb
  have HCK : Hid (clampR (K : Int) = K) := by show _ = _; unfold clampR; rw [if_neg (by omega), if_neg (by omega)]; omega
  clear hK hK0 hKb
  go_enter Try.func4, Try.ntmps4
  go_wp2_with fail
  refine (Low_any a0 200 w (by omega) (by omega)).mono ?_
  rintro e w' ⟨rfl, rfl⟩
  rw [HK0.out]
  go_wp2_with fail
  rw [HK.out]
  clear hK0b
  refine (ringNew_any (K : Int) w).mono ?_
  rintro e w1 ⟨g, gd, rfl, hr1, ho1, hg, hgd⟩
  rw [HCK.out] at hr1
  have HG : Hid (w.heap.size ≤ g ∧ w.heap.size ≤ gd) := ⟨hg, hgd⟩
  have HX1 : Hid (KeepsAt w w1 g gd K ⟨#[]⟩ ⟨#[]⟩ 0 [] []) := ⟨hr1, ho1.mono (by simp), rfl, rfl, by simp⟩
  clear hr1 ho1 hg hgd
  go_wp2_with fail
  go_loopw [8, 9, 10] (fun s8 s9 s10 wr => ∃ (k : Nat) (si so : ByteArray) (O l : List UInt8), k ≤ x1.length ∧ s10 = .int .i64 k ∧ s8 = .string si ∧ s9 = .string so ∧ KeepsAt w wr g gd K si so k O l) (fun _ _ i _ => x1.length - (intOf i).toNat)
  case atStart => exact ⟨0, _, _, [], [], by omega, rfl, rfl, rfl, HX1.out⟩
  case round =>
    obtain ⟨k, si, so, O, l, hk, rfl, rfl, rfl, hx⟩ := hrel
    have HX := Lib.hid hx
    have hsz := hx.size
    clear hx HX1
    have HSB : Hid (∀ W, Only [g, gd] w W → Below w.heap.size w W) := by
      show ∀ W, _
      intro W h
      exact h.to_below (by have := HG.out; simp; omega)
    by_cases hlt : k < x1.length
    · obtain ⟨ad, e1, hB, hc0⟩ := H1.out.1 k _ (List.getElem?_eq_getElem hlt)
      obtain ⟨x, hx⟩ : ∃ x, x = x1[k] := ⟨_, rfl⟩
      have HBS : Hid (BsAt w x) := by show BsAt _ _; rw [hx]; exact H1.out.2.1 _ (List.getElem_mem hlt)
      rw [← hx] at hc0
      clear hx
      obtain ⟨A, cap, b⟩ := x
      simp only at hc0 HBS
      have HCL : Hid (∀ W, Only [g, gd] w W → W.cell? (ad.add k) = some (.slice A b.length cap)) := by
        show ∀ W, _
        intro W h
        exact ((HSB.out W h).cell (p := ad.add k) (by rw [block_add]; exact hB)).trans hc0
      obtain ⟨td, e2, hB2, ht0⟩ := H2.out.1 k _ (List.getElem?_eq_getElem (by omega : k < x2.length))
      obtain ⟨y, hy⟩ : ∃ y, y = x2[k]'(by omega) := ⟨_, rfl⟩
      rw [← hy] at ht0
      have HTL : Hid (∀ W, Only [g, gd] w W → W.cell? (td.add k) = some (.int .i64 y)) := by
        show ∀ W, _
        intro W h
        exact ((HSB.out W h).cell (p := td.add k) (by rw [block_add]; exact hB2)).trans ht0
      clear hc0 ht0 hB hB2 hy
      subst e1 e2
      have HBR : Hid (b.length ≤ cap ∧ cap ≤ maxLen) := ⟨HBS.out.room, HBS.out.most⟩
      have HBA : Hid (∀ W, Only [g, gd] w W → BArg W [g, gd] A b) := by
        show ∀ W, _
        intro W h
        exact HBS.out.lies W [g, gd] h (by have := HG.out; simp; omega)
      obtain ⟨bl, hbl⟩ : ∃ bl, bl = b.length := ⟨_, rfl⟩
      have HBLE := Lib.hid hbl
      have hcm : cap ≤ 9223372036854775807 := HBR.out.2
      have hbc : bl ≤ cap := by rw [hbl]; exact HBR.out.1
      rw [← hbl] at HCL
      clear hbl HBS
      have hf := HCL.out wr HX.out.b
      by_cases hb60 : 60 < bl
      · go_wp2_with fail
        refine (awake10_any _).mono ?_
        rintro e w' ⟨rfl, hb⟩
        have HBE := Lib.hid ((HSB.out wr HX.out.b).trans (hb.mono (HX.out.b.size)))
        clear hb hf
        go_wp2
        go_ret
        exact ⟨rfl, HBE.out⟩
      obtain ⟨P, hP⟩ : ∃ P, P = roomed K l b := ⟨_, rfl⟩
      have hlK := HX.out.r.lt.2.2.2.1
      have hPe : P = min bl (K - l.length) := by rw [hP, HBLE.out]; rfl
      have HPE := Lib.hid hP
      have HLP : Hid ((l ++ b.take P).length = l.length + P) := by show _ = _; rw [List.length_append, List.length_take, ← HBLE.out]; omega
      have hcase : P = bl ∨ (P < bl ∧ l.length + P = K) := by omega
      have hPb : P ≤ bl := by omega
      clear hP hPe hlK
      go_wp2_with fail
      refine (ringPut_any g gd K l A bl cap b wr HX.out.r HBLE.out ((HBA.out wr HX.out.b).mono (by simp)) HBR.out.1 HBR.out.2).mono ?_
      rintro e w3 ⟨rfl, hr3, ho3⟩
      rw [← HPE.out] at hr3 ⊢
      have HR3 := Lib.hid hr3
      have HO3 : Hid (Only [g, gd] w w3) := HX.out.b.trans ho3
      have hcv := (HBA.out w3 HO3.out).conv (n := P) cap (by have := HBLE.out; omega)
      obtain ⟨sb, hsb⟩ : ∃ sb : ByteArray, sb = ⟨(b.take P).toArray⟩ := ⟨_, rfl⟩
      rw [← hsb] at hcv
      have hsbs : sb.size ≤ 60 := by rw [hsb, bytes_size, List.length_take]; omega
      have HSB2 := Lib.hid hsb
      have hf3 := HCL.out w3 HO3.out
      clear hr3 ho3 hf hsb
      rcases hcase with hc | ⟨hc, hc2⟩
      · have hft := HTL.out w3 HO3.out
        rw [← hc] at hb60 hf3 hbc HBLE
        clear hc hPb
        go_wp2_with fail
        refine (Low_any y 70 w3 (by omega) (by omega)).mono ?_
        rintro e w' ⟨rfl, rfl⟩
        clear hcv
        obtain ⟨X, hX⟩ : ∃ X, X = (l ++ b.take P).take (upto (lowV y 70) (l ++ b.take P)) := ⟨_, rfl⟩
        have HXE := Lib.hid hX
        clear hX
        go_wp2_with fail
        refine (ringTake_any g gd K (l ++ b.take P) (lowV y 70) w3 HR3.out).mono ?_
        rintro e w5 ⟨v5, rfl, hk5, hr5, ho5⟩
        rw [← HXE.out] at hk5
        obtain ⟨sx, hsx⟩ : ∃ sx : ByteArray, sx = ⟨X.toArray⟩ := ⟨_, rfl⟩
        have hcv5 := hk5.conv
        rw [← hsx] at hcv5
        have HKE : Hid (KeepsAt w w5 g gd K (si ++ sb) (so ++ sx) (k + 1) (O ++ X) ((l ++ b.take P).drop (upto (lowV y 70) (l ++ b.take P)))) := by
          refine ⟨hr5, HO3.out.trans (ho5.mono (by simp)), ?_, ?_, ?_⟩
          · rw [HX.out.si, HSB2.out, bytes_join, HXE.out, List.append_assoc, List.append_assoc, List.take_append_drop]
          · rw [HX.out.so, hsx, bytes_join]
          · rw [HXE.out, List.append_assoc, List.take_append_drop, ← List.append_assoc, List.length_append, List.length_take]
            have := HX.out.len
            omega
        have hsz2 := HKE.out.size
        rw [ByteArray.size_append, ByteArray.size_append] at hsz2
        obtain ⟨l5, hl5⟩ : ∃ l5, l5 = (l ++ b.take P).drop (upto (lowV y 70) (l ++ b.take P)) := ⟨_, rfl⟩
        rw [← hl5] at HKE
        clear hk5 hr5 ho5 hsx hl5
        have hk60 : k < 60 := by omega
        go_wp2_with fail
        clear hcv5
        go_roundw
        case rel => exact ⟨k + 1, si ++ sb, so ++ sx, O ++ X, l5, by omega, by go_num, rfl, rfl, HKE.out⟩
        case measure => simp [intOf]; omega
      · have hcc : ((K : Int) - ((l ++ b.take P).length : Int)) = 0 := by rw [HLP.out]; omega
        have HCC := Lib.hid hcc
        clear hcc hc2 hcv hf3
        have hf3 := HCL.out w3 HO3.out
        go_wp2_with fail
        refine (ringRoom_any g gd K (l ++ b.take P) w3 HR3.out).mono ?_
        rintro e w4 ⟨rfl, n4, hn4⟩
        rw [HCC.out]
        have HO4 : Hid (Only [g, gd] w w4) := by show Only _ _ _; rw [hn4]; exact HO3.out.drewN n4
        have HR4 : Hid (RgAt w4 g gd K (l ++ b.take P)) := by show RgAt _ _ _ _ _; rw [hn4]; exact HR3.out.old ((Only.refl [] _).drewN n4)
        clear hn4 hf3
        have hft := HTL.out w4 HO4.out
        have hf4 := HCL.out w4 HO4.out
        have hcv := (HBA.out w4 HO4.out).conv (n := P) cap (by have := HBLE.out; omega)
        rw [← HSB2.out] at hcv
        go_wp2_with fail
        refine (Low_any y 70 w4 (by omega) (by omega)).mono ?_
        rintro e w' ⟨rfl, rfl⟩
        clear hcv
        obtain ⟨X, hX⟩ : ∃ X, X = (l ++ b.take P).take (upto (lowV y 70) (l ++ b.take P)) := ⟨_, rfl⟩
        have HXE := Lib.hid hX
        clear hX
        go_wp2_with fail
        refine (ringTake_any g gd K (l ++ b.take P) (lowV y 70) w4 HR4.out).mono ?_
        rintro e w5 ⟨v5, rfl, hk5, hr5, ho5⟩
        rw [← HXE.out] at hk5
        obtain ⟨sx, hsx⟩ : ∃ sx : ByteArray, sx = ⟨X.toArray⟩ := ⟨_, rfl⟩
        have hcv5 := hk5.conv
        rw [← hsx] at hcv5
        have HKE : Hid (KeepsAt w w5 g gd K (si ++ sb) (so ++ sx) (k + 1) (O ++ X) ((l ++ b.take P).drop (upto (lowV y 70) (l ++ b.take P)))) := by
          refine ⟨hr5, HO4.out.trans (ho5.mono (by simp)), ?_, ?_, ?_⟩
          · rw [HX.out.si, HSB2.out, bytes_join, HXE.out, List.append_assoc, List.append_assoc, List.take_append_drop]
          · rw [HX.out.so, hsx, bytes_join]
          · rw [HXE.out, List.append_assoc, List.take_append_drop, ← List.append_assoc, List.length_append, List.length_take]
            have := HX.out.len
            omega
        have hsz2 := HKE.out.size
        rw [ByteArray.size_append, ByteArray.size_append] at hsz2
        obtain ⟨l5, hl5⟩ : ∃ l5, l5 = (l ++ b.take P).drop (upto (lowV y 70) (l ++ b.take P)) := ⟨_, rfl⟩
        rw [← hl5] at HKE
        clear hk5 hr5 ho5 hsx hl5
        have hk60 : k < 60 := by omega
        go_wp2_with fail
        clear hcv5
        go_roundw
        case rel => exact ⟨k + 1, si ++ sb, so ++ sx, O ++ X, l5, by omega, by go_num, rfl, rfl, HKE.out⟩
        case measure => simp [intOf]; omega
    · have h8 : k = x1.length := by omega
      subst h8
      have hup : upto 1000 l = l.length := by
        have h1 := HX.out.r.lt.2.2.2.1
        have h2 := HKB.out
        show min (1000 : Int).toNat l.length = _
        omega
      have HUP := Lib.hid hup
      clear hup
      go_wp2_with fail
      refine (ringTake_any g gd K l 1000 wr HX.out.r).mono ?_
      rintro e w5 ⟨v5, rfl, hk5, hr5, ho5⟩
      rw [HUP.out] at hk5 hr5
      rw [List.take_length] at hk5
      rw [List.drop_length] at hr5
      have HR5 : Hid (RgAt w5 g gd K []) := hr5
      have HO5 : Hid (Only [g, gd] w w5) := HX.out.b.trans (ho5.mono (by simp))
      obtain ⟨sx, hsx⟩ : ∃ sx : ByteArray, sx = ⟨l.toArray⟩ := ⟨_, rfl⟩
      have hcv := hk5.conv
      rw [← hsx] at hcv
      have hse : so ++ sx = si := by rw [HX.out.so, HX.out.si, hsx, bytes_join]
      have hss : so.size + sx.size ≤ 3600 := by rw [← ByteArray.size_append, hse]; omega
      have hse2 : (so.toList ++ sx.toList == si.toList) = true := by rw [← hse]; simp [ByteArray.toList_eq]
      clear hk5 hr5 ho5 hsx
      go_wp2_with fail
      refine (ringLen_any g gd K [] w5 HR5.out).mono ?_
      rintro e w' ⟨rfl, rfl⟩
      clear hcv
      go_wp2_with fail
      refine (awake10_any _).mono ?_
      rintro e w' ⟨rfl, hb⟩
      have HBE := Lib.hid ((HSB.out w5 HO5.out).trans (hb.mono HO5.out.size))
      clear hb
      go_wp2
      go_ret
      exact ⟨rfl, HBE.out⟩
end Go.Proofs.Ytbafbcemffhjbaa
