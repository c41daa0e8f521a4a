/-
  The contract of allow's Read over this seat's program: it returns what the headers let, or the first error, and nothing that was there has turned. Conditions: at most a thousand headers, each text of at most 100,000 bytes.
-/
import Derived.Test.YtnoiciakbbkngaaDoorERead
namespace Go.Proofs.YtnoiciakbbkngaaDoor
open Go.RowKit

/-- what Read tells: what is let, its rows in memory, or nothing and an error -/
def LetPost (H : List Hd) (w : World) (e : Ending) (w' : World) : Prop :=
  ∃ a : Av, e = .returned (.tuple #[a.v, .int .i64 (readI H)]) ∧ AvIs w' a (readA H) ∧ Below w.heap.size w w'
theorem avis_of {w : World} {b b2 : Nat} {A1 A2 : Option Addr} {c1 c2 : Nat} {ms hs : List (List UInt8)} {n1 n2 g : Nat} (h1 : sown w b (.slice A1 n1 c1) ms) (h2 : sown w b2 (.slice A2 n2 c2) hs) :
    AvIs w ⟨A1, n1, c1, A2, n2, c2, (g : Int)⟩ ⟨ms, hs, g⟩ := by
  obtain ⟨B1, d1, e1, _, r1⟩ := trow_of h1
  obtain ⟨B2, d2, e2, _, r2⟩ := trow_of h2
  injection e1 with ea eb ec
  injection e2 with fa fb fc
  subst ea eb ec fa fb fc
  exact ⟨r1, r2, rfl, rfl, rfl, sown_len h1, sown_len h2⟩
theorem sown_up {w w' : World} {B : Nat} {v : Value} {l : List (List UInt8)} (h : sown w B v l) (hb : Below w.heap.size w w') : sown w' B v l := ownsRow_below h hb
theorem sown_slice {w : World} {B : Nat} {v : Value} {l : List (List UInt8)} (h : sown w B v l) : ∃ A n c, v = .slice A n c ∧ n = l.length ∧ (0 < l.length → ∃ g, A = some ⟨g, 0, none⟩ ∧ B ≤ g) := by
  rcases sown_form h with ⟨rfl, rfl⟩ | ⟨g, cap, rfl, hg, _, _⟩
  · exact ⟨none, 0, 0, rfl, rfl, fun h => by simp at h⟩
  · exact ⟨_, _, _, rfl, rfl, fun _ => ⟨g, rfl, hg⟩⟩
theorem own_al1 {w : World} {base : Nat} {v : Value} {l : List (List UInt8)} (h : sown w base v l) {g j : Nat} {u : Value} (hg : g < base) : sown (w.setCell ⟨g, j, none⟩ u) base v l := by
  refine ⟨h.1, ?_⟩
  rcases h.2 with hn | ⟨b, cap, cur, hv, hb, hc, rest⟩
  · exact .inl hn
  · exact .inr ⟨b, cap, cur, hv, hb, (Below.heap_setCell _ _ _ _ (by show b ≠ g; omega)).trans hc, rest⟩
theorem own_al {w : World} {base : Nat} {v : Value} {l : List (List UInt8)} (h : sown w base v l) {g : Nat} (hg : g < base) (a : Av) : sown (AlAt.put w g a) base v l := own_al1 (own_al1 (own_al1 h hg) hg) hg
/-- the names as far as they are turned -/
def lowTo (hs : List (List UInt8)) (k : Nat) : List (List UInt8) := (hs.take k).map Lk.lower ++ hs.drop k
theorem lowTo_len (hs : List (List UInt8)) (k : Nat) : (lowTo hs k).length = hs.length := by unfold lowTo; simp; omega
theorem lowTo_at {hs : List (List UInt8)} {k : Nat} (h : k < hs.length) : (lowTo hs k)[k]'(by rw [lowTo_len]; exact h) = hs[k] := by
  unfold lowTo
  have hl : ((hs.take k).map Lk.lower).length = k := by simp; omega
  simp only [List.getElem_append, hl, Nat.lt_irrefl, dite_false, Nat.sub_self, List.getElem_drop, Nat.add_zero]
theorem lowTo_set {hs : List (List UInt8)} {k : Nat} (h : k < hs.length) {x : List UInt8} (hx : x = Lk.lower hs[k]) : (lowTo hs k).set k x = lowTo hs (k + 1) := by
  unfold lowTo
  have hl : ((hs.take k).map Lk.lower).length = k := by simp; omega
  rw [List.set_append_right _ _ (by omega), hl, Nat.sub_self, List.take_succ_eq_append_getElem h, List.map_append, List.drop_eq_getElem_cons h, List.set_cons_zero, List.append_assoc, hx]
  rfl
theorem lowTo_all (hs : List (List UInt8)) : lowTo hs hs.length = hs.map Lk.lower := by unfold lowTo; simp

set_option maxHeartbeats 4000000 in
theorem ARead_any (A : Option Addr) (len c B : Nat) (xs : List (ByteArray × ByteArray)) (w : World) (hlen : len = xs.length) (hB : B ≤ w.heap.size) (hx : PRow w B A xs) (hsm : Sm (xs.map hd)) :
    Calls Tryd.prog 10 #[.slice A len c] w (LetPost (xs.map hd) w) := by
  obtain ⟨ms, hms⟩ : ∃ ms, ms = elsH (xs.map hd) metN := ⟨_, rfl⟩
  obtain ⟨hs, hhs⟩ : ∃ hs, hs = elsH (xs.map hd) hdrN := ⟨_, rfl⟩
  have HZM : Hid (∀ x ∈ ms, x.length ≤ maxLen) := by rw [hms]; intro x h; have := els_small hsm _ x h; unfold maxLen; omega
  have HZH : Hid (∀ x ∈ hs, x.length ≤ maxLen) := by rw [hhs]; intro x h; have := els_small hsm _ x h; unfold maxLen; omega
  have HLM : Hid (ms.length ≤ maxLen) := by rw [hms]; show _ ≤ _; have := els_len hsm metN; unfold maxLen; omega
  have hlh : hs.length ≤ 200000001 := by rw [hhs]; exact els_len hsm hdrN
  have HLH : Hid (hs.length ≤ maxLen) := by show _ ≤ _; unfold maxLen; omega
  have HLH2 := Lib.hid hlh
  have HMS := Lib.hid hms
  have HHS := Lib.hid hhs
  have HX := Lib.hid hx
  have HS := Lib.hid hsm
  have HLen := Lib.hid hlen
  have HBB := Lib.hid hB
  obtain ⟨W, hW⟩ : ∃ W, W = w.alloc (.cells #[.slice none 0 0, .slice none 0 0, .int .u64 0] 26) := ⟨_, rfl⟩
  have hb0 : Below w.heap.size w W := by rw [hW]; exact (Below.refl _ _).alloc (Nat.le_refl _) _
  have HB0 := Lib.hid hb0
  have HC0 : Hid (AlAt W w.heap.size Av.zero) := by rw [hW]; exact AlAt.new w Av.zero _
  have HX0 : Hid (PRow W w.heap.size A xs) := (hx.mono hB).below hb0
  have HC0S : Hid (w.heap.size < W.heap.size) := HC0.out.lt
  clear hms hhs hlh hx hsm hlen hB hb0
  go_enter Tryd.func10, Tryd.ntmps10
  go_wp2_with fail
  rw [← hW]
  clear hW
  refine (elements_any A len c w.heap.size xs _ _ HLen.out HB0.out.size HX0.out HS.out (by unfold maxLen; decide)).mono ?_
  rintro e w1 ⟨v1, rfl, ho1, hb1⟩
  rw [show (ByteArray.mk #[97, 99, 99, 101, 115, 115, 45, 99, 111, 110, 116, 114, 111, 108, 45, 97, 108, 108, 111, 119, 45, 109, 101, 116, 104, 111, 100, 115]).data.toList = metN from rfl, ← HMS.out] at ho1
  have HC1 := Lib.hid (HC0.out.up hb1)
  have HWS : Hid (W.heap.size ≤ w1.heap.size) := hb1.size
  have HB1 : Hid (Below w.heap.size w w1) := HB0.out.trans (hb1.mono HB0.out.size)
  have HX1 : Hid (PRow w1 w.heap.size A xs) := HX0.out.below (hb1.mono HB0.out.size)
  obtain ⟨A1, n1, c1, hv, hn1, _⟩ := sown_slice ho1
  subst hv
  have HN1 := Lib.hid hn1
  have HO1 := Lib.hid ho1
  obtain ⟨A1', c1', e1', _, hr1⟩ := trow_of ho1
  have HR1 : Hid (SRow w1 w1.heap.size A1 (ms.map mk)) := by injection e1' with ea; rw [ea]; exact hr1
  clear hb1 hn1 ho1 hr1 e1' HC0 HB0 HX0
  go_wp2_with fail
  refine (allTokens_any A1 n1 c1 _ ms _ HN1.out HLM.out HR1.out HZM.out).mono ?_
  rintro e w' ⟨rfl, rfl⟩
  cases k1 : tokAll ms
  · have HI : Hid (readI (xs.map hd) = 5) := readI_5 (by rw [← HMS.out]; exact k1)
    clear k1
    obtain ⟨p0, p1, p2, pf⟩ := HC1.out
    dsimp only [Av.zero] at p0 p1 p2
    go_wp2
    obtain ⟨q0, q1, q2, _⟩ := HC1.out.put_at Av.zero
    dsimp only [AlAt.put, Av.zero] at q0 q1 q2
    refine bodyPost_ret (v := .tuple #[.agg #[.slice none 0 0, .slice none 0 0, .int .u64 0], .int .i64 5]) (by simp [results, Tryd.results10, go_sem, q0, q1, q2]) rfl ?_
    exact ⟨Av.zero, by rw [HI.out]; rfl, by rw [readA_no HI.out (by decide)]; exact AvIs.zero _, AlAt.put_below HB1.out (Nat.le_refl _) Av.zero⟩
  have K1 := Lib.hid k1
  clear k1
  go_wp2_with fail
  refine (elements_any A len c w.heap.size xs _ _ HLen.out HB1.out.size HX1.out HS.out (by unfold maxLen; decide)).mono ?_
  rintro e w2 ⟨v2, rfl, ho2, hb2⟩
  rw [show (ByteArray.mk #[97, 99, 99, 101, 115, 115, 45, 99, 111, 110, 116, 114, 111, 108, 45, 97, 108, 108, 111, 119, 45, 104, 101, 97, 100, 101, 114, 115]).data.toList = hdrN from rfl, ← HHS.out] at ho2
  obtain ⟨A2, n2, c2, hv, hn2, hgA⟩ := sown_slice ho2
  subst hv
  have HN2 := Lib.hid hn2
  have HO2 := Lib.hid ho2
  have HGA := Lib.hid hgA
  have HBE := Lib.hid hb2
  obtain ⟨A2', c2', e2', _, hr2⟩ := trow_of ho2
  have HR2 : Hid (SRow w2 w2.heap.size A2 (hs.map mk)) := by injection e2' with ea; rw [ea]; exact hr2
  clear hb2 hn2 ho2 hr2 e2' hgA HX1 HR1
  go_wp2_with fail
  refine (allTokens_any A2 n2 c2 _ hs _ HN2.out HLH.out HR2.out HZH.out).mono ?_
  rintro e w' ⟨rfl, rfl⟩
  cases k2 : tokAll hs
  · have HI : Hid (readI (xs.map hd) = 6) := readI_6 (by rw [← HMS.out]; exact K1.out) (by rw [← HHS.out]; exact k2)
    have HC2 := Lib.hid (HC1.out.up HBE.out)
    have HB2 : Hid (Below w.heap.size w w2) := HB1.out.trans (HBE.out.mono HB1.out.size)
    clear k2
    obtain ⟨p0, p1, p2, pf⟩ := HC2.out
    dsimp only [Av.zero] at p0 p1 p2
    go_wp2
    obtain ⟨q0, q1, q2, _⟩ := HC2.out.put_at Av.zero
    dsimp only [AlAt.put, Av.zero] at q0 q1 q2
    refine bodyPost_ret (v := .tuple #[.agg #[.slice none 0 0, .slice none 0 0, .int .u64 0], .int .i64 6]) (by simp [results, Tryd.results10, go_sem, q0, q1, q2]) rfl ?_
    exact ⟨Av.zero, by rw [HI.out]; rfl, by rw [readA_no HI.out (by decide)]; exact AvIs.zero _, AlAt.put_below HB2.out (Nat.le_refl _) Av.zero⟩
  have HI : Hid (readI (xs.map hd) = 0) := readI_0 (by rw [← HMS.out]; exact K1.out) (by rw [← HHS.out]; exact k2)
  clear k2 HR2
  have hnb : n2 ≤ 200000001 := by rw [HN2.out]; exact HLH2.out
  go_wp2_with fail
  go_loopw [22] (fun i wr => ∃ (k : Nat) (dl : List (List UInt8)), k ≤ n2 ∧ i = .int .i64 k ∧ dl = lowTo hs k ∧ sown wr w1.heap.size (.slice A2 n2 c2) dl ∧ Below w1.heap.size w1 wr) (fun i _ => n2 - (intOf i).toNat)
  case atStart => exact ⟨0, lowTo hs 0, Nat.zero_le _, rfl, rfl, HO2.out, HBE.out⟩
  case round =>
    obtain ⟨k, dl, hk, rfl, hdl, hr, hb⟩ := hrel
    have HDL := Lib.hid hdl
    have HRR := Lib.hid hr
    have HBR := Lib.hid hb
    clear hr hb hdl
    by_cases hlt : k < n2
    · have hlt2 : k < hs.length := by rw [← HN2.out]; exact hlt
      have HDK : Hid (n2 = dl.length) := by show _ = _; rw [HDL.out, lowTo_len]; exact HN2.out
      obtain ⟨g2, hA, hg2⟩ := HGA.out (by omega)
      subst hA
      obtain ⟨s1, s2⟩ := sown_slot HRR.out HDK.out k (by rw [← HDK.out]; exact hlt)
      have HZ : Hid ((mk (dl[k]'(by rw [← HDK.out]; exact hlt))).size ≤ maxLen) := by
        have h1 : dl[k]'(by rw [← HDK.out]; exact hlt) = hs[k] := by simp only [HDL.out]; exact lowTo_at hlt2
        show _ ≤ _
        rw [h1]
        have := HZH.out _ (List.getElem_mem hlt2)
        have h2 : (mk hs[k]).data.toList.length = hs[k].length := by rw [mk_data]
        simp at h2; omega
      have HE : Hid (∀ t : ByteArray, t.data.toList = Lk.lower (mk (dl[k]'(by rw [← HDK.out]; exact hlt))).data.toList → dl.set k t.data.toList = lowTo hs (k + 1)) := by
        intro t ht
        have h1 : dl[k]'(by rw [← HDK.out]; exact hlt) = hs[k] := by simp only [HDL.out]; exact lowTo_at hlt2
        rw [mk_data, h1] at ht
        rw [HDL.out]
        exact lowTo_set hlt2 ht
      generalize mk (dl[k]'(by rw [← HDK.out]; exact hlt)) = x at *
      obtain ⟨t, ht⟩ := lower_ba x
      have HT := Lib.hid ht
      clear ht hlt2
      go_wp2_with fail
      refine (ELower_as x t _ HZ.out HT.out).mono ?_
      rintro e w3 ⟨rfl, hb3⟩
      have HR3 : Hid (sown w3 w1.heap.size (.slice (some ⟨g2, 0, none⟩) n2 c2) dl) := sown_up HRR.out hb3
      have HB3 : Hid (Below w1.heap.size w1 w3) := HBR.out.trans (hb3.mono HBR.out.size)
      clear hb3 s1 s2
      obtain ⟨s1, s2⟩ := sown_slot HR3.out HDK.out k (by rw [← HDK.out]; exact hlt)
      generalize mk (dl[k]'(by rw [← HDK.out]; exact hlt)) = o1 at *
      have HN := Lib.hid (sown_set HR3.out HDK.out k t)
      have HNB : Hid (Below w1.heap.size w1 (w3.setCell ⟨g2, k, none⟩ (.string t))) := HB3.out.setCell (p := ⟨g2, k, none⟩) hg2 _
      go_wp2
      go_roundw
      case rel => exact ⟨k + 1, _, by omega, by go_num, HE.out t HT.out, HN.out, HNB.out⟩
      case measure => simp [intOf]; omega
    · obtain rfl : k = n2 := by omega
      have HRF : Hid (sown wr w1.heap.size (.slice A2 k c2) (hs.map Lk.lower)) := by
        have h := HRR.out
        rw [HDL.out, HN2.out, lowTo_all, ← HN2.out] at h
        exact h
      have HX3 : Hid (PRow wr w.heap.size A xs) := (HX.out.mono HBB.out).below (HB1.out.trans (HBR.out.mono HB1.out.size))
      have HB3 : Hid (Below w.heap.size w wr) := HB1.out.trans (HBR.out.mono HB1.out.size)
      have HC3 := Lib.hid (HC1.out.up HBR.out)
      have HO3 := Lib.hid (sown_up HO1.out HBR.out)
      clear hlt hk HDL HRR HBR HO2 HBE
      go_wp2_with fail
      refine (age_any A len c w.heap.size xs _ HLen.out HB3.out.size HX3.out HS.out).mono ?_
      rintro e w4 ⟨rfl, hb4⟩
      have HC4 := Lib.hid (HC3.out.up hb4)
      have HB4 : Hid (Below w.heap.size w w4) := HB3.out.trans (hb4.mono HB3.out.size)
      have HO4 := Lib.hid (sown_up HO3.out hb4)
      have HP4 := Lib.hid (sown_up HRF.out hb4)
      clear hb4
      obtain ⟨ag, hag⟩ : ∃ ag, ag = ageH (xs.map hd) := ⟨_, rfl⟩
      rw [← hag]
      have HAG := Lib.hid hag
      clear hag
      obtain ⟨p0, p1, p2, pf⟩ := HC4.out
      dsimp only [Av.zero] at p0 p1 p2
      go_wp2
      obtain ⟨q0, q1, q2, _⟩ := HC4.out.put_at ⟨A1, n1, c1, A2, k, c2, (ag : Int)⟩
      dsimp only [AlAt.put] at q0 q1 q2
      refine bodyPost_ret (v := .tuple #[.agg #[.slice A1 n1 c1, .slice A2 k c2, .int .u64 (ag : Int)], .int .i64 0]) (by simp [results, Tryd.results10, go_sem, q0, q1, q2]) rfl ?_
      refine ⟨⟨A1, n1, c1, A2, k, c2, (ag : Int)⟩, by rw [HI.out]; rfl, ?_, AlAt.put_below HB4.out (Nat.le_refl _) ⟨A1, n1, c1, A2, k, c2, (ag : Int)⟩⟩
      have hgl : w.heap.size < W.heap.size := HC0S.out
      rw [readA_0 HI.out, ← HMS.out, ← HHS.out, ← HAG.out]
      refine avis_of (b := W.heap.size) (b2 := w1.heap.size) ?_ ?_
      · exact own_al HO4.out hgl ⟨A1, n1, c1, A2, k, c2, (ag : Int)⟩
      · exact own_al HP4.out (Nat.lt_of_lt_of_le hgl HWS.out) ⟨A1, n1, c1, A2, k, c2, (ag : Int)⟩
end Go.Proofs.YtnoiciakbbkngaaDoor
