/-
  The contract of the document's own Chunk over this seat's program. Conditions: the bytes lie where the slice says.
-/
import Derived.Test.YtaadffheadimpaaSRef
namespace Go.Proofs.Ytaadffheadimpaa
open Go.RowKit

set_option maxHeartbeats 3200000 in
theorem msChunk_any (g H L : Nat) (s : Sv) (A : Option Addr) (bl cap : Nat) (b : List UInt8) (w : World) (hw : MsAt w g H L s) (hbl : bl = b.length) (hcn : A = none → cap = 0) (hb : BArg w [] A b) (hcap : b.length ≤ cap) (_hcm : cap ≤ maxLen) :
    Calls Try.prog 12 #[.pointer (some ⟨g, 0, none⟩), .slice A bl cap] w fun e w' => e = .returned (.int .i64 (chunkC s b : Int)) ∧ MsAt w' g H L (chunkS H s b) ∧ Only [g] w w' := by
  have HW := Lib.hid hw
  have HOK := Lib.hid (hw.ok.chunk b)
  have HT := Lib.hid hw.ok
  obtain ⟨v, hv⟩ := hw.i
  have d2 := hv.c2
  have d4 := hv.c4
  have HV := Lib.hid hv
  have HB := Lib.hid hb
  have HCN := Lib.hid hcn
  have HC := Lib.hid hcap
  have HBL := Lib.hid hbl
  obtain ⟨code, hcode⟩ : ∃ code, code = chunkC s b := ⟨_, rfl⟩
  rw [← hcode]
  have HCE := Lib.hid hcode
  unfold chunkC at hcode
  rw [← hbl] at hcode
  unfold chunkS at HOK ⊢
  rw [← HCE.out] at HOK ⊢
  clear hw hb hcap hbl hcn hv
  obtain ⟨st, p, l⟩ := s
  simp only at d2 d4 hcode HV
  by_cases h1 : st = 1
  case neg =>
    rw [if_pos h1] at hcode
    subst hcode
    have h2 : (((st : Nat) : Int) != 1) = true := by simp; omega
    clear h1
    go_enter Try.func12, Try.ntmps12
    go_wp2_with fail
    go_ret
    exact ⟨rfl, HW.out, Only.refl _ _⟩
  subst h1
  rw [if_neg (by simp)] at hcode
  by_cases h2 : bl < 1 ∨ 64 < bl
  · rw [if_pos h2] at hcode
    subst hcode
    rcases h2 with h2 | h2
    · have h3 : (bl : Int) < 1 := by omega
      clear h2
      go_enter Try.func12, Try.ntmps12
      go_wp2_with fail
      go_ret
      exact ⟨rfl, HW.out, Only.refl _ _⟩
    · have h3 : ¬ (bl : Int) < 1 := by omega
      have h4 : (64 : Int) < (bl : Int) := by omega
      clear h2
      go_enter Try.func12, Try.ntmps12
      go_wp2_with fail
      go_ret
      exact ⟨rfl, HW.out, Only.refl _ _⟩
  rw [if_neg h2] at hcode
  have h3 : ¬ (bl : Int) < 1 := by omega
  have h4 : ¬ (64 : Int) < (bl : Int) := by omega
  have HBS : Hid (b.length ≤ 64) := by show _ ≤ _; have := HBL.out; omega
  clear h2
  cases p
  case true =>
    rw [if_pos rfl] at hcode
    subst hcode
    go_enter Try.func12, Try.ntmps12
    go_wp2_with fail
    go_ret
    exact ⟨rfl, HW.out, Only.refl _ _⟩
  case false =>
    rw [if_neg (by simp)] at hcode
    subst hcode
    rw [if_pos rfl] at HOK ⊢
    obtain ⟨A0, cap0, hs, hc1, hc2, hc3, hc4⟩ := HV.out.row.source
    subst hs
    have HS0 : Hid ((A0 = none → cap0 = 0) ∧ ∀ j (hj : j < l.length), ∃ ad, A0 = some ad ∧ w.cell? (ad.add j) = some (bv l[j])) := ⟨hc3, hc4⟩
    have HFI : Hid (l.length ≤ 1087) := by show _ ≤ _; have h1 := HT.out.fits; have h2 := HT.out.h2; show l.length ≤ 1087; simp only at h1; omega
    have HXC : Hid (∀ w', Only [] w w' → ∀ j (hj : j < b.length), ∃ ad, A = some ad ∧ w'.cell? (ad.add j) = some (bv b[j])) := by
      show ∀ w', _
      intro w' ho j hj
      obtain ⟨ad, e1, e2, _, e3⟩ := HB.out j hj
      exact ⟨ad, e1, (ho.cell (p := ad.add j) (by rw [block_add]; exact e2) (by simp)).trans e3⟩
    unfold maxLen at hc2
    obtain ⟨c, hc⟩ : ∃ c, c = l.length := ⟨_, rfl⟩
    rw [← hc] at hc1 HV
    have d3 := HV.out.c3
    have HCE2 := Lib.hid hc
    clear hc hc3 hc4
    go_enter Try.func12, Try.ntmps12
    go_wp2_with (at_builtin; refine wpList_append_bytes rfl (.const (.slice none 0 0)) (.tmp 29) rfl (g + 1) (.slice none 0 0) [] rfl (KeptAt.nil _ _) A0 c cap0 l rfl HCE2.out HS0.out.1 HS0.out.2 (by have := HFI.out; simp; omega) (by have := HV.out.lt; omega) ?_)
    intro v2 w2 HK2 HO2 hv2
    have HO2' : Hid (Only [] w w2) := HO2.out
    have HK2' : Hid (KeptAt w2 (g + 1) v2 l) := HK2.out
    have HOv : Hid (∀ x ∈ ownL v2, x = w.heap.size) := by
      show ∀ x ∈ _, _
      intro x hx
      rcases hv2 x hx with h | h
      · simp [ownL, Value.ownBlock] at h
      · exact h
    clear hv2 HO2 HK2 h3 h4 d2 d4
    go_wp2_with (at_builtin; refine wpList_append_bytes rfl (.tmp 30) (.tmp 31) rfl (g + 1) _ l rfl HK2'.out A bl cap b rfl HBL.out HCN.out (HXC.out w2 HO2'.out) (by have := HFI.out; have := HBS.out; omega) (by have := HV.out.lt; have := HO2'.out.size; omega) ?_)
    intro v3 w3 HK3 HO3 _
    have HO3' : Hid (Only [] w w3) := by
      show Only _ _ _
      exact HO2'.out.next HO3.out (fun x hx => .inr (Nat.le_of_eq (HOv.out x hx).symm))
    obtain ⟨A3, cap3, hs3, _, _⟩ := HK3.out.slice
    subst hs3
    obtain ⟨W4, hW4⟩ : ∃ W4, W4 = w3.setCell ⟨g, 3, none⟩ (.slice A3 (l ++ b).length cap3) := ⟨_, rfl⟩
    have HI4 : Hid (MsIn W4 g H L 1 false (.slice A3 (l ++ b).length cap3) (l ++ b)) := by show MsIn _ _ _ _ _ _ _ _; rw [hW4]; exact HV.out.set3 HO3'.out HK3.out
    have HO4 : Hid (Only [g] w W4) := by show Only _ _ _; rw [hW4]; exact (HO3'.out.mono (by simp)).setCell (p := ⟨g, 3, none⟩) (by simp) _
    have HV3 := Lib.hid (HV.out.only HO3'.out (by simp))
    have d3' := HV3.out.c3
    have z3 := HV3.out.z3
    clear d3
    obtain ⟨n3, hn3⟩ : ∃ n3, n3 = (l ++ b).length := ⟨_, rfl⟩
    rw [← hn3] at hW4 HI4
    have HN3 := Lib.hid hn3
    have hn3b : n3 ≤ 5000 := by rw [hn3, List.length_append]; have := HFI.out; have := HBS.out; omega
    obtain ⟨F, hF⟩ : ∃ F : World → Prop, ∀ W, F W ↔ (W.cell? ⟨g, 0, none⟩ = some (.int .i64 (H : Int)) ∧ W.cell? ⟨g, 3, none⟩ = some (.slice A3 n3 cap3)) := ⟨_, fun _ => Iff.rfl⟩
    have HI5 := Lib.hid (HI4.out.only ((Only.refl [] W4).drew) (by simp))
    have HF : Hid (F W4.drew) := (hF _).2 ⟨HI5.out.c0, HI5.out.c3⟩
    have hx0 : ∀ p : Held F, p.w.cell? ⟨g, 0, none⟩ = some (.int .i64 (H : Int)) := fun p => ((hF _).1 p.h).1
    have hx3 : ∀ p : Held F, p.w.cell? ⟨g, 3, none⟩ = some (.slice A3 n3 cap3) := fun p => ((hF _).1 p.h).2
    have HFE := Lib.hid hF
    clear hF
    rw [← hn3]
    clear hn3
    go_wp2_with fail
    rw [← hW4]
    clear hW4 d3' z3
    refine mix_start F (by kernel_rfl) ?_
    have hne : Nonempty (Held F) := ⟨⟨W4.drew, HF.out⟩⟩
    refine mix_seg [0, 1, 2, 3, 4, 5, 6, 7, 8, 9, 10, 11, 12] (by kernel_rfl) HF.out ?_
    simp only [segOf, pickOps, pickOp]
    repeat (go_big_quiet_step (fail))
    refine wpQuiet_nil ?_
    refine mix_run 13 (by kernel_rfl) ?_
    simp only [segOf, pickOps, pickOp]
    have d4 := HI4.out.c4
    have z4 := HI4.out.z4
    clear hx0 hx3 hne
    obtain ⟨W5, hW5⟩ : ∃ W5, W5 = (W4.setCell ⟨g, 4, none⟩ (.bool (decide (H ≤ n3)))).drew := ⟨_, rfl⟩
    have HI6 : Hid (MsIn W5 g H L 1 (decide (H ≤ n3)) (.slice A3 n3 cap3) (l ++ b)) := by show MsIn _ _ _ _ _ _ _ _; rw [hW5]; exact (HI4.out.set4 _).only ((Only.refl [] _).drew) (by simp)
    have HF5 : Hid (F W5) := (HFE.out _).2 ⟨HI6.out.c0, HI6.out.c3⟩
    have HO5 : Hid (Only [g] w W5) := by show Only _ _ _; rw [hW5]; exact (HO4.out.setCell (p := ⟨g, 4, none⟩) (by simp) _).drew
    go_wp2_with fail
    rw [← hW5]
    clear hW5 d4 z4
    refine MixPost.normal HF5.out ?_
    refine mix_done (by kernel_rfl) ?_
    clear HF HF5 HFE
    go_wp2_with fail
    go_ret
    refine ⟨rfl, ⟨⟨.slice A3 n3 cap3, ?_⟩, HOK.out⟩, HO5.out⟩
    show MsIn W5 g H L 1 (decide (H ≤ (l ++ b).length)) _ (l ++ b)
    rw [← HN3.out]
    exact HI6.out
end Go.Proofs.Ytaadffheadimpaa
