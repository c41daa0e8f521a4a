/-
  The contract of the document's own Put over this seat's program. Conditions: the bytes put lie where the slice says.
-/
import Derived.Test.YtbafbcemffhjbaaRRef
namespace Go.Proofs.Ytbafbcemffhjbaa
open Go.RowKit

set_option maxHeartbeats 3200000 in
theorem bfPut_any (g m : Nat) (l : List UInt8) (A : Option Addr) (bl cap : Nat) (b : List UInt8) (w : World) (hw : BfAt w g m l) (hbl : bl = b.length) (hcn : A = none → cap = 0) (hb : BArg w [] A b) (hcap : b.length ≤ cap) (_hcm : cap ≤ maxLen) :
    Calls Try.prog 11 #[.pointer (some ⟨g, 0, none⟩), .slice A bl cap] w fun e w' => e = .returned (.int .i64 (roomed m l b : Nat)) ∧ BfAt w' g m (l ++ b.take (roomed m l b)) ∧ Only [g] w w' := by
  unfold maxLen at _hcm
  obtain ⟨k, hk⟩ : ∃ k, k = roomed m l b := ⟨_, rfl⟩
  have hke : k = min b.length (m - l.length) := hk
  rw [← hk]
  obtain ⟨v, hv⟩ := hw
  obtain ⟨A0, cap0, hs, hc1, hc2, hc3, hc4⟩ := hv.row.source
  subst hs
  unfold maxLen at hc2
  have hfit := hv.fits
  have hmost := hv.most
  have HV := Lib.hid hv
  have HB := Lib.hid hb
  have HCN := Lib.hid hcn
  have HC3 := Lib.hid hc3
  have HC4 := Lib.hid hc4
  have HBL := Lib.hid hbl
  obtain ⟨X, hX⟩ : ∃ X, X = b.take k := ⟨_, rfl⟩
  have HXL : Hid (X.length = k) := by show _ = _; rw [hX, List.length_take]; omega
  have HXC : Hid (∀ w', Only [] w w' → ∀ j (hj : j < X.length), ∃ ad, A = some ad ∧ w'.cell? (ad.add j) = some (bv X[j])) := by
    show ∀ w', _
    intro w' ho j hj
    subst hX
    obtain ⟨ad, e1, e2, _, e3⟩ := hb j (by simp at hj; omega)
    refine ⟨ad, e1, ?_⟩
    rw [ho.cell (p := ad.add j) (by rw [block_add]; exact e2) (by simp), e3]
    simp
  rw [← hX]
  clear hX hb hcn hc3 hc4 hk hv
  rw [← hbl] at hke hcap
  clear hbl
  obtain ⟨c, hc⟩ : ∃ c, c = l.length := ⟨_, rfl⟩
  rw [← hc] at hke hc1 hfit HV
  have HC := Lib.hid hc
  clear hc
  obtain ⟨r, hr⟩ : ∃ r, m = c + r := ⟨m - c, by omega⟩
  subst hr
  have hrr : c + r - c = r := by omega
  rw [hrr] at hke
  clear hrr
  have hcase : (bl ≤ r ∧ k = bl) ∨ (¬ bl ≤ r ∧ k = r) := by omega
  have HKL : Hid (k ≤ bl ∧ k ≤ r ∧ k ≤ cap) := by show _ ∧ _; omega
  clear hke
  have hd0 := HV.out.c0
  have hd1 := HV.out.c1
  obtain ⟨M, hM⟩ : ∃ M, M = c + r := ⟨_, rfl⟩
  rw [← hM] at HV ⊢
  have HM : Hid (c + k ≤ M) := by show _ ≤ _; have := HKL.out; omega
  clear hM
  rcases hcase with ⟨h1, h2⟩ | ⟨h1, h2⟩
  all_goals
    subst h2
    have hkc := HKL.out.2.2
    go_enter Try.func11, Try.ntmps11
    go_wp2_with fail
    go_quiet (fail)
    go_wp2_with fail
    try rw [show ((c : Int) + (k : Int) - (c : Int)) = (k : Int) by omega]
    refine mix_start (fun _ => True) (by kernel_rfl) ?_
    have hne : Nonempty (Held (fun _ => True)) := ⟨⟨w, trivial⟩⟩
    refine mix_seg [0, 1, 2, 3, 6, 7, 8] (by kernel_rfl) trivial ?_
    simp only [segOf, pickOps, pickOp]
    repeat (go_big_quiet_step (fail))
    refine wpQuiet_nil ?_
    obtain ⟨W1, hW1⟩ : ∃ W1, W1 = (w.drewN nq).drew := ⟨_, rfl⟩
    have HO1 : Hid (Only [] w W1) := by show Only _ _ _; rw [hW1]; exact ((Only.refl _ _).drewN nq).drew
    rw [← hW1]
    clear hW1 hne hd0 hd1
    have HV1 := Lib.hid (HV.out.only HO1.out (by simp))
    have hd1 := HV1.out.c1
    refine mix_run 4 (by kernel_rfl) ?_
    simp only [segOf, pickOps, pickOp]
    go_wp2_with fail
    refine MixPost.normal trivial ?_
    refine mix_run 5 (by kernel_rfl) ?_
    simp only [segOf, pickOps, pickOp]
    refine wpList_append_bytes rfl (.const (.slice none 0 0)) (.tmp 23) rfl (g + 1) (.slice none 0 0) [] rfl (KeptAt.nil _ _) A0 c cap0 l rfl HC.out HC3.out (fun j hj => by
      obtain ⟨ad, e1, e2⟩ := HC4.out j hj
      exact ⟨ad, e1, (HO1.out.cell (p := ad.add j) (block_of_cell e2) (by simp)).trans e2⟩) (by have := HC.out; simp; omega) (by have := HV1.out.lt; omega) ?_
    intro v2 w2 HK2 HO2 hv2
    have HO2' : Hid (Only [] W1 w2) := HO2.out
    have HK2' : Hid (KeptAt w2 (g + 1) v2 l) := HK2.out
    obtain ⟨A2, cap2, hs2, _, _⟩ := HK2'.out.slice
    have HS2 := Lib.hid hs2
    have HOv : Hid (∀ x ∈ ownL v2, x = W1.heap.size) := by
      show ∀ x ∈ _, _
      intro x hx
      rcases hv2 x hx with h | h
      · simp [ownL, Value.ownBlock] at h
      · exact h
    clear hv2 HO2 HK2 hs2 hd1
    go_wp2_with fail
    refine MixPost.normal trivial ?_
    refine mix_run 9 (by kernel_rfl) ?_
    simp only [segOf, pickOps, pickOp]
    refine wpList_append_bytes rfl (.tmp 24) (.tmp 27) rfl (g + 1) _ l rfl HK2'.out A k cap X rfl HXL.out.symm HCN.out (HXC.out w2 (HO1.out.trans HO2'.out)) (by have := HC.out; have := HXL.out; have := HKL.out; omega) (by have := HV1.out.lt; have := HO2'.out.size; omega) ?_
    intro v3 w3 HK3 HO3 _
    have HO3' : Hid (Only [] W1 w3) := by
      show Only _ _ _
      exact HO2'.out.next HO3.out (fun x hx => .inr (Nat.le_of_eq (HOv.out x hx).symm))
    obtain ⟨A3, cap3, hs3, _, _⟩ := HK3.out.slice
    subst hs3
    obtain ⟨W4, hW4⟩ : ∃ W4, W4 = w3.setCell ⟨g, 1, none⟩ (.slice A3 (l ++ X).length cap3) := ⟨_, rfl⟩
    have HB4 : Hid (BfAt W4 g M (l ++ X)) := by show BfAt _ _ _ _; rw [hW4]; exact ⟨_, HV1.out.set HO3'.out HK3.out (by rw [List.length_append]; have := HC.out; have := HXL.out; have := HM.out; omega)⟩
    have HO4 : Hid (Only [g] w W4) := by show Only _ _ _; rw [hW4]; exact ((HO1.out.trans HO3'.out).mono (by simp)).setCell (p := ⟨g, 1, none⟩) (by simp) _
    have HV3 := Lib.hid (HV1.out.only HO3'.out (by simp))
    have hd1 := HV3.out.c1
    have hz1 := HV3.out.z1
    generalize (l ++ X).length = n3 at *
    go_wp2_with fail
    refine MixPost.normal trivial ?_
    refine mix_seg [10, 11] (by kernel_rfl) trivial ?_
    simp only [segOf, pickOps, pickOp]
    have hne : Nonempty (Held (fun _ => True)) := ⟨⟨w, trivial⟩⟩
    repeat (go_big_quiet_step (fail))
    refine wpQuiet_nil ?_
    clear hne
    refine mix_run 12 (by kernel_rfl) ?_
    simp only [segOf, pickOps, pickOp]
    go_wp2_with fail
    rw [← hW4]
    refine MixPost.normal trivial ?_
    refine mix_done (by kernel_rfl) ?_
    clear hW4 hd1 hz1
    go_wp2
    go_ret
    exact ⟨rfl, HB4.out, HO4.out⟩
end Go.Proofs.Ytbafbcemffhjbaa
