/-
  Contracts of the document's own answer of layer 5 over this seat's program. Conditions: those of each statement.
-/
import Derived.Test.YtoafncfknllghaaDoorLMeth
import Derived.Test.YtoafncfknllghaaDoorLRef1
namespace Go.Proofs.YtoafncfknllghaaDoor
open Go.RowKit

theorem mfold_comm (a b : List UInt8) : Lk.foldL a b = Lk.foldL b a := by unfold Lk.foldL; exact Bool.beq_comm
/-- a box that holds the six -/
def UsAt (W : World) (g : Nat) : Prop := ∀ (k : Nat) (m : ByteArray), Lk.usL[k]? = some m.data.toList → W.cell? ⟨g, k, none⟩ = some (.string m)
theorem UsAt.new (w : World) (t : TypeId) : UsAt (w.alloc (.cells usA t)) w.heap.size := by
  intro k m h
  have e : ∀ l : List UInt8, l = m.data.toList → (⟨l.toArray⟩ : ByteArray) = m := by intro l h; subst h; exact mk_eq m
  match k, h with
  | 0, h => have h' := e _ (Option.some.inj h); simp [usA, ← h']
  | 1, h => have h' := e _ (Option.some.inj h); simp [usA, ← h']
  | 2, h => have h' := e _ (Option.some.inj h); simp [usA, ← h']
  | 3, h => have h' := e _ (Option.some.inj h); simp [usA, ← h']
  | 4, h => have h' := e _ (Option.some.inj h); simp [usA, ← h']
  | 5, h => have h' := e _ (Option.some.inj h); simp [usA, ← h']
  | k + 6, h => cases h
theorem UsAt.below {W W' : World} {g : Nat} (o : UsAt W g) (hb : Below W.heap.size W W') : UsAt W' g := by
  intro k m h
  have := o k m h
  exact (hb.cell (block_of_cell this)).trans this
theorem us_at (k : Nat) (h : k < 6) : ∃ m : ByteArray, Lk.usL[k]? = some m.data.toList ∧ m.size ≤ 7 := by
  obtain ⟨m, h1, h2, _⟩ := us_view k h
  exact ⟨m, h1, h2⟩

set_option maxHeartbeats 1000000 in
theorem refMNorm_any (s : ByteArray) (w : World) (hs : s.size ≤ maxLen) :
    Calls Tryd.prog 47 #[.string s] w fun e w' => e = .returned (.string (mk (Lk.normL s.data.toList))) ∧ Below w.heap.size w w' := by
  have hu := UsAt.new w 66
  have HU := Lib.hid hu
  clear hu
  go_enter Tryd.func47, Tryd.ntmps47
  go_wp2
  go_loopw [4] (fun i wr => ∃ k : Nat, k ≤ 6 ∧ i = .int .i64 k ∧ Below w.heap.size w wr ∧ UsAt wr w.heap.size ∧ (Lk.usL.take k).find? (fun x => Lk.foldL x s.data.toList) = none) (fun i _ => 6 - (intOf i).toNat)
  case atStart => exact ⟨0, Nat.zero_le _, rfl, (Below.refl _ _).alloc (Nat.le_refl _) _, HU.out, rfl⟩
  case round =>
    obtain ⟨k, hk, rfl, hb, hu, hf⟩ := hrel
    have HF := Lib.hid hf
    have HB := Lib.hid hb
    have HV := Lib.hid hu
    clear hf hb hu
    by_cases hlt : k < 6
    · obtain ⟨m, hm, hz⟩ := us_at k hlt
      have HM := Lib.hid hm
      have hc1 := HV.out k m hm
      clear hm
      cases hc : Lk.foldL m.data.toList s.data.toList
      · have HC := Lib.hid hc
        clear hc
        go_wp2_with fail
        refine (refFold_any s m _ hs (by unfold maxLen; omega)).mono ?_
        rintro e w1 ⟨rfl, hb1⟩
        rw [mfold_comm, HC.out]
        have HB1 := Lib.hid hb1
        clear hb1 hc1
        go_wp2
        go_roundw
        case rel => exact ⟨k + 1, by omega, by go_num, HB.out.trans (HB1.out.mono HB.out.size), HV.out.below HB1.out, find_next HM.out HF.out HC.out⟩
        case measure => simp [intOf]; omega
      · have HC := Lib.hid hc
        clear hc
        go_wp2_with fail
        refine (refFold_any s m _ hs (by unfold maxLen; omega)).mono ?_
        rintro e w1 ⟨rfl, hb1⟩
        rw [mfold_comm, HC.out]
        have hc2 := (hb1.cell (block_of_cell hc1)).trans hc1
        have HB1 := Lib.hid hb1
        clear hb1 hc1
        go_wp2
        go_ret
        exact ⟨ret_string (by rw [Lk.normL, find_here HM.out HF.out HC.out]; exact (mk_eq m).symm), HB.out.trans (HB1.out.mono HB.out.size)⟩
    · obtain rfl : k = 6 := by omega
      go_wp2
      go_ret
      exact ⟨ret_string (by rw [Lk.normL, show Lk.usL = Lk.usL.take 6 from rfl, HF.out]; exact (mk_eq s).symm), HB.out⟩

theorem bars_3 (s : List UInt8) : Lk.barsL s = (Lk.foldL s [67, 79, 78, 78, 69, 67, 84] || Lk.foldL s [84, 82, 65, 67, 69] || Lk.foldL s [84, 82, 65, 67, 75]) := by
  rw [mfold_comm s, mfold_comm s, mfold_comm s]
  unfold Lk.barsL Lk.baL
  simp [Bool.or_assoc]

set_option maxHeartbeats 1000000 in
theorem refSafe_any (s : ByteArray) (w : World) (hs : s.size ≤ maxLen) :
    Calls Tryd.prog 36 #[.string s] w fun e w' => e = .returned (.bool (Lk.safeL s.data.toList)) ∧ Below w.heap.size w w' := by
  obtain ⟨r, hr⟩ : ∃ r, r = mk (Lk.normL s.data.toList) := ⟨_, rfl⟩
  have HS : Hid (Lk.safeL s.data.toList = ((r.toList == [71, 69, 84]) || (r.toList == [72, 69, 65, 68]) || (r.toList == [80, 79, 83, 84]))) := by
    show _ = _
    simp only [beq_bytes, hr, mk_data]; rfl
  go_enter Tryd.func36, Tryd.ntmps36
  go_wp2_with fail
  refine (refMNorm_any s _ hs).mono ?_
  rintro e w1 ⟨rfl, hb⟩
  rw [← hr]
  have HB := Lib.hid hb
  clear hb hr
  cases c1 : r.toList == [71, 69, 84] <;> cases c2 : r.toList == [72, 69, 65, 68] <;> cases c3 : r.toList == [80, 79, 83, 84]
  all_goals
    have HQ := HS
    rw [c1, c2, c3] at HQ
    go_wp2
    go_ret
    exact ⟨ret_bool HQ.out.symm, HB.out⟩
end Go.Proofs.YtoafncfknllghaaDoor
