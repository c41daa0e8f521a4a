/-
  Contracts of the document's own answer of layer 5 over this seat's program. Conditions: those of each statement.
-/
import Derived.Test.YtlkneapidmdpbaaGreatDoorLMeth
import Derived.Test.YtlkneapidmdpbaaGreatDoorLRef1
namespace Go.Proofs.YtlkneapidmdpbaaGreatDoor
open Go.RowKit

theorem mfold_comm (a b : List UInt8) : Lk.foldL a b = Lk.foldL b a := by unfold Lk.foldL; exact Bool.beq_comm
/-- a box that holds the six -/
def UsAt (W : World) (g : Nat) : Prop := ∀ (k : Nat) (m : ByteArray), Lk.usL[k]? = some m.data.toList → W.cell? ⟨g, k, none⟩ = some (.string m)
theorem UsAt.new (w : World) (t : TypeId) : UsAt (w.alloc (.cells usA t)) w.heap.size := by
  intro k m h
  have e : ∀ l : List UInt8, l = m.data.toList → (⟨l.toArray⟩ : ByteArray) = m := by intro l h; subst h; exact mk_eq m
  match k, h with
  | 0, h => have h' := e _ (Option.some.inj h); simp [usA, ← h']
  | 1, h => have h' := e _ (Option.some.inj h); simp [usA, ← h']
  | 2, h => have h' := e _ (Option.some.inj h); simp [usA, ← h']
  | 3, h => have h' := e _ (Option.some.inj h); simp [usA, ← h']
  | 4, h => have h' := e _ (Option.some.inj h); simp [usA, ← h']
  | 5, h => have h' := e _ (Option.some.inj h); simp [usA, ← h']
  | k + 6, h => cases h
theorem UsAt.below {W W' : World} {g : Nat} (o : UsAt W g) (hb : Below W.heap.size W W') : UsAt W' g := by
  intro k m h
  have := o k m h
  exact (hb.cell (block_of_cell this)).trans this
theorem us_at (k : Nat) (h : k < 6) : ∃ m : ByteArray, Lk.usL[k]? = some m.data.toList ∧ m.size ≤ 7 := by
  obtain ⟨m, h1, h2, _⟩ := us_view k h
  exact ⟨m, h1, h2⟩

set_option maxHeartbeats 1000000 in
theorem refMNorm_any (s : ByteArray) (w : World) (hs : s.size ≤ maxLen) :
    Calls Tryz.prog 87 #[.string s] w fun e w' => e = .returned (.string (mk (Lk.normL s.data.toList))) ∧ Below w.heap.size w w' := by
  have hu := UsAt.new w 124
  have HU := Lib.hid hu
  clear hu
  go_enter Tryz.func87, Tryz.ntmps87
  go_wp2
  go_loopw [4] (fun i wr => ∃ k : Nat, k ≤ 6 ∧ i = .int .i64 k ∧ Below w.heap.size w wr ∧ UsAt wr w.heap.size ∧ (Lk.usL.take k).find? (fun x => Lk.foldL x s.data.toList) = none) (fun i _ => 6 - (intOf i).toNat)
  case atStart => exact ⟨0, Nat.zero_le _, rfl, (Below.refl _ _).alloc (Nat.le_refl _) _, HU.out, rfl⟩
  case round =>
    obtain ⟨k, hk, rfl, hb, hu, hf⟩ := hrel
    have HF := Lib.hid hf
    have HB := Lib.hid hb
    have HV := Lib.hid hu
    clear hf hb hu
    by_cases hlt : k < 6
    · obtain ⟨m, hm, hz⟩ := us_at k hlt
      have HM := Lib.hid hm
      have hc1 := HV.out k m hm
      clear hm
      cases hc : Lk.foldL m.data.toList s.data.toList
      · have HC := Lib.hid hc
        clear hc
        go_wp2_with fail
        refine (refFold_any s m _ hs (by unfold maxLen; omega)).mono ?_
        rintro e w1 ⟨rfl, hb1⟩
        rw [mfold_comm, HC.out]
        have HB1 := Lib.hid hb1
        clear hb1 hc1
        go_wp2
        go_roundw
        case rel => exact ⟨k + 1, by omega, by go_num, HB.out.trans (HB1.out.mono HB.out.size), HV.out.below HB1.out, find_next HM.out HF.out HC.out⟩
        case measure => simp [intOf]; omega
      · have HC := Lib.hid hc
        clear hc
        go_wp2_with fail
        refine (refFold_any s m _ hs (by unfold maxLen; omega)).mono ?_
        rintro e w1 ⟨rfl, hb1⟩
        rw [mfold_comm, HC.out]
        have hc2 := (hb1.cell (block_of_cell hc1)).trans hc1
        have HB1 := Lib.hid hb1
        clear hb1 hc1
        go_wp2
        go_ret
        exact ⟨ret_string (by rw [Lk.normL, find_here HM.out HF.out HC.out]; exact (mk_eq m).symm), HB.out.trans (HB1.out.mono HB.out.size)⟩
    · obtain rfl : k = 6 := by omega
      go_wp2
      go_ret
      exact ⟨ret_string (by rw [Lk.normL, show Lk.usL = Lk.usL.take 6 from rfl, HF.out]; exact (mk_eq s).symm), HB.out⟩

theorem bars_3 (s : List UInt8) : Lk.barsL s = (Lk.foldL s [67, 79, 78, 78, 69, 67, 84] || Lk.foldL s [84, 82, 65, 67, 69] || Lk.foldL s [84, 82, 65, 67, 75]) := by
  rw [mfold_comm s, mfold_comm s, mfold_comm s]
  unfold Lk.barsL Lk.baL
  simp [Bool.or_assoc]

set_option maxHeartbeats 1000000 in
theorem refBars_any (s : ByteArray) (w : World) (hs : s.size ≤ maxLen) :
    Calls Tryz.prog 169 #[.string s] w fun e w' => e = .returned (.bool (Lk.barsL s.data.toList)) ∧ Below w.heap.size w w' := by
  have HQ := Lib.hid (bars_3 s.data.toList)
  cases c1 : Lk.foldL s.data.toList [67, 79, 78, 78, 69, 67, 84]
  · have H1 : Hid (Lk.foldL s.data.toList (ByteArray.mk #[67, 79, 78, 78, 69, 67, 84]).data.toList = false) := c1
    cases c2 : Lk.foldL s.data.toList [84, 82, 65, 67, 69]
    · have H2 : Hid (Lk.foldL s.data.toList (ByteArray.mk #[84, 82, 65, 67, 69]).data.toList = false) := c2
      obtain ⟨b3, c3⟩ : ∃ b, Lk.foldL s.data.toList [84, 82, 65, 67, 75] = b := ⟨_, rfl⟩
      have H3 : Hid (Lk.foldL s.data.toList (ByteArray.mk #[84, 82, 65, 67, 75]).data.toList = b3) := c3
      rw [c1, c2, c3] at HQ
      clear c1 c2 c3
      go_enter Tryz.func169, Tryz.ntmps169
      go_wp2_with fail
      refine (refFold_any s _ _ hs (by decide)).mono ?_
      rintro e w1 ⟨rfl, hb1⟩
      rw [H1.out]
      go_wp2_with fail
      refine (refFold_any s _ _ hs (by decide)).mono ?_
      rintro e w2 ⟨rfl, hb2⟩
      rw [H2.out]
      go_wp2_with fail
      refine (refFold_any s _ _ hs (by decide)).mono ?_
      rintro e w3 ⟨rfl, hb3⟩
      rw [H3.out]
      have HB : Hid (Below w.heap.size w w3) := (hb1.trans (hb2.mono hb1.size)).trans (hb3.mono (Nat.le_trans hb1.size hb2.size))
      clear hb1 hb2 hb3
      go_wp2
      go_ret
      exact ⟨ret_bool (by rw [HQ.out]; rfl), HB.out⟩
    · have H2 : Hid (Lk.foldL s.data.toList (ByteArray.mk #[84, 82, 65, 67, 69]).data.toList = true) := c2
      rw [c1, c2] at HQ
      clear c1 c2
      go_enter Tryz.func169, Tryz.ntmps169
      go_wp2_with fail
      refine (refFold_any s _ _ hs (by decide)).mono ?_
      rintro e w1 ⟨rfl, hb1⟩
      rw [H1.out]
      go_wp2_with fail
      refine (refFold_any s _ _ hs (by decide)).mono ?_
      rintro e w2 ⟨rfl, hb2⟩
      rw [H2.out]
      have HB : Hid (Below w.heap.size w w2) := hb1.trans (hb2.mono hb1.size)
      clear hb1 hb2
      go_wp2
      go_ret
      exact ⟨ret_bool (by rw [HQ.out]; rfl), HB.out⟩
  · have H1 : Hid (Lk.foldL s.data.toList (ByteArray.mk #[67, 79, 78, 78, 69, 67, 84]).data.toList = true) := c1
    rw [c1] at HQ
    clear c1
    go_enter Tryz.func169, Tryz.ntmps169
    go_wp2_with fail
    refine (refFold_any s _ _ hs (by decide)).mono ?_
    rintro e w1 ⟨rfl, hb1⟩
    rw [H1.out]
    go_wp2
    go_ret
    exact ⟨ret_bool (by rw [HQ.out]; rfl), hb1⟩

set_option maxHeartbeats 1000000 in
theorem refMCheck_any (s : ByteArray) (w : World) (hs : s.size ≤ maxLen) :
    Calls Tryz.prog 126 #[.string s] w fun e w' => e = .returned (.int .i64 (Lk.methI s.data.toList)) ∧ Below w.heap.size w w' := by
  have hlen : s.data.toList.length = s.size := by simp
  have HLen := Lib.hid hlen
  clear hlen
  by_cases hl : s.size ≤ 32
  · cases ht : Lk.tokL s.data.toList
    · have HT := Lib.hid ht
      clear ht
      go_enter Tryz.func126, Tryz.ntmps126
      go_wp2_with fail
      refine (refToken_any s _ hs).mono ?_
      rintro e w' ⟨rfl, rfl⟩
      rw [HT.out]
      go_wp2
      go_ret
      exact ⟨ret_int (meth_tok HT.out).symm, Below.refl _ _⟩
    · have HT := Lib.hid ht
      clear ht
      cases hb : Lk.barsL s.data.toList
      · have HB := Lib.hid hb
        clear hb
        go_enter Tryz.func126, Tryz.ntmps126
        go_wp2_with fail
        refine (refToken_any s _ hs).mono ?_
        rintro e w' ⟨rfl, rfl⟩
        rw [HT.out]
        go_wp2_with fail
        refine (refBars_any s _ hs).mono ?_
        rintro e w1 ⟨rfl, hb1⟩
        rw [HB.out]
        go_wp2
        go_ret
        exact ⟨ret_int (meth_good (by rw [HLen.out]; exact hl) HT.out HB.out).symm, hb1⟩
      · have HB := Lib.hid hb
        clear hb
        go_enter Tryz.func126, Tryz.ntmps126
        go_wp2_with fail
        refine (refToken_any s _ hs).mono ?_
        rintro e w' ⟨rfl, rfl⟩
        rw [HT.out]
        go_wp2_with fail
        refine (refBars_any s _ hs).mono ?_
        rintro e w1 ⟨rfl, hb1⟩
        rw [HB.out]
        go_wp2
        go_ret
        exact ⟨ret_int (meth_bars HB.out).symm, hb1⟩
  · go_enter Tryz.func126, Tryz.ntmps126
    go_wp2
    go_ret
    exact ⟨ret_int (meth_long (by rw [HLen.out]; exact hl)).symm, Below.refl _ _⟩

set_option maxHeartbeats 1000000 in
theorem refSafe_any (s : ByteArray) (w : World) (hs : s.size ≤ maxLen) :
    Calls Tryz.prog 83 #[.string s] w fun e w' => e = .returned (.bool (Lk.safeL s.data.toList)) ∧ Below w.heap.size w w' := by
  obtain ⟨r, hr⟩ : ∃ r, r = mk (Lk.normL s.data.toList) := ⟨_, rfl⟩
  have HS : Hid (Lk.safeL s.data.toList = ((r.toList == [71, 69, 84]) || (r.toList == [72, 69, 65, 68]) || (r.toList == [80, 79, 83, 84]))) := by
    show _ = _
    simp only [beq_bytes, hr, mk_data]; rfl
  go_enter Tryz.func83, Tryz.ntmps83
  go_wp2_with fail
  refine (refMNorm_any s _ hs).mono ?_
  rintro e w1 ⟨rfl, hb⟩
  rw [← hr]
  have HB := Lib.hid hb
  clear hb hr
  cases c1 : r.toList == [71, 69, 84] <;> cases c2 : r.toList == [72, 69, 65, 68] <;> cases c3 : r.toList == [80, 79, 83, 84]
  all_goals
    have HQ := HS
    rw [c1, c2, c3] at HQ
    go_wp2
    go_ret
    exact ⟨ret_bool HQ.out.symm, HB.out⟩
end Go.Proofs.YtlkneapidmdpbaaGreatDoor
