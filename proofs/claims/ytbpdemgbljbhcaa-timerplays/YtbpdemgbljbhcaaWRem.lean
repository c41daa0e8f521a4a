/-
  The contract of heap.remove over this seat's program: the alarm at a place is taken out of the heap. Conditions: at most a thousand alarms; the place is one of theirs.
-/
import Derived.Test.YtbpdemgbljbhcaaWPush
namespace Go.Proofs.Ytbpdemgbljbhcaa
open Go.RowKit

theorem out_eq {l : List Al} {m k : Nat} (h : l.length = m + 1) : (l.set k (nth l m)).take m = outAt l k := by
  unfold outAt; rw [h]; rfl

set_option maxHeartbeats 1200000 in
theorem remove_any (gw : Nat) (most next : Int) (v : Value) (l : List Al) (k : Nat) (w : World) (hw : WAt w gw most next v l) (hh : HeapL l) (hl : l.length ≤ 500) (hk : k < l.length) :
    Calls Try.prog 26 #[.pointer (some ⟨gw, 2, none⟩), .int .i64 k] w fun e w' => e = .returned (.tuple #[]) ∧
      ∃ v' l', WAt w' gw most next v' l' ∧ HeapL l' ∧ (nth l k :: l').Perm l ∧ Only (gw :: ownL v) w w' ∧ ∀ g ∈ ownL v', g ∈ ownL v := by
  obtain ⟨m, hm⟩ : ∃ m, l.length = m + 1 := ⟨l.length - 1, by omega⟩
  rcases hw.row.form with ⟨rfl, rfl⟩ | ⟨g, cap, rfl, hgb, hgs, hnc, hcm⟩
  · simp at hk
  have HW := Lib.hid hw
  have HH := Lib.hid hh
  have HM := Lib.hid hm
  have HR0 := Lib.hid hw.row
  have hmax : cap ≤ 9223372036854775807 := by unfold maxLen at hcm; omega
  rw [hm] at hl hk hnc
  have e1 := hw.row.el rfl (k := m) (by omega)
  have e2 := hw.row.el rfl (k := k) (by omega)
  have z0 := hw.row.thaw rfl
  obtain ⟨b, hb⟩ : ∃ b, b = nth l m := ⟨_, rfl⟩
  obtain ⟨a, ha⟩ : ∃ a, a = nth l k := ⟨_, rfl⟩
  rw [← hb] at e1
  rw [← ha] at e2
  obtain ⟨b1, b2, b3⟩ := b
  obtain ⟨a1, a2, a3⟩ := a
  have HB := Lib.hid hb
  have HA := Lib.hid ha
  have z1 := z0 (k * 3)
  have z2 := z0 (k * 3 + 1)
  have z3 := z0 (k * 3 + 2)
  obtain ⟨f1, f2, f3⟩ := e1
  obtain ⟨g1, g2, g3⟩ := e2
  have hc2 := hw.head.c2
  have hgg : gw ≠ g := by omega
  have HGG := Lib.hid hgg
  have HGS := Lib.hid hgs
  rw [hm] at hc2
  clear ha hb z0 hgg
  obtain ⟨W1, hW1⟩ : ∃ W1, W1 = (((w.setCell ⟨g, k * 3, none⟩ (.int .u64 b1)).setCell ⟨g, k * 3 + 1, none⟩ (.int .i64 b2)).setCell ⟨g, k * 3 + 2, none⟩ (.int .i64 b3)).drew := ⟨_, rfl⟩
  have HO1 : Hid (Only [g] w W1) := by show Only _ _ _; rw [hW1]; exact ((Only.refl _ _).setEl (by simp) k (b1, b2, b3)).drew
  have HR1 : Hid (ARow W1 (gw + 1) (.slice (some ⟨g, 0, none⟩) l.length cap) (l.set k (b1, b2, b3))) := by show ARow _ _ _ _; rw [hW1]; exact World.ownsRow.drew (hw.row.setEl rfl k (b1, b2, b3))
  have HD1 := Lib.hid (hw.head.only HO1.out (by simpa using HGG.out))
  obtain ⟨W2, hW2⟩ : ∃ W2, W2 = W1.setCell ⟨gw, 2, none⟩ (.slice (some ⟨g, 0, none⟩) m cap) := ⟨_, rfl⟩
  have HD2 : Hid (WHead W2 gw most next (.slice (some ⟨g, 0, none⟩) m cap)) := by show WHead _ _ _ _ _; rw [hW2]; exact HD1.out.set2 _
  have HO2 : Hid (Only [gw, g] w W2) := by show Only _ _ _; rw [hW2]; exact (HO1.out.mono (by simp)).setCell (p := ⟨gw, 2, none⟩) (by simp) _
  have HR2 : Hid (ARow W2 (gw + 1) (.slice (some ⟨g, 0, none⟩) m cap) (outAt l k)) := by
    show ARow _ _ _ _
    rw [hW2, ← out_eq HM.out, ← HB.out]
    refine ARow.setBelow ?_ _ _
    have h1 := HR1.out
    rw [show l.length = (l.set k (b1, b2, b3)).length by simp] at h1
    exact h1.cut m (by simp; have := HM.out; omega)
  have hd2 := HD1.out.c2
  have hd3 := HD1.out.z2
  rw [HM.out] at hd2
  have HF : Hid (w.drew.cell? ⟨gw, 2, none⟩ = some (.slice (some ⟨g, 0, none⟩) (m + 1) cap)) := hc2
  rw [hm]
  clear hw hh hm
  go_enter Try.func26, Try.ntmps26
  go_wp2_with fail
  refine mix_start (fun W => W.cell? ⟨gw, 2, none⟩ = some (.slice (some ⟨g, 0, none⟩) (m + 1) cap)) (by kernel_rfl) ?_
  have hne : Nonempty (Held (fun W => W.cell? ⟨gw, 2, none⟩ = some (.slice (some ⟨g, 0, none⟩) (m + 1) cap))) := ⟨⟨w, hc2⟩⟩
  have hx0 : ∀ p : Held (fun W => W.cell? ⟨gw, 2, none⟩ = some (.slice (some ⟨g, 0, none⟩) (m + 1) cap)), p.w.cell? ⟨gw, 2, none⟩ = some (.slice (some ⟨g, 0, none⟩) (m + 1) cap) := fun p => p.h
  refine mix_seg [0, 1, 2, 3, 4, 5, 6, 7, 8] (by kernel_rfl) HF.out ?_
  simp only [segOf, pickOps, pickOp]
  repeat (go_big_quiet_step (fail))
  refine wpQuiet_nil ?_
  refine mix_run 9 (by kernel_rfl) ?_
  simp only [segOf, pickOps, pickOp]
  go_wp2_with fail
  refine MixPost.normal HF.out ?_
  refine mix_seg [10] (by kernel_rfl) HF.out ?_
  simp only [segOf, pickOps, pickOp]
  repeat (go_big_quiet_step (fail))
  refine wpQuiet_nil ?_
  clear hx0
  refine mix_run 11 (by kernel_rfl) ?_
  simp only [segOf, pickOps, pickOp]
  go_wp2_with fail
  rw [← hW1]
  clear hW1
  refine MixPost.normal hd2 ?_
  refine mix_done (by kernel_rfl) ?_
  clear hne
  by_cases hkm : k = m
  · subst hkm
    go_wp2_with fail
    rw [← hW2]
    clear hW2
    refine bodyPost_ret (results_none rfl _ _ _) rfl ?_
    refine ⟨rfl, _, outAt l k, ⟨HD2.out, HR2.out⟩, HH.out.outLast (by have := HM.out; omega) (by have := HM.out; omega), out_perm (by have := HM.out; omega), HO2.out.mono ?_, ?_⟩
    · intro x hx; simpa [ownL, Value.ownBlock] using hx
    · intro x hx; simpa [ownL, Value.ownBlock] using hx
  · have hkmi : ¬ (k : Int) = (m : Int) := by omega
    have hkl : k < m := by omega
    have HSK : Hid (SinkAt (outAt l k) k k) := HH.out.out (by have := HM.out; omega)
    have HOL : Hid (m = (outAt l k).length) := by show _ = _; rw [outAt_len]; have := HM.out; omega
    have HKM := Lib.hid hkm
    clear hkm
    go_wp2_with fail
    rw [← hW2]
    clear hW2
    have hc3 := HD2.out.c2
    go_wp2_with fail
    refine (sink_any (gw + 1) g cap m (outAt l k) k W2 HOL.out HR2.out (by have := HO2.out.size; have := HGS.out; omega) hkl (by omega) HSK.out).mono ?_
    rintro e w3 ⟨rfl, l3, hp3, hs3, hr3, ho3⟩
    have HP3 := Lib.hid hp3
    have HS3 := Lib.hid hs3
    have HR3 := Lib.hid hr3
    have HO3 := Lib.hid ho3
    clear hp3 hs3 hr3 ho3 hc3
    have HD3 := Lib.hid (HD2.out.only HO3.out (by simpa using HGG.out))
    have hc4 := HD3.out.c2
    have HOL3 : Hid (m = l3.length) := by show _ = _; rw [HP3.out.length_eq]; exact HOL.out
    go_wp2_with fail
    refine (rise_any (gw + 1) g cap m l3 k w3 HOL3.out HR3.out (by have := HO3.out.size; have := HO2.out.size; have := HGS.out; omega) hkl (by omega) HS3.out).mono ?_
    rintro e w4 ⟨rfl, l4, hp4, hh4, hr4, ho4⟩
    have HP4 := Lib.hid hp4
    have HH4 := Lib.hid hh4
    have HR4 := Lib.hid hr4
    have HO4 := Lib.hid ho4
    clear hp4 hh4 hr4 ho4 hc4
    have HD4 := Lib.hid (HD3.out.only HO4.out (by simpa using HGG.out))
    go_wp2_with fail
    go_end0
    refine ⟨rfl, _, l4, ⟨HD4.out, HR4.out⟩, HH4.out, ((HP4.out.trans HP3.out).cons _).trans (out_perm (by have := HM.out; omega)), ((HO2.out.next HO3.out (by simp)).next HO4.out (by simp)).mono ?_, ?_⟩
    · intro x hx; simpa [ownL, Value.ownBlock] using hx
    · intro x hx; simpa [ownL, Value.ownBlock] using hx
end Go.Proofs.Ytbpdemgbljbhcaa
