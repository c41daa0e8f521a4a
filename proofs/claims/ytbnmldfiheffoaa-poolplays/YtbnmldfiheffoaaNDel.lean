/-
  The contract of slices.Delete of one host over this seat's program. Conditions: the host is there.
-/
import Derived.Test.YtbnmldfiheffoaaNFind
import Derived.Deep.RegionLaw
import Derived.Lib.SliceRun
namespace Go.Proofs.Ytbnmldfiheffoaa
open Go.RowKit

/-- clear on the last host of a row -/
theorem clear_one (b o c : Nat) (ty : TypeId) (w : World) (hc : ∀ j, j < 2 → (w.cell? ⟨b, o + j, none⟩).isSome = true) (hf : ∀ j, j < 2 → w.frozen? ⟨b, o + j, none⟩ = false) :
    (Builtin.clear_ #[91] ty #[.slice (some ⟨b, o, none⟩) 1 c]).run Try.prog w = .ok (.tuple #[]) (w.setCells b o [.string ⟨#[]⟩, .int .i64 0]) := by
  have hz : ∀ w, (zeroValue 106).run Try.prog w = .ok (.agg #[.string ⟨#[]⟩, .int .i64 0]) w := fun w => by kernel_rfl
  have hzc : (Builtin.zeroCells (Value.agg #[.string ⟨#[]⟩, .int .i64 0]).cells 1).toList = [.string ⟨#[]⟩, .int .i64 0] := by kernel_rfl
  have hst := run_storeCells_cells (P := Try.prog) b o [Value.string ⟨#[]⟩, .int .i64 0] 0 w (by simpa using hc) (by simpa using hf) (by intro v hv; simp at hv; rcases hv with rfl | rfl <;> rfl)
  simp only [Nat.add_zero] at hst
  simp [Builtin.clear_, run_underlying Try.underlying91, hz, hzc, hst]

theorem splice_last {l : List Ho} {k : Nat} (hk : k < l.length) :
    splice (splice (ucs l) (k * 2) (ucs (l.drop (k + 1)))) ((l.length - 1) * 2) [.string ⟨#[]⟩, .int .i64 0] = ucs (l.eraseIdx k) ++ [.string ⟨#[]⟩, .int .i64 0] := by
  have e1 : (ucs (l.drop (k + 1))).length = (l.length - (k + 1)) * 2 := by rw [ucs_len, List.length_drop]
  have e2 : (ucs (l.take k)).length = k * 2 := by rw [ucs_len, List.length_take]; omega
  have h1 : splice (ucs l) (k * 2) (ucs (l.drop (k + 1))) = ucs (l.eraseIdx k) ++ (ucs l).drop ((l.length - 1) * 2) := by
    unfold splice
    rw [List.eraseIdx_eq_take_drop_succ, ucs_append, ucs_take, e1, List.append_assoc, show k * 2 + (l.length - (k + 1)) * 2 = (l.length - 1) * 2 by omega]
  rw [h1]
  have e3 : (ucs (l.eraseIdx k)).length = (l.length - 1) * 2 := by rw [ucs_len, List.length_eraseIdx, if_pos hk]
  unfold splice
  rw [← e3, List.take_left, List.drop_eq_nil_of_le (by rw [List.length_append, List.length_drop, ucs_len l, e3]; show _ ≤ (l.length - 1) * 2 + 2; omega), List.append_nil]
/-- a row of which the k-th is taken out, and the last place cleared -/
theorem row_del {e : TypeId} {w : World} {base g cap k : Nat} {l : List Ho} (h : URow e w base (.slice (some ⟨g, 0, none⟩) l.length cap) l) (hk : k < l.length) :
    URow e ((w.setCells g (k * 2) (ucs (l.drop (k + 1)))).setCells g ((l.length - 1) * 2) [.string ⟨#[]⟩, .int .i64 0]) base (.slice (some ⟨g, 0, none⟩) (l.length - 1) cap) (l.eraseIdx k) := by
  have hl : (l.eraseIdx k).length = l.length - 1 := by rw [List.length_eraseIdx, if_pos hk]
  have e1 : (ucs (l.drop (k + 1))).length = (l.length - (k + 1)) * 2 := by rw [ucs_len, List.length_drop]
  have h1 := row_cells (ucs (l.drop (k + 1))) (k * 2) w _ h
  rw [setL_splice _ _ _ (by rw [e1, ucs_len]; omega)] at h1
  have h2 := row_cells [.string ⟨#[]⟩, .int .i64 0] ((l.length - 1) * 2) _ _ h1
  rw [setL_splice _ _ _ (by rw [length_splice _ _ _ (by rw [e1, ucs_len]; omega), ucs_len]; simp; omega), splice_last hk] at h2
  have h3 := row_cut h2 (by omega)
  rw [hl] at h3
  exact h3
theorem cell_from {e : TypeId} {w : World} {base g n cap : Nat} {l : List Ho} (h : URow e w base (.slice (some ⟨g, 0, none⟩) n cap) l) (hn : n = l.length) (j : Nat) (hj : j < n * 2) : (w.cell? ⟨g, j, none⟩).isSome = true ∧ w.frozen? ⟨g, j, none⟩ = false := by
  subst hn
  refine ⟨?_, h.thaw rfl j⟩
  unfold URow at h
  rw [h.cellAt j (by omega), List.getElem?_eq_getElem (by rw [ucs_len]; omega)]
  rfl

set_option maxRecDepth 20000 in
set_option maxHeartbeats 2000000 in
theorem del_any (base g cap k j n : Nat) (l : List Ho) (w : World) (hn : n = l.length) (hj : j = k + 1) (hr : URow 106 w base (.slice (some ⟨g, 0, none⟩) n cap) l) (hk : k < n) (hnc : n ≤ cap) (_hcm : cap ≤ 9223372036854775807) :
    Calls Try.prog 79 #[.slice (some ⟨g, 0, none⟩) n cap, .int .i64 (k : Int), .int .i64 (j : Int)] w fun e w' => e = .returned (.slice (some ⟨g, 0, none⟩) (n - 1) cap) ∧ URow 106 w' base (.slice (some ⟨g, 0, none⟩) (n - 1) cap) (l.eraseIdx k) ∧ Only [g] w w' := by
  obtain ⟨i0, hi, hz0, hz1, hz2⟩ := info_partsU infoU
  obtain ⟨W0, hW0⟩ : ∃ W0, W0 = w.drew := ⟨_, rfl⟩
  have HR0 : Hid (URow 106 W0 base (.slice (some ⟨g, 0, none⟩) n cap) l) := by show URow _ _ _ _ _; rw [hW0]; exact World.ownsRow.drew hr
  have HO0 : Hid (Only [g] w W0) := by show Only _ _ _; rw [hW0]; exact (Only.refl _ _).drew
  obtain ⟨news, hnews⟩ : ∃ news, news = ucs (l.drop j) := ⟨_, rfl⟩
  have HL : Hid (news.length = (n - j) * 2) := by show _ = _; rw [hnews, ucs_len, List.length_drop, hn]
  have H1 : Hid (∀ u ∈ news, u.oneCell' = true) := by show ∀ u ∈ _, _; rw [hnews]; exact ucs_one _
  have HNW := Lib.hid hnews
  obtain ⟨A, hA, hsrc⟩ : ∃ A : Addr, (if cap = j then (some (⟨g, 0, none⟩ : Addr)) else some ⟨g, j * 2, none⟩) = some A ∧ Hid (∀ t u, news[t]? = some u → W0.cell? (A.add t) = some u) := by
    by_cases h : cap = j
    · refine ⟨⟨g, 0, none⟩, by simp [h], fun t u hu => ?_⟩
      have h0 : news.length = 0 := by rw [HL.out]; omega
      rw [List.length_eq_zero_iff.1 h0] at hu
      simp at hu
    · refine ⟨⟨g, j * 2, none⟩, by simp [h], fun t u hu => ?_⟩
      have h1 := HR0.out
      subst hn
      unfold URow at h1
      have h2 := World.ownsRow.cells h1 (g := g) rfl (j * 2 + t) u (by rw [← List.getElem?_drop, ucs_drop, ← hnews]; exact hu)
      have e : (⟨g, j * 2, none⟩ : Addr).add t = (⟨g, 0, none⟩ : Addr).add (j * 2 + t) := by unfold Addr.add; split <;> split <;> simp_all
      rw [e]; exact h2
  obtain ⟨W1, hW1⟩ : ∃ W1, W1 = W0.setCells g (k * 2) news := ⟨_, rfl⟩
  obtain ⟨W2, hW2⟩ : ∃ W2, W2 = W1.setCells g ((n - 1) * 2) [.string ⟨#[]⟩, .int .i64 0] := ⟨_, rfl⟩
  have HR2 : Hid (URow 106 W2 base (.slice (some ⟨g, 0, none⟩) (n - 1) cap) (l.eraseIdx k)) := by
    show URow _ _ _ _ _
    rw [hW2, hW1, hnews, hj]
    have h1 := HR0.out
    subst hn
    exact row_del h1 hk
  have HO2 : Hid (Only [g] w W2) := by
    show Only _ _ _
    rw [hW2, hW1]
    exact Only.setCells (by simp) _ _ _ (Only.setCells (by simp) _ _ _ HO0.out)
  have HSP : Hid (∀ t, t < news.length → (W0.cell? ⟨g, 0 + k * 2 + t, none⟩).isSome = true ∧ W0.frozen? ⟨g, 0 + k * 2 + t, none⟩ = false) := by
    show ∀ t, _
    intro t ht
    rw [HL.out] at ht
    exact cell_from HR0.out hn _ (by omega)
  have HR1 : Hid (∀ t, t < n * 2 → (W1.cell? ⟨g, t, none⟩).isSome = true ∧ W1.frozen? ⟨g, t, none⟩ = false) := by
    show ∀ t, _
    intro t ht
    have h0 := HR0.out
    rw [hn] at h0
    have h1 := row_cells news (k * 2) W0 _ h0
    rw [← hW1] at h1
    refine ⟨?_, World.ownsRow.frozenAt h1 t⟩
    rw [h1.cellAt t (by omega), setL_splice _ _ _ (by rw [HL.out, ucs_len]; omega), List.getElem?_eq_getElem (by rw [length_splice _ _ _ (by rw [HL.out, ucs_len]; omega), ucs_len]; omega)]
    rfl
  have hcl : ∀ ty, (Builtin.clear_ #[91] ty #[.slice (some ⟨g, (k + (n - j)) * 2, none⟩) (n - (k + (n - j))) (cap - (k + (n - j)))]).run Try.prog W1 = .ok (.tuple #[]) W2 := by
    intro ty
    rw [show k + (n - j) = n - 1 by omega, show n - (n - 1) = 1 by omega, hW2]
    exact clear_one g ((n - 1) * 2) _ ty W1 (fun t ht => (HR1.out _ (by omega)).1) (fun t ht => (HR1.out _ (by omega)).2)
  have HW1 : Hid (W1 = W0.setCells g (0 + k * 2) news) := by show _ = _; rw [Nat.zero_add]; exact hW1
  have HJ := Lib.hid hj
  have hic : k ≤ cap := by omega
  have hjc : j ≤ cap := by omega
  have hjn : j ≤ n := by omega
  have hkj : ¬ k = j := by omega
  have hkl : k ≤ j := by omega
  have HE : Hid (k + (n - j) = n - 1) := by show _ = _; omega
  subst hW0
  clear hr hn hj hnews hW1 hW2
  go_enter Try.func79, Try.ntmps79
  go_wp2_with fail
  go_region_law (refine step_append_room rfl (.tmp 22) (.tmp 25) 91 rfl 106 i0 2 Try.underlying91 hi hz1 g 0 k cap (by simp [Act.eval, Act.put]) A (n - j) (cap - j) news (by simp [Act.eval, Act.put]) HL.out hsrc.out H1.out (by omega) HSP.out ?_; rw [← HW1.out])
  go_wp2
  go_ret
  exact ⟨congrArg (fun q => Ending.returned (.slice (some ⟨g, 0, none⟩) q cap)) HE.out, HR2.out, HO2.out⟩
end Go.Proofs.Ytbnmldfiheffoaa
