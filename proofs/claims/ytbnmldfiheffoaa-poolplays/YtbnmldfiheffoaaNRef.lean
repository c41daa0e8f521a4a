/-
  The contracts of the document's own New, at, Used, Has and Free of hosts over this seat's program. Conditions: the table lies there.
-/
import Derived.Test.YtbnmldfiheffoaaNKeys
namespace Go.Proofs.Ytbnmldfiheffoaa
open Go.RowKit

set_option maxHeartbeats 800000 in
theorem tNew_any (n : Int) (w : World) :
    Calls Try.prog 31 #[.int .i64 n] w fun e w' => e = .returned (.pointer (some ⟨w.heap.size, 0, none⟩)) ∧ TbAt 102 w' w.heap.size (clampT n) (.slice none 0 0) [] ∧ Only [] w w' ∧ w'.heap.size = w.heap.size + 1 := by
  have hb := clampT_bd n
  obtain ⟨m, hm⟩ : ∃ m, m = clampT n := ⟨_, rfl⟩
  rw [← hm] at hb ⊢
  obtain ⟨z, hz⟩ : ∃ z : Int, z = (m : Int) := ⟨_, rfl⟩
  obtain ⟨W, hW⟩ : ∃ W, W = w.alloc (.cells #[.int .i64 z, .slice none 0 0] 76) := ⟨_, rfl⟩
  have HH : Hid (TbAt 102 W w.heap.size m (.slice none 0 0) []) := by show TbAt _ _ _ _ _ _; rw [hW, hz]; exact ⟨⟨by simp, by simp, by simp⟩, URow.nil _ _ _, HoOk.new hb.1 hb.2⟩
  have HO : Hid (Only [] w W) := by show Only _ _ _; rw [hW]; exact (Only.refl _ _).alloc _
  have HS : Hid (W.heap.size = w.heap.size + 1) := by show _ = _; rw [hW]; simp
  clear hb
  unfold clampT at hm
  by_cases h1 : n < 1
  · rw [if_pos h1] at hm
    obtain rfl : z = 1 := by omega
    clear hm hz
    go_enter Try.func31, Try.ntmps31
    go_wp2_with fail
    rw [← hW]
    clear hW
    go_wp2
    go_ret
    exact ⟨rfl, HH.out, HO.out, HS.out⟩
  rw [if_neg h1] at hm
  by_cases h2 : 32 < n
  · rw [if_pos h2] at hm
    obtain rfl : z = 32 := by omega
    clear hm hz
    have h3 : ¬ n ≤ 32 := by omega
    go_enter Try.func31, Try.ntmps31
    go_wp2_with fail
    rw [← hW]
    clear hW
    go_wp2
    go_ret
    exact ⟨rfl, HH.out, HO.out, HS.out⟩
  · rw [if_neg h2] at hm
    obtain rfl : z = n := by omega
    have h3 : z ≤ 32 := by omega
    clear hm hz
    go_enter Try.func31, Try.ntmps31
    go_wp2_with fail
    rw [← hW]
    clear hW
    go_wp2
    go_ret
    exact ⟨rfl, HH.out, HO.out, HS.out⟩

set_option maxHeartbeats 1200000 in
/-- the place of a host -/
theorem tat_any (g M : Nat) (v : Value) (l : List Ho) (key : ByteArray) (w : World) (h : TbAt 102 w g M v l) :
    Calls Try.prog 55 #[.pointer (some ⟨g, 0, none⟩), .string key] w fun e w' => e = .returned (.int .i64 (placeI (keyB key) l)) ∧ w = w' := by
  obtain ⟨A, cap, rfl, hlc, hcm⟩ := h.room
  have HT := Lib.hid h
  have hc1 := h.head.c1
  clear h
  go_enter Try.func55, Try.ntmps55
  go_wp2
  go_loop [5] (fun i => ∃ k : Nat, k ≤ l.length ∧ i = .int .i64 k ∧ ∀ j, j < k → keyB key (nthH l j) = false) (fun i => l.length - (intOf i).toNat)
  case atStart => exact ⟨0, Nat.zero_le _, rfl, fun j hj => by omega⟩
  case round =>
    obtain ⟨k, hk, rfl, hn⟩ := hrel
    have HN := Lib.hid hn
    clear hn
    by_cases hlt : k < l.length
    · obtain ⟨gr, rfl, ⟨f1, f2⟩, _⟩ := HT.out.at_ hlt
      obtain ⟨x, hx⟩ : ∃ x, x = nthH l k := ⟨_, rfl⟩
      rw [← hx] at f1 f2
      have HX := Lib.hid hx
      clear hx
      obtain ⟨x1, x2⟩ := x
      simp only at f1 f2
      obtain ⟨q, hq⟩ : ∃ q, q = keyB key (x1, x2) := ⟨_, rfl⟩
      have HQ := Lib.hid hq
      have hbe : (x1.toList == key.toList) = q := by rw [hq]; rfl
      clear hq
      cases q with
      | true =>
        have HF : Hid (l.findIdx (keyB key) = k) := by
          refine place_first hlt ?_ HN.out
          rw [← HX.out]; exact HQ.out.symm
        go_wp2
        go_ret
        exact ⟨ret_int (by rw [placeI_yes (by rw [HF.out]; exact hlt), HF.out]), rfl⟩
      | false =>
        go_wp2
        go_round
        case rel =>
          refine ⟨k + 1, by omega, by go_num, fun j hj => ?_⟩
          by_cases e : j = k
          · subst e; rw [← HX.out]; exact HQ.out.symm
          · exact HN.out j (by omega)
        case measure => simp [intOf]; omega
    · have HF : Hid (placeI (keyB key) l = -1) := by
        refine placeI_no (fun h => ?_)
        have h1 := place_hit h
        rw [HN.out _ (by omega)] at h1
        cases h1
      go_wp2
      go_ret
      exact ⟨ret_int HF.out.symm, rfl⟩

set_option maxHeartbeats 800000 in
theorem tHas_any (g M : Nat) (v : Value) (l : List Ho) (key : ByteArray) (w : World) (h : TbAt 102 w g M v l) :
    Calls Try.prog 35 #[.pointer (some ⟨g, 0, none⟩), .string key] w fun e w' => e = .returned (.bool (hasC l key)) ∧ w = w' := by
  have HT := Lib.hid h
  have HP : Hid (decide (placeI (keyB key) l ≥ 0) = hasC l key) := by
    show _ = _
    unfold hasC placeI
    by_cases hp : l.findIdx (keyB key) < l.length
    · rw [if_pos hp, decide_eq_true hp]; simp
    · rw [if_neg hp, decide_eq_false hp]; rfl
  clear h
  generalize hasC l key = q at *
  obtain ⟨i, hi⟩ : ∃ i, i = placeI (keyB key) l := ⟨_, rfl⟩
  have HI := Lib.hid hi
  rw [← hi] at HP
  clear hi
  go_enter Try.func35, Try.ntmps35
  go_wp2_with fail
  refine (tat_any g M v l key w HT.out).mono ?_
  rintro e w1 ⟨rfl, rfl⟩
  rw [← HI.out]
  go_wp2
  go_ret
  exact ⟨ret_bool HP.out, rfl⟩

set_option maxHeartbeats 1200000 in
theorem tFree_any (g M : Nat) (v : Value) (l : List Ho) (key : ByteArray) (w : World) (h : TbAt 102 w g M v l) :
    Calls Try.prog 42 #[.pointer (some ⟨g, 0, none⟩), .string key] w fun e w' => e = .returned (.int .i64 (freeC l key : Int)) ∧ TbAt 102 w' g M v (freeS l key) ∧ Only (ownL v) w w' := by
  obtain ⟨A, cap, rfl, hlc, hcm⟩ := h.room
  have HT := Lib.hid h
  obtain ⟨k, hk⟩ : ∃ k, k = l.findIdx (keyB key) := ⟨_, rfl⟩
  have HK := Lib.hid hk
  have hc1 := h.head.c1
  by_cases hp : k < l.length
  · have HP : Hid (placeI (keyB key) l = (k : Int)) := by show _ = _; rw [placeI_yes (by rw [← hk]; exact hp), ← hk]
    have hkey : (nthH l k).1 = key := keyB_iff.1 (by rw [hk]; exact place_hit (by rw [← hk]; exact hp))
    have hsix := h.ok.six _ (nthH_mem hp)
    clear hk
    obtain ⟨gr, rfl, ⟨f1, f2⟩, hgr⟩ := h.at_ hp
    have HGR := Lib.hid hgr
    have HOKF := Lib.hid (h.ok.free key)
    have hz := h.row.thaw rfl (k * 2 + 1)
    clear h hgr
    by_cases hu : (nthH l k).2 = 0
    · have HE : Hid (freeC l key = 12 ∧ freeS l key = l) := by show _ ∧ _; unfold freeC freeS; rw [← HK.out, if_pos hp, if_pos hp, if_pos hu, if_pos hu]; exact ⟨rfl, rfl⟩
      rw [HE.out.1, HE.out.2]
      rw [hu] at f2
      clear hu hsix hkey hz
      go_enter Try.func42, Try.ntmps42
      go_wp2_with fail
      refine (tat_any g M _ l key w HT.out).mono ?_
      rintro e w1 ⟨rfl, rfl⟩
      rw [HP.out]
      go_wp2
      go_ret
      exact ⟨rfl, HT.out, Only.refl _ _⟩
    · obtain ⟨m, hm⟩ : ∃ m, (nthH l k).2 = m + 1 := ⟨(nthH l k).2 - 1, by omega⟩
      have hm6 : m ≤ 5 := by omega
      have HE : Hid (freeC l key = 0 ∧ freeS l key = l.set k ((nthH l k).1, m)) := by show _ ∧ _; unfold freeC freeS; rw [← HK.out, if_pos hp, if_pos hp, if_neg hu, if_neg hu, hm, hkey]; exact ⟨rfl, rfl⟩
      rw [hm] at f2
      clear hu hsix hkey hm
      rw [HE.out.1]
      obtain ⟨W2, hW2⟩ : ∃ W2, W2 = w.setCell ⟨gr, k * 2 + 1, none⟩ (.int .i64 (m : Int)) := ⟨_, rfl⟩
      have HG : Hid (g < gr) := (HT.out.own HGR.out).1
      have HT2 : Hid (TbAt 102 W2 g M (.slice (some ⟨gr, 0, none⟩) l.length cap) (freeS l key)) := by
        show TbAt _ _ _ _ _ _
        refine ⟨HT.out.head.only (f := [gr]) ?_ (by have := HG.out; simp; omega), ?_, HOKF.out⟩
        · rw [hW2]; exact (Only.refl _ _).setCell (p := ⟨gr, _, none⟩) (by simp) _
        · rw [HE.out.2, hW2]
          exact HT.out.row.set1 rfl k m
      have HO2 : Hid (Only (ownL (.slice (some ⟨gr, 0, none⟩) l.length cap)) w W2) := by
        show Only _ _ _
        rw [hW2]
        exact (Only.refl _ _).setCell (p := ⟨gr, _, none⟩) HGR.out _
      have HW2 := Lib.hid hW2
      clear hW2
      go_enter Try.func42, Try.ntmps42
      go_wp2_with fail
      refine (tat_any g M _ l key w HT.out).mono ?_
      rintro e w1 ⟨rfl, rfl⟩
      rw [HP.out]
      go_wp2_with fail
      rw [← HW2.out]
      clear f1 f2 hz hc1
      go_wp2
      go_ret
      exact ⟨rfl, HT2.out, HO2.out⟩
  · have HE : Hid (freeC l key = 11 ∧ freeS l key = l) := by show _ ∧ _; unfold freeC freeS; rw [← hk, if_neg hp, if_neg hp]; exact ⟨rfl, rfl⟩
    have HP : Hid (placeI (keyB key) l = -1) := placeI_no (by rw [← hk]; exact hp)
    rw [HE.out.1, HE.out.2]
    clear hk h
    go_enter Try.func42, Try.ntmps42
    go_wp2_with fail
    refine (tat_any g M _ l key w HT.out).mono ?_
    rintro e w1 ⟨rfl, rfl⟩
    rw [HP.out]
    go_wp2
    go_ret
    exact ⟨rfl, HT.out, Only.refl _ _⟩
end Go.Proofs.Ytbnmldfiheffoaa
