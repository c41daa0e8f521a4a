/-
  The contracts of Table.Used, Has, Free and Keys over this seat's program. Conditions: the table lies there.
-/
import Derived.Test.YtbnmldfiheffoaaNDel
namespace Go.Proofs.Ytbnmldfiheffoaa
open Go.RowKit

/-- a host that is found: where its cells lie -/
theorem TbAt.at_ {e : TypeId} {w : World} {g M : Nat} {A : Option Addr} {cap : Nat} {l : List Ho} (h : TbAt e w g M (.slice A l.length cap) l) {k : Nat} (hk : k < l.length) :
    ∃ gr, A = some ⟨gr, 0, none⟩ ∧ UlAt w gr k (nthH l k) ∧ gr ∈ ownL (.slice A l.length cap) := by
  obtain ⟨gr, cap2, hv2, _, _, _, _⟩ := h.row.some_ (by omega)
  obtain ⟨rfl, rfl⟩ : A = some ⟨gr, 0, none⟩ ∧ cap = cap2 := by
    injection hv2 with e1 e2 e3
    exact ⟨e1, e3⟩
  exact ⟨gr, rfl, h.row.el rfl hk, mem_ownL.2 rfl⟩
theorem TbAt.room {e : TypeId} {w : World} {g M : Nat} {v : Value} {l : List Ho} (h : TbAt e w g M v l) : ∃ A cap, v = .slice A l.length cap ∧ l.length ≤ cap ∧ cap ≤ 9223372036854775807 := by
  obtain ⟨A, cap, e1, e2, e3⟩ := h.row.slice
  unfold maxLen at e3
  exact ⟨A, cap, e1, e2, e3⟩

set_option maxHeartbeats 800000 in
theorem hUsed_any (g M : Nat) (v : Value) (l : List Ho) (key : ByteArray) (w : World) (h : TbAt 106 w g M v l) :
    Calls Try.prog 47 #[.pointer (some ⟨g, 0, none⟩), .string key] w fun e w' => e = .returned (.int .i64 (usedC l key : Int)) ∧ Only [] w w' := by
  obtain ⟨A, cap, rfl, hlc, hcm⟩ := h.room
  have HT := Lib.hid h
  obtain ⟨k, hk⟩ : ∃ k, k = l.findIdx (keyB key) := ⟨_, rfl⟩
  by_cases hp : k < l.length
  · have HE : Hid (usedC l key = (nthH l k).2) := by show _ = _; unfold usedC; rw [← hk, if_pos hp]
    have HP : Hid (placeI (keyB key) l = (k : Int)) := by show _ = _; rw [placeI_yes (by rw [← hk]; exact hp), ← hk]
    clear hk
    rw [HE.out]
    obtain ⟨gr, rfl, _⟩ := h.at_ hp
    clear h
    go_enter Try.func47, Try.ntmps47
    go_wp2_with fail
    refine (find_any g M _ l key w HT.out).mono ?_
    rintro e w1 ⟨rfl, ho⟩
    rw [HP.out]
    have HO := Lib.hid ho
    have HT1 := Lib.hid (HT.out.old ho)
    have hc1 := HT1.out.head.c1
    obtain ⟨f1, f2⟩ := HT1.out.row.el rfl hp
    obtain ⟨x, hx⟩ : ∃ x, x = nthH l k := ⟨_, rfl⟩
    rw [← hx] at f1 f2
    have HX := Lib.hid hx
    clear ho hx
    obtain ⟨x1, x2⟩ := x
    simp only at f1 f2
    go_wp2
    go_ret
    exact ⟨ret_int (by rw [← HX.out]), HO.out⟩
  · have HE : Hid (usedC l key = 0) := by show _ = _; unfold usedC; rw [← hk, if_neg hp]
    have HP : Hid (placeI (keyB key) l = -1) := placeI_no (by rw [← hk]; exact hp)
    clear hk h
    go_enter Try.func47, Try.ntmps47
    go_wp2_with fail
    refine (find_any g M _ l key w HT.out).mono ?_
    rintro e w1 ⟨rfl, ho⟩
    rw [HP.out]
    have HO := Lib.hid ho
    clear ho
    go_wp2
    go_ret
    exact ⟨ret_int (by rw [HE.out]; rfl), HO.out⟩

set_option maxHeartbeats 800000 in
theorem hHas_any (g M : Nat) (v : Value) (l : List Ho) (key : ByteArray) (w : World) (h : TbAt 106 w g M v l) :
    Calls Try.prog 51 #[.pointer (some ⟨g, 0, none⟩), .string key] w fun e w' => e = .returned (.bool (hasC l key)) ∧ Only [] w w' := by
  have HT := Lib.hid h
  have HP : Hid (decide (placeI (keyB key) l ≥ 0) = hasC l key) := by
    show _ = _
    unfold hasC placeI
    by_cases hp : l.findIdx (keyB key) < l.length
    · rw [if_pos hp, decide_eq_true hp]; simp
    · rw [if_neg hp, decide_eq_false hp]; rfl
  clear h
  generalize hasC l key = q at *
  obtain ⟨i, hi⟩ : ∃ i, i = placeI (keyB key) l := ⟨_, rfl⟩
  have HI := Lib.hid hi
  rw [← hi] at HP
  clear hi
  go_enter Try.func51, Try.ntmps51
  go_wp2_with fail
  refine (find_any g M v l key w HT.out).mono ?_
  rintro e w1 ⟨rfl, ho⟩
  rw [← HI.out]
  have HO := Lib.hid ho
  clear ho
  cases q with
  | true =>
    have hi0 : 0 ≤ i := of_decide_eq_true HP.out
    go_wp2
    go_ret
    exact ⟨rfl, HO.out⟩
  | false =>
    have hi0 : ¬ 0 ≤ i := of_decide_eq_false HP.out
    have HI0 := Lib.hid hi0
    go_wp2
    go_ret
    exact ⟨ret_bool (by have h1 := HI0.out; simp; omega), HO.out⟩

set_option maxHeartbeats 1200000 in
theorem hFree_any (g M : Nat) (v : Value) (l : List Ho) (key : ByteArray) (w : World) (h : TbAt 106 w g M v l) :
    Calls Try.prog 40 #[.pointer (some ⟨g, 0, none⟩), .string key] w fun e w' => e = .returned (.int .i64 (freeC l key : Int)) ∧ TbAt 106 w' g M v (freeS l key) ∧ Only (ownL v) w w' := by
  obtain ⟨A, cap, rfl, hlc, hcm⟩ := h.room
  have HT := Lib.hid h
  obtain ⟨k, hk⟩ : ∃ k, k = l.findIdx (keyB key) := ⟨_, rfl⟩
  have HK := Lib.hid hk
  by_cases hp : k < l.length
  · have HP : Hid (placeI (keyB key) l = (k : Int)) := by show _ = _; rw [placeI_yes (by rw [← hk]; exact hp), ← hk]
    have hkey : (nthH l k).1 = key := keyB_iff.1 (by rw [hk]; exact place_hit (by rw [← hk]; exact hp))
    have hsix := h.ok.six _ (nthH_mem hp)
    clear hk
    obtain ⟨gr, rfl, _, hgr⟩ := h.at_ hp
    have HGR := Lib.hid hgr
    have HOKF := Lib.hid (h.ok.free key)
    clear h hgr
    by_cases hu : (nthH l k).2 = 0
    · have HE : Hid (freeC l key = 12 ∧ freeS l key = l) := by show _ ∧ _; unfold freeC freeS; rw [← HK.out, if_pos hp, if_pos hp, if_pos hu, if_pos hu]; exact ⟨rfl, rfl⟩
      rw [HE.out.1, HE.out.2]
      have HU := Lib.hid hu
      clear hu hsix hkey
      go_enter Try.func40, Try.ntmps40
      go_wp2_with fail
      refine (find_any g M _ l key w HT.out).mono ?_
      rintro e w1 ⟨rfl, ho⟩
      rw [HP.out]
      have HO := Lib.hid ho
      have HT1 := Lib.hid (HT.out.old ho)
      have hc1 := HT1.out.head.c1
      obtain ⟨f1, f2⟩ := HT1.out.row.el rfl hp
      rw [HU.out] at f2
      clear ho
      go_wp2
      go_ret
      exact ⟨rfl, HT1.out, HO.out.mono (by simp)⟩
    · obtain ⟨m, hm⟩ : ∃ m, (nthH l k).2 = m + 1 := ⟨(nthH l k).2 - 1, by omega⟩
      have hm6 : m ≤ 5 := by omega
      have HM := Lib.hid hm
      have HE : Hid (freeC l key = 0 ∧ freeS l key = l.set k ((nthH l k).1, m)) := by show _ ∧ _; unfold freeC freeS; rw [← HK.out, if_pos hp, if_pos hp, if_neg hu, if_neg hu, hm, hkey]; exact ⟨rfl, rfl⟩
      clear hu hsix hkey hm
      rw [HE.out.1]
      go_enter Try.func40, Try.ntmps40
      go_wp2_with fail
      refine (find_any g M _ l key w HT.out).mono ?_
      rintro e w1 ⟨rfl, ho⟩
      rw [HP.out]
      have HO := Lib.hid ho
      have HT1 := Lib.hid (HT.out.old ho)
      have hc1 := HT1.out.head.c1
      obtain ⟨f1, f2⟩ := HT1.out.row.el rfl hp
      have hz := HT1.out.row.thaw rfl (k * 2 + 1)
      rw [HM.out] at f2
      clear ho
      obtain ⟨W2, hW2⟩ : ∃ W2, W2 = w1.setCell ⟨gr, k * 2 + 1, none⟩ (.int .i64 (m : Int)) := ⟨_, rfl⟩
      have HG : Hid (g < gr) := (HT1.out.own HGR.out).1
      have HT2 : Hid (TbAt 106 W2 g M (.slice (some ⟨gr, 0, none⟩) l.length cap) (freeS l key)) := by
        show TbAt _ _ _ _ _ _
        refine ⟨HT1.out.head.only (f := [gr]) ?_ (by have := HG.out; simp; omega), ?_, HOKF.out⟩
        · rw [hW2]; exact (Only.refl _ _).setCell (p := ⟨gr, _, none⟩) (by simp) _
        · rw [HE.out.2, hW2]
          exact HT1.out.row.set1 rfl k m
      have HO2 : Hid (Only (ownL (.slice (some ⟨gr, 0, none⟩) l.length cap)) w W2) := by
        show Only _ _ _
        rw [hW2]
        exact (HO.out.mono (by simp)).setCell (p := ⟨gr, _, none⟩) HGR.out _
      go_wp2_with fail
      rw [← hW2]
      clear hW2 f1 f2 hz hc1
      go_wp2
      go_ret
      exact ⟨rfl, HT2.out, HO2.out⟩
  · have HE : Hid (freeC l key = 11 ∧ freeS l key = l) := by show _ ∧ _; unfold freeC freeS; rw [← hk, if_neg hp, if_neg hp]; exact ⟨rfl, rfl⟩
    have HP : Hid (placeI (keyB key) l = -1) := placeI_no (by rw [← hk]; exact hp)
    rw [HE.out.1, HE.out.2]
    clear hk h
    go_enter Try.func40, Try.ntmps40
    go_wp2_with fail
    refine (find_any g M _ l key w HT.out).mono ?_
    rintro e w1 ⟨rfl, ho⟩
    rw [HP.out]
    have HO := Lib.hid ho
    clear ho
    go_wp2
    go_ret
    exact ⟨rfl, HT.out.old HO.out, HO.out.mono (by simp)⟩
end Go.Proofs.Ytbnmldfiheffoaa
