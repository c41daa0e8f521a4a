/-
  The contracts of Table.room and Use over this seat's program. Conditions: the table lies there.
-/
import Derived.Test.YtbnmldfiheffoaaNUse
namespace Go.Proofs.Ytbnmldfiheffoaa
open Go.RowKit

set_option maxHeartbeats 800000 in
/-- room: the table is not full -/
theorem room_room (g M : Nat) (v : Value) (l : List Ho) (w : World) (h : TbAt 106 w g M v l) (hm : l.length < M) :
    Calls Try.prog 63 #[.pointer (some ⟨g, 0, none⟩)] w fun e w' => e = .returned (.tuple #[.string ⟨#[]⟩, .int .i64 0]) ∧ Only [] w w' := by
  obtain ⟨A, cap, rfl, hlc, hcm⟩ := h.room
  have hc1 := h.head.c1
  have hc0 := h.head.c0
  have hmi : (l.length : Int) < (M : Int) := by omega
  clear h
  go_enter Try.func63, Try.ntmps63
  go_wp2_with fail
  go_quiet (fail)
  go_wp2
  go_ret2
  exact ⟨rfl, (Only.refl _ _).drewN _⟩
set_option maxHeartbeats 1200000 in
/-- room: nobody may go -/
theorem room_none (g M : Nat) (v : Value) (l : List Ho) (w : World) (h : TbAt 106 w g M v l) (hm : ¬ l.length < M) (hn : ¬ l.findIdx idleB < l.length) :
    Calls Try.prog 63 #[.pointer (some ⟨g, 0, none⟩)] w fun e w' => e = .returned (.tuple #[.string ⟨#[]⟩, .int .i64 10]) ∧ Only [] w w' := by
  obtain ⟨A, cap, rfl, hlc, hcm⟩ := h.room
  have HT := Lib.hid h
  have HP : Hid (placeI idleB l = -1) := placeI_no hn
  have hc1 := h.head.c1
  have hc0 := h.head.c0
  have eg : ∀ args w, (callFunc 80 args).run Try.prog w = .ok (.enter 80 args) w := enters_of Try.func80 (by kernel_rfl) rfl
  have hmi : decide (l.length < M) = false := decide_eq_false hm
  have HEG := Lib.hid eg
  have HMI := Lib.hid hmi
  clear h eg hmi hn hm
  go_enter Try.func63, Try.ntmps63
  go_wp2_with fail
  have hmi := HMI.out
  go_quiet (fail)
  obtain ⟨W1, hW1⟩ : ∃ W1, W1 = w.drewN nq := ⟨_, rfl⟩
  have HO1 : Hid (Only [] w W1) := by show Only _ _ _; rw [hW1]; exact (Only.refl _ _).drewN _
  have HT1 := Lib.hid (HT.out.old HO1.out)
  rw [← hW1]
  clear hW1 hc1
  have hc1 := HT1.out.head.c1
  have hmi := HMI.out
  go_wp2_with fail
  clear hmi
  refine (idxF_any 80 #[] idleB 106 (g + 1) _ l W1 HEG.out HT1.out.row (fun W x _ => room1_any x W)).mono ?_
  rintro e w2 ⟨rfl, ho⟩
  rw [HP.out]
  have HO2 := Lib.hid ho
  clear ho hc1
  go_wp2
  go_ret2
  exact ⟨rfl, HO1.out.trans HO2.out⟩
set_option maxHeartbeats 1600000 in
/-- room: the eldest without a use goes -/
theorem room_gone (g M k : Nat) (v : Value) (l : List Ho) (w : World) (h : TbAt 106 w g M v l) (hm : ¬ l.length < M) (hk : k = l.findIdx idleB) (hp : k < l.length) :
    Calls Try.prog 63 #[.pointer (some ⟨g, 0, none⟩)] w fun e w' => e = .returned (.tuple #[.string (nthH l k).1, .int .i64 0]) ∧
      ∃ v', TbHead w' g M v' ∧ URow 106 w' (g + 1) v' (l.eraseIdx k) ∧ Only (g :: ownL v) w w' ∧ ownL v' = ownL v := by
  obtain ⟨A, cap, rfl, hlc, hcm⟩ := h.room
  have HT := Lib.hid h
  have HP : Hid (placeI idleB l = (k : Int)) := by show _ = _; rw [placeI_yes (by rw [← hk]; exact hp), ← hk]
  have hc1 := h.head.c1
  have hc0 := h.head.c0
  obtain ⟨gr, rfl, _, hgr⟩ := h.at_ hp
  have HGR := Lib.hid hgr
  have HG : Hid (g < gr ∧ gr < w.heap.size) := h.own hgr
  have eg : ∀ args w, (callFunc 80 args).run Try.prog w = .ok (.enter 80 args) w := enters_of Try.func80 (by kernel_rfl) rfl
  have hmi : decide (l.length < M) = false := decide_eq_false hm
  have HEG := Lib.hid eg
  have HMI := Lib.hid hmi
  have HLE : Hid ((l.eraseIdx k).length = l.length - 1) := by show _ = _; rw [List.length_eraseIdx, if_pos hp]
  obtain ⟨x, hx⟩ : ∃ x, x = nthH l k := ⟨_, rfl⟩
  have HX := Lib.hid hx
  rw [← hx]
  clear h eg hmi hm hk hgr hx
  go_enter Try.func63, Try.ntmps63
  go_wp2_with fail
  have hmi := HMI.out
  go_quiet (fail)
  obtain ⟨W1, hW1⟩ : ∃ W1, W1 = w.drewN nq := ⟨_, rfl⟩
  have HO1 : Hid (Only [] w W1) := by show Only _ _ _; rw [hW1]; exact (Only.refl _ _).drewN _
  have HT1 := Lib.hid (HT.out.old HO1.out)
  rw [← hW1]
  clear hW1 hc1
  have hc1 := HT1.out.head.c1
  have hmi := HMI.out
  go_wp2_with fail
  clear hmi
  refine (idxF_any 80 #[] idleB 106 (g + 1) _ l W1 HEG.out HT1.out.row (fun W x _ => room1_any x W)).mono ?_
  rintro e w2 ⟨rfl, ho⟩
  rw [HP.out]
  have HO2 := Lib.hid ho
  have HT2 := Lib.hid (HT1.out.old ho)
  clear ho hc1 hc0
  have hc1 := HT2.out.head.c1
  obtain ⟨f1, f2⟩ := HT2.out.row.el rfl hp
  rw [← HX.out] at f1 f2
  obtain ⟨x1, x2⟩ := x
  simp only at f1 f2 ⊢
  have hcon : Calls Try.prog 79 #[.slice (some ⟨gr, 0, none⟩) l.length cap, .int .i64 (k : Int), .int .i64 ((k : Int) + 1)] w2 _ := del_any (g + 1) gr cap k (k + 1) l.length l w2 rfl rfl HT2.out.row hp hlc hcm
  have HC := Lib.hid hcon
  clear hcon
  go_wp2_with fail
  refine HC.out.mono ?_
  rintro e w3 ⟨rfl, hr3, ho3⟩
  have HH3 := Lib.hid (HT2.out.head.only ho3 (by have := HG.out; simp; omega))
  have HR3 := Lib.hid hr3
  obtain ⟨W4, hW4⟩ : ∃ W4, W4 = w3.setCell ⟨g, 1, none⟩ (.slice (some ⟨gr, 0, none⟩) (l.length - 1) cap) := ⟨_, rfl⟩
  have HH4 : Hid (TbHead W4 g M (.slice (some ⟨gr, 0, none⟩) (l.length - 1) cap)) := by show TbHead _ _ _ _; rw [hW4]; exact HH3.out.set1 _
  have HR4 : Hid (URow 106 W4 (g + 1) (.slice (some ⟨gr, 0, none⟩) (l.length - 1) cap) (l.eraseIdx k)) := by show URow _ _ _ _ _; rw [hW4]; exact hr3.setBelow _ _
  have HO4 : Hid (Only [g, gr] w W4) := by
    show Only _ _ _
    rw [hW4]
    exact (((HO1.out.trans HO2.out).mono (by simp)).trans (ho3.mono (by simp))).setCell (p := ⟨g, 1, none⟩) (by simp) _
  have hd1 := HH3.out.c1
  have hz1 := HH3.out.z1
  clear hr3 ho3 f1 f2 hc1
  go_wp2_with fail
  rw [← hW4]
  clear hW4 hd1 hz1
  go_wp2
  go_ret2
  exact ⟨rfl, _, HH4.out, HR4.out, HO4.out.mono (by rw [ownL, Value.ownBlock]; simp), rfl⟩

set_option maxHeartbeats 1600000 in
theorem hUse_any (g M : Nat) (v : Value) (l : List Ho) (key : ByteArray) (w : World) (h : TbAt 106 w g M v l) :
    Calls Try.prog 50 #[.pointer (some ⟨g, 0, none⟩), .string key] w fun e w' => e = .returned (.tuple #[.string (useG M l key), .int .i64 (useC M l key : Int)]) ∧
      ∃ v', TbAt 106 w' g M v' (useS M l key) ∧ Only (g :: ownL v) w w' ∧ ∀ x ∈ ownL v', x ∈ ownL v ∨ w.heap.size ≤ x := by
  have HT := Lib.hid h
  have HOK := Lib.hid (h.ok.use key)
  have HL : Hid (l.length ≤ 32) := Nat.le_trans h.ok.len h.ok.m2
  obtain ⟨k, hk⟩ : ∃ k, k = l.findIdx (keyB key) := ⟨_, rfl⟩
  by_cases hp : k < l.length
  · have HP : Hid (placeI (keyB key) l = (k : Int)) := by show _ = _; rw [placeI_yes (by rw [← hk]; exact hp), ← hk]
    have hkey : (nthH l k).1 = key := keyB_iff.1 (by rw [hk]; exact place_hit (by rw [← hk]; exact hp))
    by_cases h6 : 6 ≤ (nthH l k).2
    · have HE : Hid (useG M l key = ⟨#[]⟩ ∧ useC M l key = 10 ∧ useS M l key = l) := by
        show _ ∧ _
        unfold useG useC useS
        rw [← hk, if_pos hp, if_pos hp, if_pos hp, if_pos h6, if_pos h6]
        exact ⟨rfl, rfl, rfl⟩
      rw [HE.out.1, HE.out.2.1, HE.out.2.2]
      have H6 := Lib.hid h6
      have hk0 : (0 : Int) ≤ (k : Int) := by omega
      clear h hk hkey h6
      go_enter Try.func50, Try.ntmps50
      go_wp2_with fail
      refine (find_any g M v l key w HT.out).mono ?_
      rintro e w1 ⟨rfl, ho⟩
      rw [HP.out]
      have HO := Lib.hid ho
      have HT1 := Lib.hid (HT.out.old ho)
      clear ho
      go_wp2_with fail
      refine (again_full g M k v l w1 HT1.out hp H6.out).mono ?_
      rintro e w2 ⟨rfl, ho⟩
      have HO2 := Lib.hid ho
      clear ho
      go_wp2
      go_ret2
      exact ⟨rfl, _, HT1.out.old HO2.out, (HO.out.trans HO2.out).mono (by simp), fun x hx => .inl hx⟩
    · obtain ⟨u, hu⟩ : ∃ u, u = (nthH l k).2 := ⟨_, rfl⟩
      have HE : Hid (useG M l key = ⟨#[]⟩ ∧ useC M l key = 0 ∧ useS M l key = l.eraseIdx k ++ [(key, u + 1)]) := by
        show _ ∧ _
        unfold useG useC useS
        rw [← hk, if_pos hp, if_pos hp, if_pos hp, if_neg h6, if_neg h6, ← hu]
        exact ⟨rfl, rfl, rfl⟩
      rw [HE.out.1, HE.out.2.1]
      have H6 : Hid (u < 6) := by show _ < _; omega
      have HX : Hid (nthH l k = (key, u)) := by show _ = _; rw [hu, ← hkey]
      have hk0 : (0 : Int) ≤ (k : Int) := by omega
      clear h hk hkey h6 hu
      go_enter Try.func50, Try.ntmps50
      go_wp2_with fail
      refine (find_any g M v l key w HT.out).mono ?_
      rintro e w1 ⟨rfl, ho⟩
      rw [HP.out]
      have HO := Lib.hid ho
      have HT1 := Lib.hid (HT.out.old ho)
      clear ho
      go_wp2_with fail
      refine (again_room g M k v l key u w1 HT1.out hp HX.out H6.out).mono ?_
      rintro e w2 ⟨rfl, v2, hh2, hr2, ho2, hv2⟩
      have HH2 := Lib.hid hh2
      have HR2 := Lib.hid hr2
      have HO2 := Lib.hid ho2
      have HV2 := Lib.hid hv2
      clear hh2 hr2 ho2 hv2
      go_wp2
      go_ret2
      refine ⟨rfl, v2, ⟨HH2.out, by rw [HE.out.2.2]; exact HR2.out, HOK.out⟩, (HO.out.mono (by simp)).trans HO2.out, fun x hx => ?_⟩
      rcases HV2.out x hx with h1 | h1
      · exact .inl h1
      · exact .inr (Nat.le_trans HO.out.size h1)
  · have HP : Hid (placeI (keyB key) l = -1) := placeI_no (by rw [← hk]; exact hp)
    have HT1 : Hid (∀ w1, Only [] w w1 → TbAt 106 w1 g M v l) := fun w1 ho => HT.out.old ho
    by_cases hm : l.length < M
    · have HE : Hid (useG M l key = ⟨#[]⟩ ∧ useC M l key = 0 ∧ useS M l key = l ++ [(key, 1)]) := by
        show _ ∧ _
        unfold useG useC useS
        rw [← hk, if_neg hp, if_neg hp, if_neg hp, if_pos hm, if_pos hm, if_pos hm]
        exact ⟨rfl, rfl, rfl⟩
      rw [HE.out.1, HE.out.2.1, HE.out.2.2]
      rw [HE.out.2.2] at HOK
      have HM := Lib.hid hm
      clear h hk hp hm
      go_enter Try.func50, Try.ntmps50
      go_wp2_with fail
      refine (find_any g M v l key w HT.out).mono ?_
      rintro e w1 ⟨rfl, ho⟩
      rw [HP.out]
      have HO := Lib.hid ho
      clear ho
      go_wp2_with fail
      refine (room_room g M v l w1 (HT1.out w1 HO.out) HM.out).mono ?_
      rintro e w2 ⟨rfl, ho⟩
      have HO2 : Hid (Only [] w w2) := HO.out.trans ho
      have HT2 := Lib.hid (HT1.out w2 HO2.out)
      clear ho
      have HR2 := Lib.hid HT2.out.row
      have HH2 := Lib.hid HT2.out.head
      obtain ⟨v2, hv2⟩ : ∃ v2, v2 = v := ⟨_, rfl⟩
      have HVV : Hid (ownL v2 = ownL v) := by show _ = _; rw [hv2]
      rw [← hv2] at HR2 HH2
      have HOV : Hid (Only (g :: ownL v) w w2) := HO2.out.mono (by simp)
      have HL2 := HL
      have HGL : Hid (∀ x ∈ ownL v2, x ≠ g) := by show ∀ x ∈ _, _; rw [HVV.out]; intro x hx; have := (HT2.out.own hx).1; omega
      clear hv2
      obtain ⟨A2, cap2, hv2, hlc2, hcm2⟩ := HR2.out.slice
      unfold maxLen at hcm2
      subst hv2
      have hd1 := HH2.out.c1
      have hdz := HH2.out.z1
      have hgl := HH2.out.lt
      have HO3 : Hid (Only [] w2 (w2.alloc (.cells #[.string key, .int .i64 1] 106))) := (Only.refl _ _).alloc _
      have HN3 : Hid ((w2.alloc (.cells #[.string key, .int .i64 1] 106)).cell? ⟨w2.heap.size, 0, none⟩ = some (.string key) ∧ (w2.alloc (.cells #[.string key, .int .i64 1] 106)).cell? ⟨w2.heap.size, 1, none⟩ = some (.int .i64 ((1 : Nat) : Int))) := by show _ ∧ _; exact ⟨by simp, by simp⟩
      have HR3 := Lib.hid (HR2.out.only HO3.out (by simp))
      have HH3 := Lib.hid (HH2.out.only HO3.out (by simp))
      go_wp2_with (at_builtin; refine wpList_append_host rfl (.tmp 30) (.tmp 33) 91 106 rfl Try.underlying91 infoU (g + 1) _ l rfl HR3.out w2.heap.size key 1 rfl HN3.out.1 HN3.out.2 (by have := HL2.out; omega) (by have := HH3.out.lt; omega) ?_)
      intro g2 cap4 w4 hr4 ho4 hg4
      have HH4 := Lib.hid (HH3.out.only ho4.out (fun hm => HGL.out _ hm rfl))
      have hd4 := HH4.out.c1
      have hz4 := HH4.out.z1
      obtain ⟨W5, hW5⟩ : ∃ W5, W5 = w4.setCell ⟨g, 1, none⟩ (.slice (some ⟨g2, 0, none⟩) ((l).length + 1) cap4) := ⟨_, rfl⟩
      have HT5 : Hid (TbAt 106 W5 g M (.slice (some ⟨g2, 0, none⟩) ((l).length + 1) cap4) (l ++ [(key, 1)])) := by
        show TbAt _ _ _ _ _ _
        refine ⟨?_, ?_, HOK.out⟩
        · rw [hW5]; exact HH4.out.set1 _
        · rw [hW5]; exact hr4.out.setBelow _ _
      have HO5 : Hid (Only (g :: ownL v) w W5) := by
        show Only _ _ _
        rw [hW5]
        exact ((HOV.out.trans (HO3.out.mono (by simp))).trans (ho4.out.mono (fun x hx => by rw [HVV.out] at hx; exact List.mem_cons_of_mem _ hx))).setCell (p := ⟨g, 1, none⟩) (by simp) _
      have HG5 : Hid (∀ x ∈ ownL (.slice (some ⟨g2, 0, none⟩) ((l).length + 1) cap4), x ∈ ownL v ∨ w.heap.size ≤ x) := by
        show ∀ x ∈ _, _
        intro x hx
        rw [ownL, Value.ownBlock] at hx
        simp at hx
        subst hx
        rcases hg4.out with h1 | h1
        · left; rw [← HVV.out]; exact h1
        · right
          have h2 := HOV.out.size
          have h3 := HO3.out.size
          omega
      clear hd1 hdz hr4 ho4 hg4
      go_wp2_with fail
      rw [← hW5]
      clear hW5 hd4 hz4
      go_wp2
      go_ret2
      exact ⟨rfl, _, HT5.out, HO5.out, HG5.out⟩
    by_cases hq : l.findIdx idleB < l.length
    · obtain ⟨z, hz⟩ : ∃ z, z = l.findIdx idleB := ⟨_, rfl⟩
      rw [← hz] at hq
      have HE : Hid (useG M l key = (nthH l z).1 ∧ useC M l key = 0 ∧ useS M l key = l.eraseIdx z ++ [(key, 1)]) := by
        show _ ∧ _
        unfold useG useC useS
        rw [← hk, if_neg hp, if_neg hp, if_neg hp, if_neg hm, if_neg hm, if_neg hm, ← hz, if_pos hq, if_pos hq, if_pos hq]
        exact ⟨rfl, rfl, rfl⟩
      rw [HE.out.1, HE.out.2.1, HE.out.2.2]
      rw [HE.out.2.2] at HOK
      have HM := Lib.hid hm
      have HZ := Lib.hid hz
      clear h hk hp hm hz
      go_enter Try.func50, Try.ntmps50
      go_wp2_with fail
      refine (find_any g M v l key w HT.out).mono ?_
      rintro e w1 ⟨rfl, ho⟩
      rw [HP.out]
      have HO := Lib.hid ho
      clear ho
      go_wp2_with fail
      refine (room_gone g M z v l w1 (HT1.out w1 HO.out) HM.out HZ.out hq).mono ?_
      rintro e w2 ⟨rfl, v2, hh2, hr2, ho2, hv2⟩
      have HH2 := Lib.hid hh2
      have HR2 := Lib.hid hr2
      have HVV := Lib.hid hv2
      have HOV : Hid (Only (g :: ownL v) w w2) := (HO.out.mono (by simp)).trans ho2
      have HGL : Hid (∀ x ∈ ownL v2, x ≠ g) := by show ∀ x ∈ _, _; rw [HVV.out]; intro x hx; have := (HT.out.own hx).1; omega
      have HL2 : Hid ((l.eraseIdx z).length ≤ 32) := Nat.le_trans (List.length_eraseIdx_le _ _) HL.out
      clear hh2 hr2 ho2 hv2
      obtain ⟨x, hx⟩ : ∃ x, x = (nthH l z).1 := ⟨_, rfl⟩
      have HX := Lib.hid hx
      rw [← HX.out]
      clear hx
      obtain ⟨A2, cap2, hv2, hlc2, hcm2⟩ := HR2.out.slice
      unfold maxLen at hcm2
      subst hv2
      have hd1 := HH2.out.c1
      have hdz := HH2.out.z1
      have hgl := HH2.out.lt
      have HO3 : Hid (Only [] w2 (w2.alloc (.cells #[.string key, .int .i64 1] 106))) := (Only.refl _ _).alloc _
      have HN3 : Hid ((w2.alloc (.cells #[.string key, .int .i64 1] 106)).cell? ⟨w2.heap.size, 0, none⟩ = some (.string key) ∧ (w2.alloc (.cells #[.string key, .int .i64 1] 106)).cell? ⟨w2.heap.size, 1, none⟩ = some (.int .i64 ((1 : Nat) : Int))) := by show _ ∧ _; exact ⟨by simp, by simp⟩
      have HR3 := Lib.hid (HR2.out.only HO3.out (by simp))
      have HH3 := Lib.hid (HH2.out.only HO3.out (by simp))
      go_wp2_with (at_builtin; refine wpList_append_host rfl (.tmp 30) (.tmp 33) 91 106 rfl Try.underlying91 infoU (g + 1) _ (l.eraseIdx z) rfl HR3.out w2.heap.size key 1 rfl HN3.out.1 HN3.out.2 (by have := HL2.out; omega) (by have := HH3.out.lt; omega) ?_)
      intro g2 cap4 w4 hr4 ho4 hg4
      have HH4 := Lib.hid (HH3.out.only ho4.out (fun hm => HGL.out _ hm rfl))
      have hd4 := HH4.out.c1
      have hz4 := HH4.out.z1
      obtain ⟨W5, hW5⟩ : ∃ W5, W5 = w4.setCell ⟨g, 1, none⟩ (.slice (some ⟨g2, 0, none⟩) (((l.eraseIdx z)).length + 1) cap4) := ⟨_, rfl⟩
      have HT5 : Hid (TbAt 106 W5 g M (.slice (some ⟨g2, 0, none⟩) (((l.eraseIdx z)).length + 1) cap4) ((l.eraseIdx z) ++ [(key, 1)])) := by
        show TbAt _ _ _ _ _ _
        refine ⟨?_, ?_, HOK.out⟩
        · rw [hW5]; exact HH4.out.set1 _
        · rw [hW5]; exact hr4.out.setBelow _ _
      have HO5 : Hid (Only (g :: ownL v) w W5) := by
        show Only _ _ _
        rw [hW5]
        exact ((HOV.out.trans (HO3.out.mono (by simp))).trans (ho4.out.mono (fun x hx => by rw [HVV.out] at hx; exact List.mem_cons_of_mem _ hx))).setCell (p := ⟨g, 1, none⟩) (by simp) _
      have HG5 : Hid (∀ x ∈ ownL (.slice (some ⟨g2, 0, none⟩) (((l.eraseIdx z)).length + 1) cap4), x ∈ ownL v ∨ w.heap.size ≤ x) := by
        show ∀ x ∈ _, _
        intro x hx
        rw [ownL, Value.ownBlock] at hx
        simp at hx
        subst hx
        rcases hg4.out with h1 | h1
        · left; rw [← HVV.out]; exact h1
        · right
          have h2 := HOV.out.size
          have h3 := HO3.out.size
          omega
      clear hd1 hdz hr4 ho4 hg4
      go_wp2_with fail
      rw [← hW5]
      clear hW5 hd4 hz4
      go_wp2
      go_ret2
      exact ⟨by rw [← HX.out]; rfl, _, HT5.out, HO5.out, HG5.out⟩
    · have HE : Hid (useG M l key = ⟨#[]⟩ ∧ useC M l key = 10 ∧ useS M l key = l) := by
        show _ ∧ _
        unfold useG useC useS
        rw [← hk, if_neg hp, if_neg hp, if_neg hp, if_neg hm, if_neg hm, if_neg hm, if_neg hq, if_neg hq, if_neg hq]
        exact ⟨rfl, rfl, rfl⟩
      rw [HE.out.1, HE.out.2.1, HE.out.2.2]
      have HM := Lib.hid hm
      have HQ := Lib.hid hq
      clear h hk hp hm hq
      go_enter Try.func50, Try.ntmps50
      go_wp2_with fail
      refine (find_any g M v l key w HT.out).mono ?_
      rintro e w1 ⟨rfl, ho⟩
      rw [HP.out]
      have HO := Lib.hid ho
      clear ho
      go_wp2_with fail
      refine (room_none g M v l w1 (HT1.out w1 HO.out) HM.out HQ.out).mono ?_
      rintro e w2 ⟨rfl, ho⟩
      have HO2 : Hid (Only [] w w2) := HO.out.trans ho
      clear ho
      go_wp2
      go_ret2
      exact ⟨rfl, _, HT1.out w2 HO2.out, HO2.out.mono (by simp), fun x hx => .inl hx⟩
end Go.Proofs.Ytbnmldfiheffoaa
