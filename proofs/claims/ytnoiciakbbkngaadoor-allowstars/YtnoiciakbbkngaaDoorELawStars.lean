/-
  The walk of the law AllowStars: whatever the input, it returns true, and nothing that was there has turned. Conditions: the table of methods is as it is laid.
-/
import Derived.Test.YtnoiciakbbkngaaDoorEBox
namespace Go.Proofs.YtnoiciakbbkngaaDoor
open Go.RowKit

theorem lowU_star : ∀ b : UInt8, Lk.lowU b = 42 → b = 42 := by
  intro b h
  have h1 := congrArg (fun x : UInt8 => (x.toNat : Int)) h
  simp only [Lk.lowU_toNat] at h1
  have h2 := Lk.byte_bd b
  refine Lk.u8_eq ?_
  have h3 : ((42 : UInt8).toNat : Int) = 42 := rfl
  rw [h3] at h1 ⊢
  unfold Lk.lowI at h1
  split at h1
  · rename_i hu
    simp [Lk.upB] at hu
    omega
  · exact h1
theorem lower_star (l : List UInt8) : decide ([42] = Lk.lower l) = (l == [42]) := by
  rw [Bool.eq_iff_iff, decide_eq_true_iff, beq_iff_eq]
  constructor
  · intro h
    match l, h with
    | [b], h =>
      simp [Lk.lower] at h
      rw [lowU_star b h.symm]
    | [], h => simp [Lk.lower] at h
    | b :: c :: r, h => simp [Lk.lower] at h
  · rintro rfl; rfl
def starA : Al := ⟨[[42]], [[42]], 0⟩
theorem mem_star (s : List UInt8) : memT [[42]] s = (s == [42]) := by
  unfold memT
  rw [List.any_cons, List.any_nil, Bool.or_false, Bool.eq_iff_iff, decide_eq_true_iff, beq_iff_eq]
  exact eq_comm
theorem star1 (s : List UInt8) : hasA starA.ms s false = true := by unfold hasA wildT; show (_ || (_ || (!false && memT [[42]] [42]))) = true; rw [mem_star [42]]; simp
theorem star2 (s : List UInt8) : hasA starA.ms s true = ((s == [42]) || Lk.safeL s) := by
  unfold hasA wildT
  show (_ || (memT [[42]] s || (!true && _))) = _
  rw [mem_star]; cases Lk.safeL s <;> cases s == [42] <;> rfl
theorem star3 {t : List UInt8} (h : Lk.lower t = authN) (creds : Bool) : covA starA.hs t creds = false := by
  unfold covA
  rw [h, show memT starA.hs authN = false by decide]
  simp
theorem star4 {s t : List UInt8} (h : Lk.lower t = authN) (hf : Lk.foldL s t = false) : covA starA.hs s false = true := by
  unfold covA wildT
  have h1 : (Lk.lower s == authN) = false := by rw [← h]; exact hf
  rw [h1, show memT starA.hs [42] = true by decide]
  simp
theorem star5 (s : List UInt8) : covA starA.hs s true = (s == [42]) := by
  unfold covA wildT
  have h1 : memT starA.hs (Lk.lower s) = decide ([42] = Lk.lower s) := by unfold memT starA; simp
  rw [h1, lower_star]; simp
theorem srow_one_cell {w : World} {g : Nat} {x : ByteArray} (h : w.cell? ⟨g, 0, none⟩ = some (.string x)) : SRow w w.heap.size (some ⟨g, 0, none⟩) [x] := by
  intro j y hj
  match j, hj with
  | 0, hj => simp at hj; subst hj; exact ⟨_, rfl, block_of_cell h, h⟩

set_option maxRecDepth 100000 in
set_option maxHeartbeats 8000000 in
theorem walk_AllowStars (s : ByteArray) (creds : Bool) (bits : Int) (w : World) (h0 : s.size ≤ maxLen) (h1 : (Lit.int .u64 bits).wf = true) (he : MEnv w) :
    Calls Tryd.prog 4 #[.string s, .bool creds, .int .u64 bits] w fun e w' => e = .returned (.bool true) ∧ Below w.heap.size w w' := by
  have b1 := wfU h1
  clear h1
  have HS := Lib.hid h0
  have HE := Lib.hid he
  have hone := SRow.one w s 9
  have HO := Lib.hid hone
  clear hone h0 he
  cases hg : Lk.longL 60 [s.size]
  case true =>
    have HG := Lib.hid hg
    clear hg
    go_enter Tryd.func4, Tryd.ntmps4
    go_wp2_with fail
    refine (Long_any 60 _ 1 1 [s] _ (w.heap.size + 1) (by decide) (by decide) rfl HO.out (by simp [maxLen]) (by intro x hx; simp at hx; subst hx; exact HS.out)).mono ?_
    rintro e w' ⟨rfl, rfl⟩
    rw [show Lk.longL (Int.toNat 60) ([s].map ByteArray.size) = true from HG.out]
    have HB : Hid (Below w.heap.size w (w.alloc (.cells #[.string s] 9))) := (Below.refl _ _).alloc (Nat.le_refl _) _
    go_wp2_with fail
    refine (awake14_any _ (HE.out.below HB.out)).mono ?_
    rintro e w1 ⟨rfl, hb⟩
    have HB1 : Hid (Below w.heap.size w w1) := HB.out.trans (hb.mono HB.out.size)
    clear hb
    go_wp2
    go_ret
    exact ⟨rfl, HB1.out⟩
  have HG := Lib.hid hg
  clear hg
  obtain ⟨t, ht1, ht2, ht3⟩ := Flip_ex ⟨#[97, 117, 116, 104, 111, 114, 105, 122, 97, 116, 105, 111, 110]⟩ bits (by unfold maxLen; decide) b1.1 b1.2
  have HT1 : Hid (Lk.lower t.data.toList = authN) := by show _ = _; rw [ht1]; decide
  have HT2 : Hid (t.size ≤ maxLen) := by show _ ≤ _; rw [ht2]; unfold maxLen; decide
  have HT3 := Lib.hid ht3
  clear ht1 ht2 ht3
  obtain ⟨av, hav⟩ : ∃ av : Av, av = ⟨some ⟨w.heap.size + 1, 0, none⟩, 1, 1, some ⟨w.heap.size + 2, 0, none⟩, 1, 1, 0⟩ := ⟨_, rfl⟩
  obtain ⟨W0, hW0⟩ : ∃ W0, W0 = ((w.alloc (.cells #[.string s] 9)).alloc (.cells #[.string ⟨#[42]⟩] 9)).alloc (.cells #[.string ⟨#[42]⟩] 9) := ⟨_, rfl⟩
  have HB0 : Hid (Below w.heap.size w W0) := by rw [hW0]; exact (((Below.refl _ _).alloc (Nat.le_refl _) _).alloc (by simp) _).alloc (by simp; omega) _
  have hz0 : W0.heap.size = w.heap.size + 3 := by rw [hW0]; simp
  have HA0 : Hid (AvIs W0 av starA) := by
    rw [hav]
    have c1 : W0.cell? ⟨w.heap.size + 1, 0, none⟩ = some (.string ⟨#[42]⟩) := by
      have e1 : (w.alloc (.cells #[.string s] 9)).heap.size = w.heap.size + 1 := by simp
      rw [hW0]
      have h := World.cell?_alloc_new (w.alloc (.cells #[.string s] 9)) (#[.string ⟨#[42]⟩]) 9 0
      rw [e1] at h
      exact (Below.cell ((Below.refl _ _).alloc (Nat.le_refl _) _) (p := ⟨w.heap.size + 1, 0, none⟩) (by simp)).trans h
    have c2 : W0.cell? ⟨w.heap.size + 2, 0, none⟩ = some (.string ⟨#[42]⟩) := by
      have e1 : ((w.alloc (.cells #[.string s] 9)).alloc (.cells #[.string ⟨#[42]⟩] 9)).heap.size = w.heap.size + 2 := by simp
      rw [hW0]
      have h := World.cell?_alloc_new ((w.alloc (.cells #[.string s] 9)).alloc (.cells #[.string ⟨#[42]⟩] 9)) (#[.string ⟨#[42]⟩]) 9 0
      rw [e1] at h
      exact h
    exact ⟨srow_one_cell c1, srow_one_cell c2, rfl, rfl, rfl, by unfold maxLen; decide, by unfold maxLen; decide⟩
  obtain ⟨W1, hW1⟩ : ∃ W1, W1 = W0.alloc (.cells #[.slice av.A1 av.n1 av.c1, .slice av.A2 av.n2 av.c2, .int .u64 av.g] 26) := ⟨_, rfl⟩
  obtain ⟨g, hgg⟩ : ∃ g, g = W0.heap.size := ⟨_, rfl⟩
  have HX1 : Hid (StF w W1 g av starA) := by rw [hW1, hgg]; exact StF.new HB0.out HE.out HA0.out _
  rw [hz0] at hgg
  rw [hW0, hav] at hW1
  dsimp only at hW1
  clear HB0 HA0 hW0 hz0
  have HAV := Lib.hid hav
  have HVV : Hid (av.v = .agg #[.slice (some ⟨w.heap.size + 1, 0, none⟩) 1 1, .slice (some ⟨w.heap.size + 2, 0, none⟩) 1 1, .int .u64 0]) := by rw [hav]; exact rfl
  clear hav
  go_enter Tryd.func4, Tryd.ntmps4
  go_wp2_with fail
  refine (Long_any 60 _ 1 1 [s] _ (w.heap.size + 1) (by decide) (by decide) rfl HO.out (by simp [maxLen]) (by intro x hx; simp at hx; subst hx; exact HS.out)).mono ?_
  rintro e w' ⟨rfl, rfl⟩
  rw [show Lk.longL (Int.toNat 60) ([s].map ByteArray.size) = false from HG.out]
  go_wp2_with fail
  rw [← hW1, ← hgg]
  clear hW1 hgg
  refine (HT3.out _).mono ?_
  rintro e W2 ⟨rfl, hb⟩
  have HX2 := Lib.hid (HX1.out.next hb)
  clear hb HX1
  cases hc : s.toList == [42]
  · have HC : Hid ((s.data.toList == [42]) = false) := by show _ = _; rw [← ByteArray.toList_eq]; exact hc
    cases hq : Lk.safeL s.data.toList
    · have HQ := Lib.hid hq
      clear hq
      have HV : Hid (((s.data.toList == [42]) || Lk.safeL s.data.toList) = false) := by show _ = _; rw [HC.out, HQ.out]; rfl
      cases hf : Lk.foldL s.data.toList t.data.toList
      · have HF := Lib.hid hf
        clear hf
        obtain ⟨p0, p1, p2, _⟩ := HX2.out.at_
        rw [HAV.out] at p0 p1 p2
        dsimp only at p0 p1 p2
        go_wp2_with fail
        rw [← HVV.out]
        refine (Has_st HX2.out s false true HS.out (star1 _)).mono ?_
        rintro e W3 ⟨rfl, h1⟩
        have HX3 := Lib.hid h1
        clear h1 HX2 p0 p1 p2
        obtain ⟨p0, p1, p2, _⟩ := HX3.out.at_
        rw [HAV.out] at p0 p1 p2
        dsimp only at p0 p1 p2
        go_wp2_with fail
        rw [← HVV.out]
        refine (Has_st HX3.out s true false HS.out (by rw [star2]; exact HV.out)).mono ?_
        rintro e W4 ⟨rfl, h1⟩
        have HX4 := Lib.hid h1
        clear h1 HX3 p0 p1 p2
        go_wp2_with fail
        refine (Safe_st HX4.out s false HS.out HQ.out).mono ?_
        rintro e W5 ⟨rfl, h1⟩
        have HX5 := Lib.hid h1
        clear h1 HX4
        obtain ⟨p0, p1, p2, _⟩ := HX5.out.at_
        rw [HAV.out] at p0 p1 p2
        dsimp only at p0 p1 p2
        go_wp2_with fail
        rw [← HVV.out]
        refine (Covers_st HX5.out t creds false HT2.out (star3 HT1.out creds)).mono ?_
        rintro e W6 ⟨rfl, h1⟩
        have HX6 := Lib.hid h1
        clear h1 HX5 p0 p1 p2
        go_wp2_with fail
        refine (Fold_st HX6.out s t false HS.out HT2.out HF.out).mono ?_
        rintro e W7 ⟨rfl, h1⟩
        have HX7 := Lib.hid h1
        clear h1 HX6
        obtain ⟨p0, p1, p2, _⟩ := HX7.out.at_
        rw [HAV.out] at p0 p1 p2
        dsimp only at p0 p1 p2
        go_wp2_with fail
        rw [← HVV.out]
        refine (Covers_st HX7.out s false true HS.out (star4 HT1.out HF.out)).mono ?_
        rintro e W8 ⟨rfl, h1⟩
        have HX8 := Lib.hid h1
        clear h1 HX7 p0 p1 p2
        obtain ⟨p0, p1, p2, _⟩ := HX8.out.at_
        rw [HAV.out] at p0 p1 p2
        dsimp only at p0 p1 p2
        go_wp2_with fail
        rw [← HVV.out]
        refine (Covers_st HX8.out s true false HS.out (by rw [star5]; exact HC.out)).mono ?_
        rintro e W9 ⟨rfl, h1⟩
        have HX9 := Lib.hid h1
        clear h1 HX8 p0 p1 p2
        go_wp2_with fail
        refine (awake_st HX9.out).mono ?_
        rintro e W10 ⟨rfl, h1⟩
        have HX10 := Lib.hid h1
        clear h1 HX9
        go_wp2
        go_ret
        exact ⟨rfl, HX10.out.bel⟩
      · have HF := Lib.hid hf
        clear hf
        obtain ⟨p0, p1, p2, _⟩ := HX2.out.at_
        rw [HAV.out] at p0 p1 p2
        dsimp only at p0 p1 p2
        go_wp2_with fail
        rw [← HVV.out]
        refine (Has_st HX2.out s false true HS.out (star1 _)).mono ?_
        rintro e W3 ⟨rfl, h1⟩
        have HX3 := Lib.hid h1
        clear h1 HX2 p0 p1 p2
        obtain ⟨p0, p1, p2, _⟩ := HX3.out.at_
        rw [HAV.out] at p0 p1 p2
        dsimp only at p0 p1 p2
        go_wp2_with fail
        rw [← HVV.out]
        refine (Has_st HX3.out s true false HS.out (by rw [star2]; exact HV.out)).mono ?_
        rintro e W4 ⟨rfl, h1⟩
        have HX4 := Lib.hid h1
        clear h1 HX3 p0 p1 p2
        go_wp2_with fail
        refine (Safe_st HX4.out s false HS.out HQ.out).mono ?_
        rintro e W5 ⟨rfl, h1⟩
        have HX5 := Lib.hid h1
        clear h1 HX4
        obtain ⟨p0, p1, p2, _⟩ := HX5.out.at_
        rw [HAV.out] at p0 p1 p2
        dsimp only at p0 p1 p2
        go_wp2_with fail
        rw [← HVV.out]
        refine (Covers_st HX5.out t creds false HT2.out (star3 HT1.out creds)).mono ?_
        rintro e W6 ⟨rfl, h1⟩
        have HX6 := Lib.hid h1
        clear h1 HX5 p0 p1 p2
        go_wp2_with fail
        refine (Fold_st HX6.out s t true HS.out HT2.out HF.out).mono ?_
        rintro e W7 ⟨rfl, h1⟩
        have HX7 := Lib.hid h1
        clear h1 HX6
        obtain ⟨p0, p1, p2, _⟩ := HX7.out.at_
        rw [HAV.out] at p0 p1 p2
        dsimp only at p0 p1 p2
        go_wp2_with fail
        rw [← HVV.out]
        refine (Covers_st HX7.out s true false HS.out (by rw [star5]; exact HC.out)).mono ?_
        rintro e W8 ⟨rfl, h1⟩
        have HX8 := Lib.hid h1
        clear h1 HX7 p0 p1 p2
        go_wp2_with fail
        refine (awake_st HX8.out).mono ?_
        rintro e W9 ⟨rfl, h1⟩
        have HX9 := Lib.hid h1
        clear h1 HX8
        go_wp2
        go_ret
        exact ⟨rfl, HX9.out.bel⟩
    · have HQ := Lib.hid hq
      clear hq
      have HV : Hid (((s.data.toList == [42]) || Lk.safeL s.data.toList) = true) := by show _ = _; rw [HC.out, HQ.out]; rfl
      cases hf : Lk.foldL s.data.toList t.data.toList
      · have HF := Lib.hid hf
        clear hf
        obtain ⟨p0, p1, p2, _⟩ := HX2.out.at_
        rw [HAV.out] at p0 p1 p2
        dsimp only at p0 p1 p2
        go_wp2_with fail
        rw [← HVV.out]
        refine (Has_st HX2.out s false true HS.out (star1 _)).mono ?_
        rintro e W3 ⟨rfl, h1⟩
        have HX3 := Lib.hid h1
        clear h1 HX2 p0 p1 p2
        obtain ⟨p0, p1, p2, _⟩ := HX3.out.at_
        rw [HAV.out] at p0 p1 p2
        dsimp only at p0 p1 p2
        go_wp2_with fail
        rw [← HVV.out]
        refine (Has_st HX3.out s true true HS.out (by rw [star2]; exact HV.out)).mono ?_
        rintro e W4 ⟨rfl, h1⟩
        have HX4 := Lib.hid h1
        clear h1 HX3 p0 p1 p2
        go_wp2_with fail
        refine (Safe_st HX4.out s true HS.out HQ.out).mono ?_
        rintro e W5 ⟨rfl, h1⟩
        have HX5 := Lib.hid h1
        clear h1 HX4
        obtain ⟨p0, p1, p2, _⟩ := HX5.out.at_
        rw [HAV.out] at p0 p1 p2
        dsimp only at p0 p1 p2
        go_wp2_with fail
        rw [← HVV.out]
        refine (Covers_st HX5.out t creds false HT2.out (star3 HT1.out creds)).mono ?_
        rintro e W6 ⟨rfl, h1⟩
        have HX6 := Lib.hid h1
        clear h1 HX5 p0 p1 p2
        go_wp2_with fail
        refine (Fold_st HX6.out s t false HS.out HT2.out HF.out).mono ?_
        rintro e W7 ⟨rfl, h1⟩
        have HX7 := Lib.hid h1
        clear h1 HX6
        obtain ⟨p0, p1, p2, _⟩ := HX7.out.at_
        rw [HAV.out] at p0 p1 p2
        dsimp only at p0 p1 p2
        go_wp2_with fail
        rw [← HVV.out]
        refine (Covers_st HX7.out s false true HS.out (star4 HT1.out HF.out)).mono ?_
        rintro e W8 ⟨rfl, h1⟩
        have HX8 := Lib.hid h1
        clear h1 HX7 p0 p1 p2
        obtain ⟨p0, p1, p2, _⟩ := HX8.out.at_
        rw [HAV.out] at p0 p1 p2
        dsimp only at p0 p1 p2
        go_wp2_with fail
        rw [← HVV.out]
        refine (Covers_st HX8.out s true false HS.out (by rw [star5]; exact HC.out)).mono ?_
        rintro e W9 ⟨rfl, h1⟩
        have HX9 := Lib.hid h1
        clear h1 HX8 p0 p1 p2
        go_wp2_with fail
        refine (awake_st HX9.out).mono ?_
        rintro e W10 ⟨rfl, h1⟩
        have HX10 := Lib.hid h1
        clear h1 HX9
        go_wp2
        go_ret
        exact ⟨rfl, HX10.out.bel⟩
      · have HF := Lib.hid hf
        clear hf
        obtain ⟨p0, p1, p2, _⟩ := HX2.out.at_
        rw [HAV.out] at p0 p1 p2
        dsimp only at p0 p1 p2
        go_wp2_with fail
        rw [← HVV.out]
        refine (Has_st HX2.out s false true HS.out (star1 _)).mono ?_
        rintro e W3 ⟨rfl, h1⟩
        have HX3 := Lib.hid h1
        clear h1 HX2 p0 p1 p2
        obtain ⟨p0, p1, p2, _⟩ := HX3.out.at_
        rw [HAV.out] at p0 p1 p2
        dsimp only at p0 p1 p2
        go_wp2_with fail
        rw [← HVV.out]
        refine (Has_st HX3.out s true true HS.out (by rw [star2]; exact HV.out)).mono ?_
        rintro e W4 ⟨rfl, h1⟩
        have HX4 := Lib.hid h1
        clear h1 HX3 p0 p1 p2
        go_wp2_with fail
        refine (Safe_st HX4.out s true HS.out HQ.out).mono ?_
        rintro e W5 ⟨rfl, h1⟩
        have HX5 := Lib.hid h1
        clear h1 HX4
        obtain ⟨p0, p1, p2, _⟩ := HX5.out.at_
        rw [HAV.out] at p0 p1 p2
        dsimp only at p0 p1 p2
        go_wp2_with fail
        rw [← HVV.out]
        refine (Covers_st HX5.out t creds false HT2.out (star3 HT1.out creds)).mono ?_
        rintro e W6 ⟨rfl, h1⟩
        have HX6 := Lib.hid h1
        clear h1 HX5 p0 p1 p2
        go_wp2_with fail
        refine (Fold_st HX6.out s t true HS.out HT2.out HF.out).mono ?_
        rintro e W7 ⟨rfl, h1⟩
        have HX7 := Lib.hid h1
        clear h1 HX6
        obtain ⟨p0, p1, p2, _⟩ := HX7.out.at_
        rw [HAV.out] at p0 p1 p2
        dsimp only at p0 p1 p2
        go_wp2_with fail
        rw [← HVV.out]
        refine (Covers_st HX7.out s true false HS.out (by rw [star5]; exact HC.out)).mono ?_
        rintro e W8 ⟨rfl, h1⟩
        have HX8 := Lib.hid h1
        clear h1 HX7 p0 p1 p2
        go_wp2_with fail
        refine (awake_st HX8.out).mono ?_
        rintro e W9 ⟨rfl, h1⟩
        have HX9 := Lib.hid h1
        clear h1 HX8
        go_wp2
        go_ret
        exact ⟨rfl, HX9.out.bel⟩
  · have HC : Hid ((s.data.toList == [42]) = true) := by show _ = _; rw [← ByteArray.toList_eq]; exact hc
    have HV : Hid (((s.data.toList == [42]) || Lk.safeL s.data.toList) = true) := by show _ = _; rw [HC.out]; rfl
    cases hf : Lk.foldL s.data.toList t.data.toList
    · have HF := Lib.hid hf
      clear hf
      obtain ⟨p0, p1, p2, _⟩ := HX2.out.at_
      rw [HAV.out] at p0 p1 p2
      dsimp only at p0 p1 p2
      go_wp2_with fail
      rw [← HVV.out]
      refine (Has_st HX2.out s false true HS.out (star1 _)).mono ?_
      rintro e W3 ⟨rfl, h1⟩
      have HX3 := Lib.hid h1
      clear h1 HX2 p0 p1 p2
      obtain ⟨p0, p1, p2, _⟩ := HX3.out.at_
      rw [HAV.out] at p0 p1 p2
      dsimp only at p0 p1 p2
      go_wp2_with fail
      rw [← HVV.out]
      refine (Has_st HX3.out s true true HS.out (by rw [star2]; exact HV.out)).mono ?_
      rintro e W4 ⟨rfl, h1⟩
      have HX4 := Lib.hid h1
      clear h1 HX3 p0 p1 p2
      obtain ⟨p0, p1, p2, _⟩ := HX4.out.at_
      rw [HAV.out] at p0 p1 p2
      dsimp only at p0 p1 p2
      go_wp2_with fail
      rw [← HVV.out]
      refine (Covers_st HX4.out t creds false HT2.out (star3 HT1.out creds)).mono ?_
      rintro e W5 ⟨rfl, h1⟩
      have HX5 := Lib.hid h1
      clear h1 HX4 p0 p1 p2
      go_wp2_with fail
      refine (Fold_st HX5.out s t false HS.out HT2.out HF.out).mono ?_
      rintro e W6 ⟨rfl, h1⟩
      have HX6 := Lib.hid h1
      clear h1 HX5
      obtain ⟨p0, p1, p2, _⟩ := HX6.out.at_
      rw [HAV.out] at p0 p1 p2
      dsimp only at p0 p1 p2
      go_wp2_with fail
      rw [← HVV.out]
      refine (Covers_st HX6.out s false true HS.out (star4 HT1.out HF.out)).mono ?_
      rintro e W7 ⟨rfl, h1⟩
      have HX7 := Lib.hid h1
      clear h1 HX6 p0 p1 p2
      obtain ⟨p0, p1, p2, _⟩ := HX7.out.at_
      rw [HAV.out] at p0 p1 p2
      dsimp only at p0 p1 p2
      go_wp2_with fail
      rw [← HVV.out]
      refine (Covers_st HX7.out s true true HS.out (by rw [star5]; exact HC.out)).mono ?_
      rintro e W8 ⟨rfl, h1⟩
      have HX8 := Lib.hid h1
      clear h1 HX7 p0 p1 p2
      go_wp2_with fail
      refine (awake_st HX8.out).mono ?_
      rintro e W9 ⟨rfl, h1⟩
      have HX9 := Lib.hid h1
      clear h1 HX8
      go_wp2
      go_ret
      exact ⟨rfl, HX9.out.bel⟩
    · have HF := Lib.hid hf
      clear hf
      obtain ⟨p0, p1, p2, _⟩ := HX2.out.at_
      rw [HAV.out] at p0 p1 p2
      dsimp only at p0 p1 p2
      go_wp2_with fail
      rw [← HVV.out]
      refine (Has_st HX2.out s false true HS.out (star1 _)).mono ?_
      rintro e W3 ⟨rfl, h1⟩
      have HX3 := Lib.hid h1
      clear h1 HX2 p0 p1 p2
      obtain ⟨p0, p1, p2, _⟩ := HX3.out.at_
      rw [HAV.out] at p0 p1 p2
      dsimp only at p0 p1 p2
      go_wp2_with fail
      rw [← HVV.out]
      refine (Has_st HX3.out s true true HS.out (by rw [star2]; exact HV.out)).mono ?_
      rintro e W4 ⟨rfl, h1⟩
      have HX4 := Lib.hid h1
      clear h1 HX3 p0 p1 p2
      obtain ⟨p0, p1, p2, _⟩ := HX4.out.at_
      rw [HAV.out] at p0 p1 p2
      dsimp only at p0 p1 p2
      go_wp2_with fail
      rw [← HVV.out]
      refine (Covers_st HX4.out t creds false HT2.out (star3 HT1.out creds)).mono ?_
      rintro e W5 ⟨rfl, h1⟩
      have HX5 := Lib.hid h1
      clear h1 HX4 p0 p1 p2
      go_wp2_with fail
      refine (Fold_st HX5.out s t true HS.out HT2.out HF.out).mono ?_
      rintro e W6 ⟨rfl, h1⟩
      have HX6 := Lib.hid h1
      clear h1 HX5
      obtain ⟨p0, p1, p2, _⟩ := HX6.out.at_
      rw [HAV.out] at p0 p1 p2
      dsimp only at p0 p1 p2
      go_wp2_with fail
      rw [← HVV.out]
      refine (Covers_st HX6.out s true true HS.out (by rw [star5]; exact HC.out)).mono ?_
      rintro e W7 ⟨rfl, h1⟩
      have HX7 := Lib.hid h1
      clear h1 HX6 p0 p1 p2
      go_wp2_with fail
      refine (awake_st HX7.out).mono ?_
      rintro e W8 ⟨rfl, h1⟩
      have HX8 := Lib.hid h1
      clear h1 HX7
      go_wp2
      go_ret
      exact ⟨rfl, HX8.out.bel⟩
end Go.Proofs.YtnoiciakbbkngaaDoor
