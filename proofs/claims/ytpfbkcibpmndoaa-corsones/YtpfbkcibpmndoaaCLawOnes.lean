/-
  The walk of the law CorsOnes: whatever the input, it returns true, and nothing that was there has turned. Conditions: the arguments are such as any that come in.
-/
import Derived.Test.YtpfbkcibpmndoaaCAwake
namespace Go.Proofs.Ytpfbkcibpmndoaa
open Go.RowKit

def nA : ByteArray := ⟨#[97, 99, 99, 101, 115, 115, 45, 99, 111, 110, 116, 114, 111, 108, 45, 97, 108, 108, 111, 119, 45, 111, 114, 105, 103, 105, 110]⟩
def nC : ByteArray := ⟨#[97, 99, 99, 101, 115, 115, 45, 99, 111, 110, 116, 114, 111, 108, 45, 97, 108, 108, 111, 119, 45, 99, 114, 101, 100, 101, 110, 116, 105, 97, 108, 115]⟩
theorem get_one (n v : List UInt8) : getH [(n, v)] n = Lk.trimL v := by simp [getH, valsH, fold_refl, Lk.joinL]
theorem get_two (n v u : List UInt8) : getH [(n, v), (n, u)] n = Lk.trimL v ++ 44 :: 32 :: Lk.trimL u := by simp [getH, valsH, fold_refl, Lk.joinL]
theorem get_fst (n m v u : List UInt8) (h : Lk.foldL m n = false) : getH [(n, v), (m, u)] n = Lk.trimL v := by simp [getH, valsH, fold_refl, Lk.joinL, h]
theorem get_snd (n m v u : List UInt8) (h : Lk.foldL n m = false) : getH [(n, v), (m, u)] m = Lk.trimL u := by simp [getH, valsH, fold_refl, Lk.joinL, h]
theorem get_none (n m v : List UInt8) (h : Lk.foldL n m = false) : getH [(n, v)] m = [] := by simp [getH, valsH, Lk.joinL, h]
theorem got_fst (n v : List UInt8) (r : List Hd) : gotH ((n, v) :: r) n = true := by simp [gotH, fold_refl]
theorem fold_ac : Lk.foldL orgN crdN = false := by decide
theorem fold_ca : Lk.foldL crdN orgN = false := by decide
theorem nA_l : nA.data.toList = orgN := rfl
theorem nC_l : nC.data.toList = crdN := rfl
theorem ones_1 {o : ByteArray} (h1 : Lk.trimL o.data.toList = o.data.toList) : chkH o.data.toList false ([(nA, o)].map hd) = 0 := by
  unfold chkH hd
  simp only [List.map_cons, List.map_nil, nA_l, got_fst, get_one, h1]
  unfold chk
  simp
theorem ones_2 {o u : ByteArray} (h1 : Lk.trimL u.data.toList ≠ o.data.toList) (h2 : Lk.trimL u.data.toList ≠ [42]) : chkH o.data.toList false ([(nA, u)].map hd) = 15 := by
  unfold chkH hd
  simp only [List.map_cons, List.map_nil, nA_l, got_fst, get_one]
  unfold chk
  simp [h1, h2]
theorem ones_3 {o : ByteArray} (h1 : Lk.trimL o.data.toList = o.data.toList) : chkH o.data.toList false ([(nA, o), (nA, o)].map hd) = 15 := by
  unfold chkH hd
  simp only [List.map_cons, List.map_nil, nA_l, got_fst, get_two, h1]
  have e1 : (o.data.toList ++ 44 :: 32 :: o.data.toList == [42]) = false := by
    rw [beq_eq_false_iff_ne]; intro h
    have := congrArg List.length h
    simp at this; omega
  have e2 : (o.data.toList ++ 44 :: 32 :: o.data.toList == o.data.toList) = false := by
    rw [beq_eq_false_iff_ne]; intro h
    have := congrArg List.length h
    simp at this
  rw [e1, e2]
  rfl
theorem ones_4 {o : ByteArray} (h1 : Lk.trimL o.data.toList = o.data.toList) : chkH o.data.toList true ([(nA, o)].map hd) = 15 := by
  unfold chkH truH hd
  simp only [List.map_cons, List.map_nil, nA_l, got_fst, get_one, h1, get_none _ _ _ fold_ac]
  unfold chk truL
  simp
theorem ones_5 {o u : ByteArray} (h1 : Lk.trimL o.data.toList = o.data.toList) {b : Bool} (hb : (Lk.trimL u.data.toList == truL) = b) : chkH o.data.toList true ([(nA, o), (nC, u)].map hd) = if b then 0 else 15 := by
  unfold chkH truH hd
  simp only [List.map_cons, List.map_nil, nA_l, nC_l, got_fst, get_fst _ _ _ _ fold_ca, h1, get_snd _ _ _ _ fold_ac, hb]
  unfold chk
  cases b <;> simp
theorem sm_of {xs : List (ByteArray × ByteArray)} (h1 : xs.length ≤ 1000) (h2 : ∀ x ∈ xs, x.1.size ≤ 100000 ∧ x.2.size ≤ 100000) : Sm (xs.map hd) := by
  refine ⟨by simpa using h1, fun h hh => ?_⟩
  obtain ⟨x, hx, rfl⟩ := List.mem_map.1 hh
  simpa [hd] using h2 x hx
structure OnesF (w W : World) (ga gb gc : Nat) (o u v : ByteArray) : Prop where
  bel : Below w.heap.size w W
  xa : HdAt W ga nA o
  xb : HdAt W gb nA u
  xc : HdAt W gc nC v
theorem OnesF.next {w W W' : World} {ga gb gc : Nat} {o u v : ByteArray} (h : OnesF w W ga gb gc o u v) (hb : Below W.heap.size W W') : OnesF w W' ga gb gc o u v :=
  ⟨h.bel.trans (hb.mono h.bel.size), h.xa.below hb h.xa.lt, h.xb.below hb h.xb.lt, h.xc.below hb h.xc.lt⟩

set_option maxRecDepth 100000 in
set_option maxHeartbeats 8000000 in
theorem walk_CorsOnes (o u v : ByteArray) (w : World) (h0 : o.size ≤ maxLen) (h1 : u.size ≤ maxLen) (h2 : v.size ≤ maxLen) :
    Calls Try.prog 4 #[.string o, .string u, .string v] w fun e w' => e = .returned (.bool true) ∧ Below w.heap.size w w' := by
  have H0 := Lib.hid h0
  have H1 := Lib.hid h1
  have H2 := Lib.hid h2
  clear h0 h1 h2
  obtain ⟨W0, hW0⟩ : ∃ W0, W0 = w.alloc (.cells #[.string o, .string u, .string v] 9) := ⟨_, rfl⟩
  have hb0 : Below w.heap.size w W0 := by rw [hW0]; exact (Below.refl _ _).alloc (Nat.le_refl _) _
  have HB0 := Lib.hid hb0
  have HO : Hid (SRow W0 (w.heap.size + 1) (some ⟨w.heap.size, 0, none⟩) [o, u, v]) := by show SRow _ _ _ _; rw [hW0]; exact SRow.three_at w o u v _ _ rfl
  clear hb0
  obtain ⟨lv, hlv⟩ : ∃ lv, Lk.longL (Int.toNat 300) ([o, u, v].map ByteArray.size) = lv := ⟨_, rfl⟩
  have HLV := Lib.hid hlv
  clear hlv
  obtain ⟨o1, ho1⟩ : ∃ o1 : ByteArray, o1 = ⟨(Lk.trimL o.data.toList).toArray⟩ := ⟨_, rfl⟩
  obtain ⟨u1, hu1⟩ : ∃ u1 : ByteArray, u1 = ⟨(Lk.trimL u.data.toList).toArray⟩ := ⟨_, rfl⟩
  obtain ⟨v1, hv1⟩ : ∃ v1 : ByteArray, v1 = ⟨(Lk.trimL v.data.toList).toArray⟩ := ⟨_, rfl⟩
  have HO1 := Lib.hid ho1
  have HU1 := Lib.hid hu1
  have HV1 := Lib.hid hv1
  have hol : o1.data.toList = Lk.trimL o.data.toList := by rw [ho1]
  have hul : u1.data.toList = Lk.trimL u.data.toList := by rw [hu1]
  have hvl : v1.data.toList = Lk.trimL v.data.toList := by rw [hv1]
  have HQ1 : Hid ((o1.toList == o.toList) = true → Lk.trimL o.data.toList = o.data.toList) := by
    show _ → _
    intro h
    rw [ByteArray.toList_eq, ByteArray.toList_eq, hol] at h
    exact eq_of_beq h
  have HQ2 : Hid ((u1.toList == o.toList) = false → Lk.trimL u.data.toList ≠ o.data.toList) := by
    show _ → _
    intro h
    rw [ByteArray.toList_eq, ByteArray.toList_eq, hul, beq_eq_false_iff_ne] at h
    exact h
  have HQ4 : Hid ((u1.toList == [42]) = false → Lk.trimL u.data.toList ≠ [42]) := by
    show _ → _
    intro h
    rw [ByteArray.toList_eq, hul, beq_eq_false_iff_ne] at h
    exact h
  have HQ5 : Hid ((v1.toList == [116, 114, 117, 101]) = (Lk.trimL v.data.toList == truL)) := by show _ = _; rw [beq_l hvl]; rfl
  clear ho1 hu1 hv1 hol hul hvl
  generalize hq1 : (o1.toList == o.toList) = q1 at *
  generalize hq2 : (u1.toList == o.toList) = q2 at *
  generalize hq3 : (o.toList == [42]) = q3 at *
  generalize hq4 : (u1.toList == [42]) = q4 at *
  generalize hq5 : (v1.toList == [116, 114, 117, 101]) = q5 at *
  go_enter Try.func4, Try.ntmps4
  go_wp2_with fail
  rw [← hW0]
  clear hW0
  refine (Long_any 300 _ 3 3 [o, u, v] W0 (w.heap.size + 1) (by decide) (by decide) rfl HO.out (by simp [maxLen]) (by intro x hx; simp at hx; rcases hx with rfl | rfl | rfl <;> first | exact H0.out | exact H1.out | exact H2.out)).mono ?_
  rintro e w' ⟨rfl, rfl⟩
  rw [show Lk.longL (Int.toNat 300) ([o, u, v].map ByteArray.size) = lv from HLV.out]
  cases lv
  case true =>
    go_wp2_with fail
    refine (awake15_any _).mono ?_
    rintro e w1 ⟨rfl, hb⟩
    have HBZ : Hid (Below w.heap.size w w1) := HB0.out.trans (hb.mono HB0.out.size)
    clear hb
    go_wp2
    go_ret
    exact ⟨rfl, HBZ.out⟩
  case false =>
  have hsz := Lk.long_no _ _ HLV.out
  simp at hsz
  have HSZ : Hid (o.size ≤ 300 ∧ u.size ≤ 300 ∧ v.size ≤ 300) := by show _ ∧ _; omega
  clear hsz
  go_wp2_with fail
  refine (Trim_as o o1 _ H0.out HO1.out).mono ?_
  rintro e w' ⟨rfl, rfl⟩
  cases q1
  case false =>
    go_wp2_with fail
    refine (awake15_any _).mono ?_
    rintro e w1 ⟨rfl, hb⟩
    have HBZ : Hid (Below w.heap.size w w1) := HB0.out.trans (hb.mono HB0.out.size)
    clear hb
    go_wp2
    go_ret
    exact ⟨rfl, HBZ.out⟩
  case true =>
  go_wp2_with fail
  refine (Trim_as u u1 _ H1.out HU1.out).mono ?_
  rintro e w' ⟨rfl, rfl⟩
  cases q2
  case true =>
    go_wp2_with fail
    refine (awake15_any _).mono ?_
    rintro e w1 ⟨rfl, hb⟩
    have HBZ : Hid (Below w.heap.size w w1) := HB0.out.trans (hb.mono HB0.out.size)
    clear hb
    go_wp2
    go_ret
    exact ⟨rfl, HBZ.out⟩
  case false =>
  cases q3
  case true =>
    go_wp2_with fail
    refine (awake15_any _).mono ?_
    rintro e w1 ⟨rfl, hb⟩
    have HBZ : Hid (Below w.heap.size w w1) := HB0.out.trans (hb.mono HB0.out.size)
    clear hb
    go_wp2
    go_ret
    exact ⟨rfl, HBZ.out⟩
  case false =>
  go_wp2_with fail
  refine (Trim_as u u1 _ H1.out HU1.out).mono ?_
  rintro e w' ⟨rfl, rfl⟩
  cases q4
  case true =>
    go_wp2_with fail
    refine (awake15_any _).mono ?_
    rintro e w1 ⟨rfl, hb⟩
    have HBZ : Hid (Below w.heap.size w w1) := HB0.out.trans (hb.mono HB0.out.size)
    clear hb
    go_wp2
    go_ret
    exact ⟨rfl, HBZ.out⟩
  case false =>
  have HT1 := Lib.hid (HQ1.out (by simp))
  have HT2 := Lib.hid (HQ2.out (by simp))
  have HT4 := Lib.hid (HQ4.out (by simp))
  clear HQ1 HQ2 HQ4
  obtain ⟨WA, hWA⟩ : ∃ WA, WA = W0.alloc (.cells #[.string nA, .string o] 35) := ⟨_, rfl⟩
  obtain ⟨WB, hWB⟩ : ∃ WB, WB = WA.alloc (.cells #[.string nA, .string u] 35) := ⟨_, rfl⟩
  obtain ⟨WC, hWC⟩ : ∃ WC, WC = WB.alloc (.cells #[.string nC, .string v] 35) := ⟨_, rfl⟩
  have hba : Below W0.heap.size W0 WA := by rw [hWA]; exact (Below.refl _ _).alloc (Nat.le_refl _) _
  have hbb : Below WA.heap.size WA WB := by rw [hWB]; exact (Below.refl _ _).alloc (Nat.le_refl _) _
  have hbc : Below WB.heap.size WB WC := by rw [hWC]; exact (Below.refl _ _).alloc (Nat.le_refl _) _
  have xa : HdAt WA W0.heap.size nA o := by rw [hWA]; exact HdAt.new _ _ _ _
  have xb : HdAt WB WA.heap.size nA u := by rw [hWB]; exact HdAt.new _ _ _ _
  have xc : HdAt WC WB.heap.size nC v := by rw [hWC]; exact HdAt.new _ _ _ _
  have ea : WA.heap.size = W0.heap.size + 1 := by rw [hWA]; simp
  have eb : WB.heap.size = W0.heap.size + 1 + 1 := by rw [hWB, World.size_alloc, ea]
  have HF : Hid (OnesF w WC W0.heap.size (W0.heap.size + 1) (W0.heap.size + 1 + 1) o u v) := by
    have h1 := xa.below hbb xa.lt
    refine ⟨HB0.out.trans ((hba.trans ((hbb.trans (hbc.mono (by omega))).mono (by omega))).mono HB0.out.size), h1.below hbc h1.lt, ?_, ?_⟩
    · rw [← ea]; exact xb.below hbc xb.lt
    · rw [← eb]; exact xc
  rw [hWB, hWA] at hWC
  have HWC := Lib.hid hWC
  obtain ⟨ga, hga⟩ : ∃ ga, ga = W0.heap.size := ⟨_, rfl⟩
  obtain ⟨y0, y1⟩ := HF.out.xa
  obtain ⟨z0, z1⟩ := HF.out.xb
  obtain ⟨x0, x1⟩ := HF.out.xc
  have HG : Hid (WC.heap.size = ga + 1 + 1 + 1) := by show _ = _; rw [hWC, World.size_alloc, World.size_alloc, World.size_alloc, hga]
  rw [← hga] at HF y0 y1 z0 z1 x0 x1
  rw [hWC] at y0 y1
  clear hba hbb hbc xa xb xc ea eb hWB hWA HO HB0
  unfold nA nC at *
  go_wp2_with fail
  rw [← hWC, ← hga]
  clear hWC hga HWC
  refine (chk_as o false _ 1 1 (ga + 1 + 1 + 1 + 1) [(⟨#[97, 99, 99, 101, 115, 115, 45, 99, 111, 110, 116, 114, 111, 108, 45, 97, 108, 108, 111, 119, 45, 111, 114, 105, 103, 105, 110]⟩, o)] _ 0 rfl (by simp [HG.out]) (PRow.one_at _ _ _ _ _ HG.out.symm) (sm_of (by simp) (by intro x hx; have h := HSZ.out; simp at hx; subst hx; exact ⟨by dsimp only; decide, by dsimp only; omega⟩)) (ones_1 HT1.out)).mono ?_
  rintro e w1 ⟨rfl, hb⟩
  have HF1 := Lib.hid (HF.out.next (((Below.refl _ _).alloc (Nat.le_refl _) _).trans (hb.mono (by simp))))
  clear hb y0 y1 z0 z1 x0 x1
  obtain ⟨y0, y1⟩ := HF1.out.xa
  obtain ⟨z0, z1⟩ := HF1.out.xb
  obtain ⟨x0, x1⟩ := HF1.out.xc
  go_wp2_with fail
  refine (chk_as o false _ 1 1 (w1.heap.size + 1) [(⟨#[97, 99, 99, 101, 115, 115, 45, 99, 111, 110, 116, 114, 111, 108, 45, 97, 108, 108, 111, 119, 45, 111, 114, 105, 103, 105, 110]⟩, u)] _ 15 rfl (by simp) (PRow.one_at _ _ _ _ _ rfl) (sm_of (by simp) (by intro x hx; have h := HSZ.out; simp at hx; subst hx; exact ⟨by dsimp only; decide, by dsimp only; omega⟩)) (ones_2 HT2.out HT4.out)).mono ?_
  rintro e w2 ⟨rfl, hb⟩
  have HF2 := Lib.hid (HF1.out.next (((Below.refl _ _).alloc (Nat.le_refl _) _).trans (hb.mono (by simp))))
  clear hb y0 y1 z0 z1 x0 x1
  obtain ⟨y0, y1⟩ := HF2.out.xa
  obtain ⟨z0, z1⟩ := HF2.out.xb
  obtain ⟨x0, x1⟩ := HF2.out.xc
  go_wp2_with fail
  refine (chk_as o false _ 2 2 (w2.heap.size + 1) [(⟨#[97, 99, 99, 101, 115, 115, 45, 99, 111, 110, 116, 114, 111, 108, 45, 97, 108, 108, 111, 119, 45, 111, 114, 105, 103, 105, 110]⟩, o), (⟨#[97, 99, 99, 101, 115, 115, 45, 99, 111, 110, 116, 114, 111, 108, 45, 97, 108, 108, 111, 119, 45, 111, 114, 105, 103, 105, 110]⟩, o)] _ 15 rfl (by simp) (PRow.two_at _ _ _ _ _ _ _ rfl) (sm_of (by simp) (by intro x hx; have h := HSZ.out; simp at hx; subst hx; exact ⟨by dsimp only; decide, by dsimp only; omega⟩)) (ones_3 HT1.out)).mono ?_
  rintro e w3 ⟨rfl, hb⟩
  have HF3 := Lib.hid (HF2.out.next (((Below.refl _ _).alloc (Nat.le_refl _) _).trans (hb.mono (by simp))))
  clear hb y0 y1 z0 z1 x0 x1
  obtain ⟨y0, y1⟩ := HF3.out.xa
  obtain ⟨z0, z1⟩ := HF3.out.xb
  obtain ⟨x0, x1⟩ := HF3.out.xc
  go_wp2_with fail
  refine (chk_as o true _ 1 1 (w3.heap.size + 1) [(⟨#[97, 99, 99, 101, 115, 115, 45, 99, 111, 110, 116, 114, 111, 108, 45, 97, 108, 108, 111, 119, 45, 111, 114, 105, 103, 105, 110]⟩, o)] _ 15 rfl (by simp) (PRow.one_at _ _ _ _ _ rfl) (sm_of (by simp) (by intro x hx; have h := HSZ.out; simp at hx; subst hx; exact ⟨by dsimp only; decide, by dsimp only; omega⟩)) (ones_4 HT1.out)).mono ?_
  rintro e w4 ⟨rfl, hb⟩
  have HF4 := Lib.hid (HF3.out.next (((Below.refl _ _).alloc (Nat.le_refl _) _).trans (hb.mono (by simp))))
  clear hb y0 y1 z0 z1 x0 x1
  obtain ⟨y0, y1⟩ := HF4.out.xa
  obtain ⟨z0, z1⟩ := HF4.out.xb
  obtain ⟨x0, x1⟩ := HF4.out.xc
  go_wp2_with fail
  refine (chk_as o true _ 2 2 (w4.heap.size + 1) [(⟨#[97, 99, 99, 101, 115, 115, 45, 99, 111, 110, 116, 114, 111, 108, 45, 97, 108, 108, 111, 119, 45, 111, 114, 105, 103, 105, 110]⟩, o), (⟨#[97, 99, 99, 101, 115, 115, 45, 99, 111, 110, 116, 114, 111, 108, 45, 97, 108, 108, 111, 119, 45, 99, 114, 101, 100, 101, 110, 116, 105, 97, 108, 115]⟩, v)] _ (if q5 then 0 else 15) rfl (by simp) (PRow.two_at _ _ _ _ _ _ _ rfl) (sm_of (by simp) (by intro x hx; have h := HSZ.out; simp at hx; rcases hx with rfl | rfl <;> exact ⟨by dsimp only; decide, by dsimp only; omega⟩)) (ones_5 HT1.out HQ5.out.symm)).mono ?_
  rintro e w5 ⟨rfl, hb⟩
  have HF5 := Lib.hid (HF4.out.next (((Below.refl _ _).alloc (Nat.le_refl _) _).trans (hb.mono (by simp))))
  clear hb y0 y1 z0 z1 x0 x1
  obtain ⟨y0, y1⟩ := HF5.out.xa
  obtain ⟨z0, z1⟩ := HF5.out.xb
  obtain ⟨x0, x1⟩ := HF5.out.xc
  clear y0 y1 z0 z1 x0 x1
  cases q5 <;>
  · go_wp2_with fail
    refine (Trim_as v v1 _ H2.out HV1.out).mono ?_
    rintro e w' ⟨rfl, rfl⟩
    go_wp2_with fail
    refine (awake15_any _).mono ?_
    rintro e w7 ⟨rfl, hb⟩
    have HF7 := Lib.hid (HF5.out.next hb)
    clear hb
    go_wp2
    go_ret
    exact ⟨rfl, HF7.out.bel⟩
end Go.Proofs.Ytpfbkcibpmndoaa
