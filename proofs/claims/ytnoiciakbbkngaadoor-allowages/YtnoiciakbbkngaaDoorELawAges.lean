/-
  The walk of the law AllowAges: whatever the input, it returns true, and nothing that was there has turned. Conditions: the table of methods is as it is laid.
-/
import Derived.Test.YtnoiciakbbkngaaDoorEBox
import Derived.Test.YtnoiciakbbkngaaDoorEMath2
import Derived.Deep.CutRange
namespace Go.Proofs.YtnoiciakbbkngaaDoor
open Go.RowKit

def ageB : ByteArray := ⟨#[97, 99, 99, 101, 115, 115, 45, 99, 111, 110, 116, 114, 111, 108, 45, 109, 97, 120, 45, 97, 103, 101]⟩
/-- Read of one header alone, that of the age -/
theorem ReadAge_any (v : ByteArray) (w W : World) (m : Int) (c : Nat) (g : Nat) (hg : g = w.heap.size) (hW : W = w.alloc (.cells #[.string ageB, .string v] 45)) (hz : v.size ≤ 100000) (hm : m = (ageV (Lk.trimL v.data.toList) : Int)) :
    Calls Tryd.prog 10 #[.slice (some ⟨g, 0, none⟩) 1 c] W fun e w' => ∃ (A1 A2 : Option Addr) (c1 c2 : Nat), e = .returned (.tuple #[.agg #[.slice A1 0 c1, .slice A2 0 c2, .int .u64 m], .int .i64 0]) ∧ Below w.heap.size w w' := by
  have hr : PRow W (g + 1) (some ⟨g, 0, none⟩) [(ageB, v)] := by rw [hW]; exact PRow.one_at _ _ _ _ _ hg
  have hh : [(ageB, v)].map hd = [(agN, v.data.toList)] := rfl
  obtain ⟨hi, ha⟩ := age_only v.data.toList
  have hb0 : Below w.heap.size w W := by rw [hW]; exact (Below.refl _ _).alloc (Nat.le_refl _) _
  have hzz : v.data.toList.length = v.size := by simp
  refine (ARead_any (some ⟨g, 0, none⟩) 1 c (g + 1) [(ageB, v)] W rfl (by rw [hW, hg]; simp) hr ⟨by simp, ?_⟩).mono ?_
  · intro h hh2
    rw [hh, List.mem_singleton] at hh2
    subst hh2
    exact ⟨(by decide : agN.length ≤ 100000), by show v.data.toList.length ≤ _; omega⟩
  · rintro e w1 ⟨a, rfl, h1, h2⟩
    rw [hh] at h1 ⊢
    rw [hi]
    rw [ha] at h1
    obtain ⟨A1, n1, c1, A2, n2, c2, gg⟩ := a
    obtain rfl : n1 = 0 := h1.e1
    obtain rfl : n2 = 0 := h1.e2
    obtain rfl : gg = m := by rw [hm]; exact h1.g
    exact ⟨A1, A2, c1, c2, rfl, hb0.trans (h2.mono hb0.size)⟩

set_option maxRecDepth 100000 in
set_option maxHeartbeats 4000000 in
theorem walk_AllowAges (n0 noughts : Int) (s : ByteArray) (w : World) (h0 : (Lit.int .u64 n0).wf = true) (_h1 : (Lit.int .i64 noughts).wf = true) (h2 : s.size ≤ maxLen) (he : MEnv w) :
    Calls Tryd.prog 5 #[.int .u64 n0, .int .i64 noughts, .string s] w fun e w' => e = .returned (.bool true) ∧ Below w.heap.size w w' := by
  have b0 := wfU h0
  clear h0
  have HS := Lib.hid h2
  have HE := Lib.hid he
  have hone := SRow.one w s 9
  have HO := Lib.hid hone
  clear hone h2 he
  cases hg : Lk.longL 30 [s.size]
  case true =>
    have HG := Lib.hid hg
    clear hg
    go_enter Tryd.func5, Tryd.ntmps5
    go_wp2_with fail
    refine (Long_any 30 _ 1 1 [s] _ (w.heap.size + 1) (by decide) (by decide) rfl HO.out (by simp [maxLen]) (by intro x hx; simp at hx; subst hx; exact HS.out)).mono ?_
    rintro e w' ⟨rfl, rfl⟩
    rw [show Lk.longL (Int.toNat 30) ([s].map ByteArray.size) = true from HG.out]
    have HB : Hid (Below w.heap.size w (w.alloc (.cells #[.string s] 9))) := (Below.refl _ _).alloc (Nat.le_refl _) _
    go_wp2_with fail
    refine (awake14_any _ (HE.out.below HB.out)).mono ?_
    rintro e w1 ⟨rfl, hb⟩
    have HB1 : Hid (Below w.heap.size w w1) := HB.out.trans (hb.mono HB.out.size)
    clear hb
    go_wp2
    go_ret
    exact ⟨rfl, HB1.out⟩
  have HG := Lib.hid hg
  have HZ : Hid (s.size ≤ 30) := by
    show _ ≤ _
    have h := hg
    simp [Lk.longL] at h
    omega
  clear hg
  obtain ⟨n, rfl⟩ := Int.eq_ofNat_of_zero_le b0.1
  have hn : n ≤ Lk.M64 := by unfold Lk.M64; omega
  have hlo := lowV_bd noughts (n := 9) (by decide)
  obtain ⟨q, hq⟩ := Int.eq_ofNat_of_zero_le hlo.1
  have hq9 : q ≤ 9 := by omega
  have HQ := Lib.hid hq
  obtain ⟨v, hv⟩ : ∃ v : ByteArray, v = mk ([32] ++ List.replicate q 48 ++ numL n) := ⟨_, rfl⟩
  have HV : Hid (ByteArray.mk #[32] ++ mk (List.replicate q 48) ++ mk (numL n) = v) := by show _ = _; rw [show ByteArray.mk #[32] = mk [32] from rfl, mk_append, mk_append, hv]
  have HVZ : Hid (v.size ≤ 100000) := by show _ ≤ _; rw [hv, mk_size]; have := (numL_ok hn).2.2; simp; omega
  have HVA : Hid (min (n : Int) 7200 = (ageV (Lk.trimL v.data.toList) : Int)) := by show _ = _; rw [hv, mk_data, age_num q n hn]; omega
  have z1 : (mk (List.replicate q 48)).size ≤ 30 := by rw [mk_size]; simp; omega
  have z2 : (mk (numL n)).size ≤ 26 := by rw [mk_size]; exact (numL_ok hn).2.2
  obtain ⟨u, hu⟩ : ∃ u, u = mk (Lk.trimL s.data.toList) := ⟨_, rfl⟩
  have HU : Hid (u.data.toList = Lk.trimL s.data.toList) := by show _ = _; rw [hu, mk_data]
  have HUM := Lib.hid hu
  have HUZ : Hid (u.size ≤ maxLen) := by
    show _ ≤ _
    have h1 := congrArg List.length HU.out
    have h2 := Lk.trim_len s.data.toList
    have h3 := HS.out
    simp at h1 h2; omega
  obtain ⟨dn, db, hd1, hd2, hd3⟩ := digRes_as u.data.toList
  have HD := Lib.hid hd1
  obtain ⟨m, hm⟩ : ∃ m : Int, m = (ageV (Lk.trimL s.data.toList) : Int) := ⟨_, rfl⟩
  have HM := Lib.hid hm
  have HM5 : Hid (db = false → m = 5) := by show _ → _; intro h; rw [hm, ← HU.out, ageV, hd2, h]; rfl
  have HMD : Hid (db = true → m = min (dn : Int) 7200) := by show _ → _; intro h; rw [hm, ← HU.out]; exact (hd3 h).symm
  clear hlo hq hv hu hd1 hd2 hd3 hm
  go_enter Tryd.func5, Tryd.ntmps5
  go_wp2_with fail
  refine (Long_any 30 _ 1 1 [s] _ (w.heap.size + 1) (by decide) (by decide) rfl HO.out (by simp [maxLen]) (by intro x hx; simp at hx; subst hx; exact HS.out)).mono ?_
  rintro e w' ⟨rfl, rfl⟩
  rw [show Lk.longL (Int.toNat 30) ([s].map ByteArray.size) = false from HG.out]
  have HB0 : Hid (Below w.heap.size w (w.alloc (.cells #[.string s] 9))) := (Below.refl _ _).alloc (Nat.le_refl _) _
  go_wp2_with fail
  refine (Low_any _ _ _ (by decide) (by decide)).mono ?_
  rintro e w' ⟨rfl, rfl⟩
  rw [HQ.out]
  go_wp2_with fail
  refine (Text_any q 48 _ (by omega)).mono ?_
  rintro e w1 ⟨rfl, hb1⟩
  have HB1 : Hid (Below w.heap.size w w1) := HB0.out.trans (hb1.mono HB0.out.size)
  clear hb1
  go_wp2_with fail
  refine (Num_any n _ hn).mono ?_
  rintro e w' ⟨rfl, rfl⟩
  obtain ⟨W2, hW2⟩ : ∃ W2, W2 = w1.alloc (.cells #[.string ageB, .string v] 45) := ⟨_, rfl⟩
  have HW2 := Lib.hid hW2
  unfold ageB at hW2
  obtain ⟨x1, hx1⟩ : ∃ x1, x1 = mk (List.replicate q 48) := ⟨_, rfl⟩
  obtain ⟨x2, hx2⟩ : ∃ x2, x2 = mk (numL n) := ⟨_, rfl⟩
  have HVX : Hid (ByteArray.mk #[32] ++ x1 ++ x2 = v) := by rw [hx1, hx2]; exact HV.out
  rw [← hx1] at z1 ⊢
  rw [← hx2] at z2 ⊢
  clear hx1 hx2 HV
  go_wp2_with fail
  rw [HVX.out, ← hW2]
  clear hW2
  refine (ReadAge_any v w1 W2 (min (n : Int) 7200) 1 w1.heap.size rfl HW2.out HVZ.out HVA.out).mono ?_
  rintro e w3 ⟨A1, A2, c1, c2, rfl, hb3⟩
  have HB3 : Hid (Below w.heap.size w w3) := HB1.out.trans (hb3.mono HB1.out.size)
  clear hb3 HW2 z1 z2
  obtain ⟨ma, hma⟩ : ∃ ma : Int, ma = min (n : Int) 7200 := ⟨_, rfl⟩
  obtain ⟨W4, hW4⟩ : ∃ W4, W4 = w3.alloc (.cells #[.slice A1 0 c1, .slice A2 0 c2, .int .u64 (min (n : Int) 7200)] 26) := ⟨_, rfl⟩
  have HB4 : Hid (Below w.heap.size w W4) := by show Below _ _ _; rw [hW4]; exact HB3.out.alloc HB3.out.size _
  have HA4 : Hid (AlAt W4 w3.heap.size ⟨A1, 0, c1, A2, 0, c2, min (n : Int) 7200⟩) := by rw [hW4]; exact AlAt.new w3 ⟨A1, 0, c1, A2, 0, c2, min (n : Int) 7200⟩ _
  obtain ⟨W5, hW5⟩ : ∃ W5, W5 = W4.alloc (.cells #[.string ageB, .string s] 45) := ⟨_, rfl⟩
  have HW5 := Lib.hid hW5
  have HA5 : Hid (AlAt W5 w3.heap.size ⟨A1, 0, c1, A2, 0, c2, min (n : Int) 7200⟩) := by rw [hW5]; exact HA4.out.up ((Below.refl _ _).alloc (Nat.le_refl _) _)
  have hz4 : W4.heap.size = w3.heap.size + 1 := by rw [hW4]; simp
  have HZ4 := Lib.hid hz4
  rw [hW4] at hW5
  unfold ageB at hW5
  clear hW4 hz4 hma ma
  go_wp2_with fail
  rw [← hW5]
  clear hW5
  refine (ReadAge_any s W4 W5 m 1 (w3.heap.size + 1) HZ4.out.symm HW5.out (by have := HZ.out; omega) HM.out).mono ?_
  rintro e w6 ⟨B1, B2, d1, d2, rfl, hb6⟩
  have HB6 : Hid (Below w.heap.size w w6) := HB4.out.trans (hb6.mono HB4.out.size)
  have HA6 : Hid (AlAt w6 w3.heap.size ⟨A1, 0, c1, A2, 0, c2, min (n : Int) 7200⟩) := HA4.out.up hb6
  clear hb6 HA4 HA5 HW5
  obtain ⟨W7, hW7⟩ : ∃ W7, W7 = w6.alloc (.cells #[.slice B1 0 d1, .slice B2 0 d2, .int .u64 m] 26) := ⟨_, rfl⟩
  have HB7 : Hid (Below w.heap.size w W7) := by show Below _ _ _; rw [hW7]; exact HB6.out.alloc HB6.out.size _
  have HA7 : Hid (AlAt W7 w3.heap.size ⟨A1, 0, c1, A2, 0, c2, min (n : Int) 7200⟩) := by rw [hW7]; exact HA6.out.up ((Below.refl _ _).alloc (Nat.le_refl _) _)
  have HC7 : Hid (AlAt W7 w6.heap.size ⟨B1, 0, d1, B2, 0, d2, m⟩) := by rw [hW7]; exact AlAt.new w6 ⟨B1, 0, d1, B2, 0, d2, m⟩ _
  obtain ⟨g6, hg6⟩ : ∃ g6, g6 = w6.heap.size := ⟨_, rfl⟩
  rw [← hg6] at HC7
  go_wp2_with fail
  rw [← hW7, ← hg6]
  clear hW7 hg6
  refine (Trim_as s u _ HS.out HUM.out).mono ?_
  rintro e w' ⟨rfl, rfl⟩
  go_wp2_with fail
  refine (Digits_any u _ HUZ.out).mono ?_
  rintro e w' ⟨rfl, rfl⟩
  rw [HD.out]
  obtain ⟨_, _, p2, _⟩ := HA7.out
  obtain ⟨_, _, q2, _⟩ := HC7.out
  dsimp only at p2 q2
  obtain ⟨want, hw5, hwd, hwm⟩ : ∃ want : Int, (db = false → want = 5) ∧ (db = true → want = (dn : Int)) ∧ m = min want 7200 := by
    cases db
    · exact ⟨5, fun _ => rfl, (fun h => by cases h), by rw [HM5.out rfl]; decide⟩
    · exact ⟨dn, (fun h => by cases h), fun _ => rfl, HMD.out rfl⟩
  have HW5 := Lib.hid hw5
  have HWD := Lib.hid hwd
  subst hwm
  obtain ⟨nI, hnI⟩ : ∃ nI : Int, nI = (n : Int) := ⟨_, rfl⟩
  rw [← hnI] at p2 ⊢
  clear b0 hn hnI hq9 HA7 HVA hw5 hwd HM5 HMD
  go_upto_if 44 with fail
  go_cut [11] from 44 to 67 (fun v W' => v = .int .u64 want ∧ W' = W7)
  case first =>
    cases db
    · have H5 : Hid (want = 5) := HW5.out rfl
      go_wp2_with fail
      go_meet
      case rel => exact ⟨by rw [H5.out], rfl⟩
    · have H5 : Hid (want = (dn : Int)) := HWD.out rfl
      go_wp2_with fail
      go_meet
      case rel => exact ⟨by rw [H5.out], rfl⟩
  case rest =>
    obtain ⟨h1, h2⟩ := hcut
    subst h1 h2
    go_wp2_with fail
    refine (awake14_any _ (HE.out.below HB7.out)).mono ?_
    rintro e w8 ⟨rfl, hb8⟩
    have HB8 : Hid (Below w.heap.size w w8) := HB7.out.trans (hb8.mono HB7.out.size)
    clear hb8 p2 q2
    go_wp2
    go_ret
    exact ⟨rfl, HB8.out⟩
end Go.Proofs.YtnoiciakbbkngaaDoor
