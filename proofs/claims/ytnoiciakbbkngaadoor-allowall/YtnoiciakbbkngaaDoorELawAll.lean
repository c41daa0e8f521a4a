/-
  The walk of the law AllowAll: whatever the input, it returns true, and nothing that was there has turned. Conditions: the table of methods is as it is laid.
-/
import Derived.Test.YtnoiciakbbkngaaDoorEBox
import Derived.Test.YtnoiciakbbkngaaDoorERef
import Derived.Test.YtnoiciakbbkngaaDoorEOpen
namespace Go.Proofs.YtnoiciakbbkngaaDoor
open Go.RowKit

structure AllF (w W : World) (gx gy ga : Nat) (x y a : Av) (z za : Al) : Prop where
  bel : Below w.heap.size w W
  env0 : MEnv w
  ax : AlAt W gx x
  ay : AlAt W gy y
  aa : AlAt W ga a
  ix : AvIs W x z
  iy : AvIs W y z
  ia : AvIs W a za
theorem AllF.next {w W W' : World} {gx gy ga : Nat} {x y a : Av} {z za : Al} (h : AllF w W gx gy ga x y a z za) (hb : Below W.heap.size W W') : AllF w W' gx gy ga x y a z za :=
  ⟨h.bel.trans (hb.mono h.bel.size), h.env0, h.ax.up hb, h.ay.up hb, h.aa.up hb, h.ix.below hb, h.iy.below hb, h.ia.below hb⟩
theorem AllF.env {w W : World} {gx gy ga : Nat} {x y a : Av} {z za : Al} (h : AllF w W gx gy ga x y a z za) : MEnv W := h.env0.below h.bel
theorem has_as {a : Av} {z : Al} (s : ByteArray) (creds b : Bool) (w : World) (ha : AvIs w a z) (hs : s.size ≤ maxLen) (he : MEnv w) (hb : hasA z.ms s.data.toList creds = b) :
    Calls Tryd.prog 13 #[a.v, .string s, .bool creds] w fun e w' => e = .returned (.bool b) ∧ Below w.heap.size w w' := by rw [← hb]; exact Has_any a z s creds w ha hs he
theorem rhas_as {a : Av} {z : Al} (s : ByteArray) (creds b : Bool) (w : World) (ha : AvIs w a z) (hs : s.size ≤ maxLen) (hb : hasA z.ms s.data.toList creds = b) :
    Calls Tryd.prog 14 #[a.v, .string s, .bool creds] w fun e w' => e = .returned (.bool b) ∧ Below w.heap.size w w' := by rw [← hb]; exact refHas_any a z s creds w ha hs
theorem cov_as {a : Av} {z : Al} (s : ByteArray) (creds b : Bool) (w : World) (ha : AvIs w a z) (hs : s.size ≤ maxLen) (hb : covA z.hs s.data.toList creds = b) :
    Calls Tryd.prog 15 #[a.v, .string s, .bool creds] w fun e w' => e = .returned (.bool b) ∧ Below w.heap.size w w' := by rw [← hb]; exact Covers_any a z s creds w ha hs
theorem rcov_as {a : Av} {z : Al} (s : ByteArray) (creds b : Bool) (w : World) (ha : AvIs w a z) (hs : s.size ≤ maxLen) (hb : covA z.hs s.data.toList creds = b) :
    Calls Tryd.prog 16 #[a.v, .string s, .bool creds] w fun e w' => e = .returned (.bool b) ∧ Below w.heap.size w w' := by rw [← hb]; exact refCovers_any a z s creds w ha hs
theorem datB_back (xs : List ByteArray) : (datB xs).map mk = xs := by
  unfold datB
  rw [List.map_map]
  conv => rhs; rw [← List.map_id xs]
  apply List.map_congr_left
  intro x _
  exact mk_eq x
theorem ar_is {w : World} {r : Ar} (h : ArIs w r) : AvIs w ⟨r.A1, r.xs.length, r.c1, r.A2, r.ys.length, r.c2, r.g⟩ ⟨datB r.xs, datB r.ys, r.g.toNat⟩ := by
  have hg := wfU h.hg
  refine ⟨by show SRow _ _ _ ((datB r.xs).map mk); rw [datB_back]; exact h.h1.1, by show SRow _ _ _ ((datB r.ys).map mk); rw [datB_back]; exact h.h2.1, by simp [datB], by simp [datB], by show r.g = ((r.g.toNat : Nat) : Int); omega, ?_, ?_⟩
  · show (datB r.xs).length ≤ _; simp only [datB, List.length_map]; exact Nat.le_trans h.h1.2.2.1 h.h1.2.2.2
  · show (datB r.ys).length ≤ _; simp only [datB, List.length_map]; exact Nat.le_trans h.h2.2.2.1 h.h2.2.2.2

set_option maxRecDepth 100000 in
set_option maxHeartbeats 8000000 in
theorem walk_AllowAll (a0 : Option Addr) (c0 : Nat) (xs : List (ByteArray × ByteArray)) (r : Ar) (s : ByteArray) (creds : Bool) (w : World) (h0 : HArg w a0 c0 xs) (h1 : ArIs w r) (h2 : s.size ≤ maxLen) (he : MEnv w) :
    Calls Tryd.prog 3 #[.slice a0 xs.length c0, r.v, .string s, .bool creds] w fun e w' => e = .returned (.bool true) ∧ Below w.heap.size w w' := by
  have HL0 : Hid (xs.length ≤ maxLen) := Nat.le_trans h0.2.2.1 h0.2.2.2.1
  have HX0 := Lib.hid h0.1
  have HS0 := Lib.hid h0.2.1
  have HS := Lib.hid h2
  have HE := Lib.hid he
  obtain ⟨A1, c1, us, A2, c2, vs, g⟩ := r
  obtain ⟨m1, hm1⟩ : ∃ m1, m1 = us.length := ⟨_, rfl⟩
  obtain ⟨m2, hm2⟩ : ∃ m2, m2 = vs.length := ⟨_, rfl⟩
  obtain ⟨za, hza⟩ : ∃ za : Al, za = ⟨datB us, datB vs, g.toNat⟩ := ⟨_, rfl⟩
  have hia := ar_is h1
  dsimp only at hia
  rw [← hza, ← hm1, ← hm2] at hia
  have h3 := h1.h1
  have h4 := h1.h2
  dsimp only at h3 h4
  have HU1 := Lib.hid h3
  have HU2 := Lib.hid h4
  have HM1 := Lib.hid hm1
  have HM2 := Lib.hid hm2
  obtain ⟨W0, hW0⟩ : ∃ W0, W0 = w.alloc (.cells #[.slice A1 m1 c1, .slice A2 m2 c2, .int .u64 g] 26) := ⟨_, rfl⟩
  have hb0 : Below w.heap.size w W0 := by rw [hW0]; exact (Below.refl _ _).alloc (Nat.le_refl _) _
  have HB0 := Lib.hid hb0
  have HIA := Lib.hid (hia.below hb0)
  have HAA : Hid (AlAt W0 w.heap.size ⟨A1, m1, c1, A2, m2, c2, g⟩) := by rw [hW0]; exact AlAt.new w ⟨A1, m1, c1, A2, m2, c2, g⟩ _
  have HR1 : Hid (SRow W0 w.heap.size A1 us) := h3.1.below hb0
  have HR2 : Hid (SRow W0 w.heap.size A2 vs) := h4.1.below hb0
  have HP0 : Hid (PRow W0 w.heap.size a0 xs) := h0.1.below hb0
  obtain ⟨W1, hW1⟩ : ∃ W1, W1 = W0.alloc (.cells #[.string s] 9) := ⟨_, rfl⟩
  have HW1 := Lib.hid hW1
  have hb1 : Below W0.heap.size W0 W1 := by rw [hW1]; exact (Below.refl _ _).alloc (Nat.le_refl _) _
  have HB1 : Hid (Below w.heap.size w W1) := hb0.trans (hb1.mono hb0.size)
  have HIA1 := Lib.hid (HIA.out.below hb1)
  have HAA1 := Lib.hid (HAA.out.up hb1)
  have HP1 : Hid (PRow W1 w.heap.size a0 xs) := HP0.out.below (hb1.mono hb0.size)
  obtain ⟨gs, hgs⟩ : ∃ gs, gs = W0.heap.size := ⟨_, rfl⟩
  have HO : Hid (SRow W1 (gs + 1) (some ⟨gs, 0, none⟩) [s]) := by rw [hW1, hgs]; exact SRow.one W0 s _
  have hz0 : W0.heap.size = w.heap.size + 1 := by rw [hW0]; simp
  rw [hz0] at hgs
  rw [hW0] at hW1
  have hp := HAA.out
  obtain ⟨p0, p1, p2, _⟩ := hp
  rw [hW0] at p0 p1 p2
  unfold Ar.v
  dsimp only at p0 p1 p2 ⊢
  rw [← hm1, ← hm2]
  clear h0 h1 h2 h3 h4 he hia hza hb0 hb1 hm1 hm2 hz0
  cases hg : greatB xs
  case true =>
    have HG := Lib.hid hg
    clear hg
    go_enter Tryd.func3, Tryd.ntmps3
    go_wp2_with fail
    rw [← hW0]
    refine (Great_any a0 _ c0 w.heap.size xs _ rfl HP0.out HL0.out (fun x hx => HS0.out x hx)).mono ?_
    rintro e w' ⟨rfl, rfl⟩
    rw [show (decide (40 < xs.length) || greatGo 0 xs) = true from HG.out]
    clear p0 p1 p2
    go_wp2_with fail
    rw [← hW0]
    clear hW0 hW1
    refine (awake14_any _ (HE.out.below HB0.out)).mono ?_
    rintro e w1 ⟨rfl, hb⟩
    have HBZ : Hid (Below w.heap.size w w1) := HB0.out.trans (hb.mono HB0.out.size)
    clear hb
    go_wp2
    go_ret
    exact ⟨rfl, HBZ.out⟩
  have HG := Lib.hid hg
  have HSM : Hid (Sm (xs.map hd)) := (great_bd hg).sm (by omega) (by omega) (by omega)
  clear hg
  cases hk : Lk.longL (Int.toNat 2000) (us.map ByteArray.size)
  case true =>
    have HK1 := Lib.hid hk
    clear hk
    go_enter Tryd.func3, Tryd.ntmps3
    go_wp2_with fail
    rw [← hW0]
    refine (Great_any a0 _ c0 w.heap.size xs _ rfl HP0.out HL0.out (fun x hx => HS0.out x hx)).mono ?_
    rintro e w' ⟨rfl, rfl⟩
    rw [show (decide (40 < xs.length) || greatGo 0 xs) = false from HG.out]
    rw [hW0]
    go_wp2_with fail
    rw [← hW0]
    refine (Long_any 2000 A1 m1 c1 us W0 w.heap.size (by decide) (by decide) HM1.out HR1.out (Nat.le_trans HU1.out.2.2.1 HU1.out.2.2.2) HU1.out.2.1).mono ?_
    rintro e w' ⟨rfl, rfl⟩
    rw [show Lk.longL (Int.toNat 2000) (us.map ByteArray.size) = true from HK1.out]
    clear p0 p1 p2
    go_wp2_with fail
    rw [← hW0]
    clear hW0 hW1
    refine (awake14_any _ (HE.out.below HB0.out)).mono ?_
    rintro e w1 ⟨rfl, hb⟩
    have HBZ : Hid (Below w.heap.size w w1) := HB0.out.trans (hb.mono HB0.out.size)
    clear hb
    go_wp2
    go_ret
    exact ⟨rfl, HBZ.out⟩
  have HK1 := Lib.hid hk
  clear hk
  cases hk : Lk.longL (Int.toNat 2000) (vs.map ByteArray.size)
  case true =>
    have HK2 := Lib.hid hk
    clear hk
    go_enter Tryd.func3, Tryd.ntmps3
    go_wp2_with fail
    rw [← hW0]
    refine (Great_any a0 _ c0 w.heap.size xs _ rfl HP0.out HL0.out (fun x hx => HS0.out x hx)).mono ?_
    rintro e w' ⟨rfl, rfl⟩
    rw [show (decide (40 < xs.length) || greatGo 0 xs) = false from HG.out]
    rw [hW0]
    go_wp2_with fail
    rw [← hW0]
    refine (Long_any 2000 A1 m1 c1 us W0 w.heap.size (by decide) (by decide) HM1.out HR1.out (Nat.le_trans HU1.out.2.2.1 HU1.out.2.2.2) HU1.out.2.1).mono ?_
    rintro e w' ⟨rfl, rfl⟩
    rw [show Lk.longL (Int.toNat 2000) (us.map ByteArray.size) = false from HK1.out]
    rw [hW0]
    go_wp2_with fail
    rw [← hW0]
    refine (Long_any 2000 A2 m2 c2 vs W0 w.heap.size (by decide) (by decide) HM2.out HR2.out (Nat.le_trans HU2.out.2.2.1 HU2.out.2.2.2) HU2.out.2.1).mono ?_
    rintro e w' ⟨rfl, rfl⟩
    rw [show Lk.longL (Int.toNat 2000) (vs.map ByteArray.size) = true from HK2.out]
    clear p0 p1 p2
    go_wp2_with fail
    rw [← hW0]
    clear hW0 hW1
    refine (awake14_any _ (HE.out.below HB0.out)).mono ?_
    rintro e w1 ⟨rfl, hb⟩
    have HBZ : Hid (Below w.heap.size w w1) := HB0.out.trans (hb.mono HB0.out.size)
    clear hb
    go_wp2
    go_ret
    exact ⟨rfl, HBZ.out⟩
  have HK2 := Lib.hid hk
  clear hk
  cases hk : Lk.longL (Int.toNat 200) ([s].map ByteArray.size)
  case true =>
    have HK3 := Lib.hid hk
    clear hk
    go_enter Tryd.func3, Tryd.ntmps3
    go_wp2_with fail
    rw [← hW0]
    refine (Great_any a0 _ c0 w.heap.size xs _ rfl HP0.out HL0.out (fun x hx => HS0.out x hx)).mono ?_
    rintro e w' ⟨rfl, rfl⟩
    rw [show (decide (40 < xs.length) || greatGo 0 xs) = false from HG.out]
    rw [hW0]
    go_wp2_with fail
    rw [← hW0]
    refine (Long_any 2000 A1 m1 c1 us W0 w.heap.size (by decide) (by decide) HM1.out HR1.out (Nat.le_trans HU1.out.2.2.1 HU1.out.2.2.2) HU1.out.2.1).mono ?_
    rintro e w' ⟨rfl, rfl⟩
    rw [show Lk.longL (Int.toNat 2000) (us.map ByteArray.size) = false from HK1.out]
    rw [hW0]
    go_wp2_with fail
    rw [← hW0]
    refine (Long_any 2000 A2 m2 c2 vs W0 w.heap.size (by decide) (by decide) HM2.out HR2.out (Nat.le_trans HU2.out.2.2.1 HU2.out.2.2.2) HU2.out.2.1).mono ?_
    rintro e w' ⟨rfl, rfl⟩
    rw [show Lk.longL (Int.toNat 2000) (vs.map ByteArray.size) = false from HK2.out]
    rw [hW0]
    go_wp2_with fail
    rw [← hW1, ← hgs]
    clear hW1 hgs hW0 p0 p1 p2
    refine (Long_any 200 _ 1 1 [s] W1 (gs + 1) (by decide) (by decide) rfl HO.out (by simp [maxLen]) (by intro x hx; simp at hx; subst hx; exact HS.out)).mono ?_
    rintro e w' ⟨rfl, rfl⟩
    rw [show Lk.longL (Int.toNat 200) ([s].map ByteArray.size) = true from HK3.out]
    go_wp2_with fail
    refine (awake14_any _ (HE.out.below HB1.out)).mono ?_
    rintro e w1 ⟨rfl, hb⟩
    have HBZ : Hid (Below w.heap.size w w1) := HB1.out.trans (hb.mono HB1.out.size)
    clear hb
    go_wp2
    go_ret
    exact ⟨rfl, HBZ.out⟩
  have HK3 := Lib.hid hk
  clear hk
  obtain ⟨z, hz⟩ : ∃ z, z = readA (xs.map hd) := ⟨_, rfl⟩
  obtain ⟨k, hk⟩ : ∃ k, k = readI (xs.map hd) := ⟨_, rfl⟩
  have HZ := Lib.hid hz
  have HK := Lib.hid hk
  clear hz hk
  obtain ⟨hv, hhv⟩ : ∃ hv, hasA za.ms s.data.toList creds = hv := ⟨_, rfl⟩
  obtain ⟨cv, hcv⟩ : ∃ cv, covA za.hs s.data.toList creds = cv := ⟨_, rfl⟩
  have HHV := Lib.hid hhv
  have HCV := Lib.hid hcv
  clear hhv hcv
  obtain ⟨av, hav⟩ : ∃ av : Av, av = ⟨A1, m1, c1, A2, m2, c2, g⟩ := ⟨_, rfl⟩
  rw [← hav] at HIA1 HAA1
  have HAV := Lib.hid hav
  have HAVV : Hid (av.v = .agg #[.slice A1 m1 c1, .slice A2 m2 c2, .int .u64 g]) := by rw [hav]; exact rfl
  clear hav
  go_enter Tryd.func3, Tryd.ntmps3
  go_wp2_with fail
  rw [← hW0]
  refine (Great_any a0 _ c0 w.heap.size xs _ rfl HP0.out HL0.out (fun x hx => HS0.out x hx)).mono ?_
  rintro e w' ⟨rfl, rfl⟩
  rw [show (decide (40 < xs.length) || greatGo 0 xs) = false from HG.out]
  rw [hW0]
  go_wp2_with fail
  rw [← hW0]
  refine (Long_any 2000 A1 m1 c1 us W0 w.heap.size (by decide) (by decide) HM1.out HR1.out (Nat.le_trans HU1.out.2.2.1 HU1.out.2.2.2) HU1.out.2.1).mono ?_
  rintro e w' ⟨rfl, rfl⟩
  rw [show Lk.longL (Int.toNat 2000) (us.map ByteArray.size) = false from HK1.out]
  rw [hW0]
  go_wp2_with fail
  rw [← hW0]
  refine (Long_any 2000 A2 m2 c2 vs W0 w.heap.size (by decide) (by decide) HM2.out HR2.out (Nat.le_trans HU2.out.2.2.1 HU2.out.2.2.2) HU2.out.2.1).mono ?_
  rintro e w' ⟨rfl, rfl⟩
  rw [show Lk.longL (Int.toNat 2000) (vs.map ByteArray.size) = false from HK2.out]
  rw [hW0]
  go_wp2_with fail
  rw [← hW1, ← hgs]
  clear hW1 hgs hW0 p0 p1 p2
  refine (Long_any 200 _ 1 1 [s] W1 (gs + 1) (by decide) (by decide) rfl HO.out (by simp [maxLen]) (by intro x hx; simp at hx; subst hx; exact HS.out)).mono ?_
  rintro e w' ⟨rfl, rfl⟩
  rw [show Lk.longL (Int.toNat 200) ([s].map ByteArray.size) = false from HK3.out]
  go_wp2_with fail
  refine (ARead_any a0 _ c0 w.heap.size xs _ rfl HB1.out.size HP1.out HSM.out).mono ?_
  rintro e w2 ⟨x, rfl, hx, hb⟩
  rw [← HK.out]
  rw [← HZ.out] at hx
  have HB2 : Hid (Below w.heap.size w w2) := HB1.out.trans (hb.mono HB1.out.size)
  have HP2 : Hid (PRow w2 w.heap.size a0 xs) := HP1.out.below (hb.mono HB1.out.size)
  have HIA2 := Lib.hid (HIA1.out.below hb)
  have HAA2 := Lib.hid (HAA1.out.up hb)
  clear hb HIA1 HAA1 HP1 HIA HAA HP0 HR1 HR2 HO HW1
  obtain ⟨X1, xn1, xc1, X2, xn2, xc2, xg⟩ := x
  obtain ⟨xv, hxv⟩ : ∃ xv : Av, xv = ⟨X1, xn1, xc1, X2, xn2, xc2, xg⟩ := ⟨_, rfl⟩
  rw [← hxv] at hx
  have HXV : Hid (xv.v = .agg #[.slice X1 xn1 xc1, .slice X2 xn2 xc2, .int .u64 xg]) := by rw [hxv]; exact rfl
  obtain ⟨W3, hW3⟩ : ∃ W3, W3 = w2.alloc (.cells #[.slice X1 xn1 xc1, .slice X2 xn2 xc2, .int .u64 xg] 26) := ⟨_, rfl⟩
  have hb3 : Below w2.heap.size w2 W3 := by rw [hW3]; exact (Below.refl _ _).alloc (Nat.le_refl _) _
  obtain ⟨gx, hgx⟩ : ∃ gx, gx = w2.heap.size := ⟨_, rfl⟩
  have HAX3 : Hid (AlAt W3 gx xv) := by rw [hW3, hgx, hxv]; exact AlAt.new w2 ⟨X1, xn1, xc1, X2, xn2, xc2, xg⟩ _
  have HB3 : Hid (Below w.heap.size w W3) := HB2.out.trans (hb3.mono HB2.out.size)
  have HP3 : Hid (PRow W3 w.heap.size a0 xs) := HP2.out.below (hb3.mono HB2.out.size)
  have HIA3 := Lib.hid (HIA2.out.below hb3)
  have HAA3 := Lib.hid (HAA2.out.up hb3)
  have HIX3 := Lib.hid (hx.below hb3)
  have HXE := Lib.hid hxv
  clear hb3 HIA2 HAA2 HP2 hx hxv
  unfold Av.v
  dsimp only
  go_wp2_with fail
  rw [← hW3, ← hgx]
  clear hW3 hgx
  refine (refARead_any a0 _ c0 w.heap.size xs _ rfl HB3.out.size HP3.out HSM.out).mono ?_
  rintro e w4 ⟨y, rfl, hy, hb⟩
  rw [← HK.out]
  rw [← HZ.out] at hy
  have HB4 : Hid (Below w.heap.size w w4) := HB3.out.trans (hb.mono HB3.out.size)
  have HIA4 := Lib.hid (HIA3.out.below hb)
  have HAA4 := Lib.hid (HAA3.out.up hb)
  have HIX4 := Lib.hid (HIX3.out.below hb)
  have HAX4 := Lib.hid (HAX3.out.up hb)
  clear hb HIA3 HAA3 HIX3 HAX3 HP3
  obtain ⟨Y1, yn1, yc1, Y2, yn2, yc2, yg⟩ := y
  obtain ⟨yv, hyv⟩ : ∃ yv : Av, yv = ⟨Y1, yn1, yc1, Y2, yn2, yc2, yg⟩ := ⟨_, rfl⟩
  rw [← hyv] at hy
  have HYV : Hid (yv.v = .agg #[.slice Y1 yn1 yc1, .slice Y2 yn2 yc2, .int .u64 yg]) := by rw [hyv]; exact rfl
  obtain ⟨W5, hW5⟩ : ∃ W5, W5 = w4.alloc (.cells #[.slice Y1 yn1 yc1, .slice Y2 yn2 yc2, .int .u64 yg] 26) := ⟨_, rfl⟩
  have hb5 : Below w4.heap.size w4 W5 := by rw [hW5]; exact (Below.refl _ _).alloc (Nat.le_refl _) _
  obtain ⟨gy, hgy⟩ : ∃ gy, gy = w4.heap.size := ⟨_, rfl⟩
  have HAY5 : Hid (AlAt W5 gy yv) := by rw [hW5, hgy, hyv]; exact AlAt.new w4 ⟨Y1, yn1, yc1, Y2, yn2, yc2, yg⟩ _
  have HF5 : Hid (AllF w W5 gx gy w.heap.size xv yv av z za) := ⟨HB4.out.trans (hb5.mono HB4.out.size), HE.out, HAX4.out.up hb5, HAY5.out, HAA4.out.up hb5, HIX4.out.below hb5, hy.below hb5, HIA4.out.below hb5⟩
  have HYE := Lib.hid hyv
  clear hb5 HIA4 HAA4 HIX4 HAX4 hy hyv HAY5
  unfold Av.v
  dsimp only
  obtain ⟨wd, hwd⟩ : ∃ wd, wd = W5.drew := ⟨_, rfl⟩
  have HFD : Hid (AllF w wd gx gy w.heap.size xv yv av z za) := by rw [hwd]; exact HF5.out.next ((Below.refl _ _).drew)
  obtain ⟨F, hF⟩ : ∃ F : World → Prop, ∀ W, F W ↔ (AlAt W gx xv ∧ AlAt W gy yv ∧ AlAt W w.heap.size av) := ⟨_, fun _ => Iff.rfl⟩
  have HFF : Hid (∀ W, AllF w W gx gy w.heap.size xv yv av z za → F W) := fun W h => (hF W).2 ⟨h.ax, h.ay, h.aa⟩
  have hf0 : ∀ p : Held F, AlAt p.w gx xv ∧ AlAt p.w gy yv ∧ AlAt p.w w.heap.size av := fun p => (hF _).1 p.h
  have HF0 := Lib.hid hf0
  clear hf0 hF
  have hx0 : ∀ p : Held F, p.w.cell? ⟨gx, 0, none⟩ = some (.slice X1 xn1 xc1) := fun p => by have h := (HF0.out p).1.c0; rw [HXE.out] at h; exact h
  have hx1 : ∀ p : Held F, p.w.cell? ⟨gx, 1, none⟩ = some (.slice X2 xn2 xc2) := fun p => by have h := (HF0.out p).1.c1; rw [HXE.out] at h; exact h
  have hx2 : ∀ p : Held F, p.w.cell? ⟨gx, 2, none⟩ = some (.int .u64 xg) := fun p => by have h := (HF0.out p).1.c2; rw [HXE.out] at h; exact h
  have hy0 : ∀ p : Held F, p.w.cell? ⟨gy, 0, none⟩ = some (.slice Y1 yn1 yc1) := fun p => by have h := (HF0.out p).2.1.c0; rw [HYE.out] at h; exact h
  have hy1 : ∀ p : Held F, p.w.cell? ⟨gy, 1, none⟩ = some (.slice Y2 yn2 yc2) := fun p => by have h := (HF0.out p).2.1.c1; rw [HYE.out] at h; exact h
  have hy2 : ∀ p : Held F, p.w.cell? ⟨gy, 2, none⟩ = some (.int .u64 yg) := fun p => by have h := (HF0.out p).2.1.c2; rw [HYE.out] at h; exact h
  have ha0 : ∀ p : Held F, p.w.cell? ⟨w.heap.size, 0, none⟩ = some (.slice A1 m1 c1) := fun p => by have h := (HF0.out p).2.2.c0; rw [HAV.out] at h; exact h
  have ha1 : ∀ p : Held F, p.w.cell? ⟨w.heap.size, 1, none⟩ = some (.slice A2 m2 c2) := fun p => by have h := (HF0.out p).2.2.c1; rw [HAV.out] at h; exact h
  have ha2 : ∀ p : Held F, p.w.cell? ⟨w.heap.size, 2, none⟩ = some (.int .u64 g) := fun p => by have h := (HF0.out p).2.2.c2; rw [HAV.out] at h; exact h
  go_wp2_with fail
  rw [← hW5, ← hgy]
  clear hW5 hgy
  refine mix_start F (by kernel_rfl) ?_
  rw [← hwd]
  clear hwd
  have hne : Nonempty (Held F) := ⟨⟨wd, HFF.out _ HFD.out⟩⟩
  refine mix_seg [0, 1] (by kernel_rfl) (HFF.out _ HFD.out) ?_
  simp only [segOf, pickOps, pickOp]
  repeat (go_big_quiet_step (fail))
  refine wpQuiet_nil ?_
  refine mix_run 2 (by kernel_rfl) ?_
  simp only [segOf, pickOps, pickOp]
  go_wp2_with fail
  rw [← HXV.out, ← HYV.out]
  refine (Allow_same xv yv z _ HFD.out.ix HFD.out.iy).mono ?_
  rintro e w6 ⟨rfl, hb⟩
  have HF6 := Lib.hid (HFD.out.next hb)
  clear hb
  go_wp2_with fail
  refine MixPost.normal (HFF.out _ HF6.out) ?_
  refine mix_seg [3, 4, 5, 6, 7, 8, 9, 10, 11, 13, 14, 15] (by kernel_rfl) (HFF.out _ HF6.out) ?_
  simp only [segOf, pickOps, pickOp]
  repeat (go_big_quiet_step (fail))
  refine wpQuiet_nil ?_
  refine mix_run 12 (by kernel_rfl) ?_
  simp only [segOf, pickOps, pickOp]
  go_wp2_with fail
  rw [← HAVV.out]
  refine (has_as s creds hv _ HF6.out.ia HS.out HF6.out.env HHV.out).mono ?_
  rintro e w7 ⟨rfl, hb⟩
  have HF7 := Lib.hid (HF6.out.next hb)
  clear hb
  go_wp2_with fail
  refine MixPost.normal (HFF.out _ HF7.out) ?_
  refine mix_run 16 (by kernel_rfl) ?_
  simp only [segOf, pickOps, pickOp]
  go_wp2_with fail
  refine (rhas_as s creds hv _ HF7.out.ia HS.out HHV.out).mono ?_
  rintro e w8 ⟨rfl, hb⟩
  have HF8 := Lib.hid (HF7.out.next hb)
  clear hb
  go_wp2_with fail
  refine MixPost.normal (HFF.out _ HF8.out) ?_
  refine mix_seg [17, 18, 19, 20, 21, 22, 24, 25, 26] (by kernel_rfl) (HFF.out _ HF8.out) ?_
  simp only [segOf, pickOps, pickOp]
  repeat (go_big_quiet_step (fail))
  refine wpQuiet_nil ?_
  refine mix_run 23 (by kernel_rfl) ?_
  simp only [segOf, pickOps, pickOp]
  go_wp2_with fail
  rw [← HAVV.out]
  refine (cov_as s creds cv _ HF8.out.ia HS.out HCV.out).mono ?_
  rintro e w9 ⟨rfl, hb⟩
  have HF9 := Lib.hid (HF8.out.next hb)
  clear hb
  go_wp2_with fail
  refine MixPost.normal (HFF.out _ HF9.out) ?_
  refine mix_run 27 (by kernel_rfl) ?_
  simp only [segOf, pickOps, pickOp]
  go_wp2_with fail
  refine (rcov_as s creds cv _ HF9.out.ia HS.out HCV.out).mono ?_
  rintro e w10 ⟨rfl, hb⟩
  have HF10 := Lib.hid (HF9.out.next hb)
  clear hb
  go_wp2_with fail
  refine MixPost.normal (HFF.out _ HF10.out) ?_
  refine mix_seg [28, 29, 30] (by kernel_rfl) (HFF.out _ HF10.out) ?_
  simp only [segOf, pickOps, pickOp]
  repeat (go_big_quiet_step (fail))
  refine wpQuiet_nil ?_
  refine mix_run 31 (by kernel_rfl) ?_
  simp only [segOf, pickOps, pickOp]
  go_wp2_with fail
  refine (awake14_any _ HF10.out.env).mono ?_
  rintro e w11 ⟨rfl, hb⟩
  have HF11 := Lib.hid (HF10.out.next hb)
  clear hb
  go_wp2_with fail
  refine MixPost.normal (HFF.out _ HF11.out) ?_
  refine mix_seg [32, 33] (by kernel_rfl) (HFF.out _ HF11.out) ?_
  simp only [segOf, pickOps, pickOp]
  repeat (go_big_quiet_step (fail))
  refine wpQuiet_nil ?_
  refine mix_done (by kernel_rfl) ?_
  go_wp2
  go_ret
  exact ⟨rfl, HF11.out.bel⟩
end Go.Proofs.YtnoiciakbbkngaaDoor
