/-
  The walk of the law FlightAll: whatever the input, it returns true, and nothing that was there has turned. Conditions: the arguments are such as any that come in; the library's variables and the tables of methods are as they are laid.
-/
import Derived.Test.YtlkneapidmdpbaaGreatDoorFAwake
import Derived.Test.YtlkneapidmdpbaaGreatDoorLRef17
import Derived.Test.YtlkneapidmdpbaaGreatDoorLAskW
import Derived.Test.YtlkneapidmdpbaaGreatDoorLAllowW
import Derived.Test.YtlkneapidmdpbaaGreatDoorBEnts
namespace Go.Proofs.YtlkneapidmdpbaaGreatDoor
open Go.RowKit

theorem fdat_back (xs : List ByteArray) : (datB xs).map mk = xs := by
  unfold datB
  rw [List.map_map]
  conv => rhs; rw [← List.map_id xs]
  apply List.map_congr_left
  intro x _
  exact mk_eq x
theorem far_is {w : World} {r : Ar} (h : ArIs w r) : AvIs w ⟨r.A1, r.xs.length, r.c1, r.A2, r.ys.length, r.c2, r.g⟩ ⟨datB r.xs, datB r.ys, r.g.toNat⟩ := by
  have hg := wfU h.hg
  refine ⟨by show SRow _ _ _ ((datB r.xs).map mk); rw [fdat_back]; exact h.h1.1, by show SRow _ _ _ ((datB r.ys).map mk); rw [fdat_back]; exact h.h2.1, by simp [datB], by simp [datB], by show r.g = ((r.g.toNat : Nat) : Int); omega, ?_, ?_⟩
  · show (datB r.xs).length ≤ _; simp only [datB, List.length_map]; exact Nat.le_trans h.h1.2.2.1 h.h1.2.2.2
  · show (datB r.ys).length ≤ _; simp only [datB, List.length_map]; exact Nat.le_trans h.h2.2.2.1 h.h2.2.2.2
theorem fdat_len {xs : List ByteArray} (h : ∀ x ∈ xs, x.size ≤ maxLen) : ∀ x ∈ datB xs, x.length ≤ maxLen := by
  intro x hx
  unfold datB at hx
  obtain ⟨y, hy, rfl⟩ := List.mem_map.1 hx
  have := h y hy
  simpa using this
/-- what holds all through: the request and what is let in their blocks -/
structure FaF (w W : World) (r : Rv) (a : Av) (za : Al) (A : Option Addr) (xs : List (ByteArray × ByteArray)) : Prop where
  bel : Below w.heap.size w W
  env0 : Env8 w
  row0 : PRow w w.heap.size A xs
  rrow0 : PRow w w.heap.size r.A r.xs
  av0 : AvIs w a za
  req : RqAt W w.heap.size r
  al : AlAt W (w.heap.size + 1) a
section
variable {w W W' : World} {r : Rv} {a : Av} {za : Al} {A : Option Addr} {xs : List (ByteArray × ByteArray)}
theorem FaF.next (h : FaF w W r a za A xs) (hb : Below W.heap.size W W') : FaF w W' r a za A xs :=
  ⟨h.bel.trans (hb.mono h.bel.size), h.env0, h.row0, h.rrow0, h.av0, h.req.below hb h.req.lt, h.al.up hb⟩
theorem FaF.env (h : FaF w W r a za A xs) : Env8 W := h.env0.below h.bel
theorem FaF.row (h : FaF w W r a za A xs) : PRow W w.heap.size A xs := h.row0.below h.bel
theorem FaF.rrow (h : FaF w W r a za A xs) : PRow W w.heap.size r.A r.xs := h.rrow0.below h.bel
theorem FaF.av (h : FaF w W r a za A xs) : AvIs W a za := h.av0.below h.bel
theorem FaF.new (he : Env8 w) (hx : PRow w w.heap.size A xs) (hr : PRow w w.heap.size r.A r.xs) (ha : AvIs w a za) (t t' : TypeId) : FaF w ((w.alloc (.cells #[.string r.m, .string r.u, .string r.o, .int .i64 r.mode, .bool r.cr, .slice r.A r.n r.c, .int .i64 r.cl, .int .u64 r.tm, .int .i64 r.gr, .int .i64 r.sg] t)).alloc (.cells #[.slice a.A1 a.n1 a.c1, .slice a.A2 a.n2 a.c2, .int .u64 a.g] t')) r a za A xs := by
  have e : (w.alloc (.cells #[.string r.m, .string r.u, .string r.o, .int .i64 r.mode, .bool r.cr, .slice r.A r.n r.c, .int .i64 r.cl, .int .u64 r.tm, .int .i64 r.gr, .int .i64 r.sg] t)).heap.size = w.heap.size + 1 := by simp
  have h1 := RqAt.new w r t
  have h2 := AlAt.new (w.alloc (.cells #[.string r.m, .string r.u, .string r.o, .int .i64 r.mode, .bool r.cr, .slice r.A r.n r.c, .int .i64 r.cl, .int .u64 r.tm, .int .i64 r.gr, .int .i64 r.sg] t)) a t'
  rw [e] at h2
  exact ⟨((Below.refl _ _).alloc (Nat.le_refl _) _).alloc (by rw [e]; omega) _, he, hx, hr, ha, h1.below ((Below.refl _ _).alloc (Nat.le_refl _) _) h1.lt, h2⟩
end
/-- and both Judges' answers in theirs -/
structure FbF (w W : World) (r : Rv) (a : Av) (za : Al) (A : Option Addr) (xs : List (ByteArray × ByteArray)) (g1 g2 : Nat) (x y : Av) (z : Al) : Prop where
  k : FaF w W r a za A xs
  lx : AlAt W g1 x
  ly : AlAt W g2 y
  ix : AvIs W x z
  iy : AvIs W y z
theorem FbF.next {w W W' : World} {r : Rv} {a x y : Av} {za z : Al} {A : Option Addr} {xs : List (ByteArray × ByteArray)} {g1 g2 : Nat} (h : FbF w W r a za A xs g1 g2 x y z) (hb : Below W.heap.size W W') : FbF w W' r a za A xs g1 g2 x y z :=
  ⟨h.k.next hb, h.lx.up hb, h.ly.up hb, h.ix.below hb, h.iy.below hb⟩

set_option maxRecDepth 100000 in
set_option maxHeartbeats 16000000 in
theorem walk_FlightAll (r : Rv) (st : Int) (a2 : Option Addr) (c2 : Nat) (xs : List (ByteArray × ByteArray)) (al : Ar) (now : Int) (w : World) (h0 : RArg w r) (_h1 : (Lit.int .i64 st).wf = true) (h2 : HArg w a2 c2 xs) (h3 : ArIs w al) (h4 : (Lit.int .u64 now).wf = true) (he : Env8 w) :
    Calls Tryz.prog 3 #[r.v, .int .i64 st, .slice a2 xs.length c2, al.v, .int .u64 now] w fun e w' => e = .returned (.bool true) ∧ Below w.heap.size w w' := by
  have hb4 := wfU h4
  obtain ⟨now, rfl⟩ : ∃ x : Nat, now = (x : Int) := ⟨now.toNat, by omega⟩
  have HNW : Hid (now ≤ 18446744073709551615) := by show _ ≤ _; omega
  have HGA : Hid (al.g.toNat ≤ 18446744073709551615) := by show _ ≤ _; have := wfU h3.hg; omega
  have HL0 : Hid (xs.length ≤ maxLen) := Nat.le_trans h2.2.2.1 h2.2.2.2.1
  have HS0 := Lib.hid h2.2.1
  have H0 := Lib.hid h0
  have H3 := Lib.hid h3
  have hav := far_is h3
  obtain ⟨A1, c1, ls, A2, c3, ks, ag⟩ := al
  dsimp only at hav HGA
  obtain ⟨n1, hn1⟩ : ∃ n, n = ls.length := ⟨_, rfl⟩
  obtain ⟨n2, hn2⟩ : ∃ n, n = ks.length := ⟨_, rfl⟩
  rw [← hn1, ← hn2] at hav
  have HN1 := Lib.hid hn1
  have HN2 := Lib.hid hn2
  obtain ⟨za, hza⟩ : ∃ z : Al, z = ⟨datB ls, datB ks, ag.toNat⟩ := ⟨_, rfl⟩
  rw [← hza] at hav
  have HZA := Lib.hid hza
  unfold Rv.v Ar.v
  dsimp only
  rw [← hn1, ← hn2]
  obtain ⟨W0, hW0⟩ : ∃ W0, W0 = (w.alloc (.cells #[.string r.m, .string r.u, .string r.o, .int .i64 r.mode, .bool r.cr, .slice r.A r.n r.c, .int .i64 r.cl, .int .u64 r.tm, .int .i64 r.gr, .int .i64 r.sg] 25)).alloc (.cells #[.slice A1 n1 c1, .slice A2 n2 c3, .int .u64 ag] 28) := ⟨_, rfl⟩
  have HP0 : Hid (FaF w W0 r ⟨A1, n1, c1, A2, n2, c3, ag⟩ za a2 xs) := by rw [hW0]; exact FaF.new he h2.1 h0.row.1 hav _ _
  clear h0 _h1 h2 h3 h4 he hb4 hav hza hn1 hn2
  obtain ⟨gr, hgr⟩ : ∃ b, b = greatR r := ⟨_, rfl⟩
  have HG := Lib.hid hgr
  obtain ⟨g1, hg1⟩ : ∃ g1, greatB xs = g1 := ⟨_, rfl⟩
  have HG1 := Lib.hid hg1
  obtain ⟨l1, hl1⟩ : ∃ b, Lk.longL (Int.toNat 2000) (ls.map ByteArray.size) = b := ⟨_, rfl⟩
  have HLO1 := Lib.hid hl1
  obtain ⟨l2, hl2⟩ : ∃ b, Lk.longL (Int.toNat 2000) (ks.map ByteArray.size) = b := ⟨_, rfl⟩
  have HLO2 := Lib.hid hl2
  clear hgr hg1 hl1 hl2
  go_enter Tryz.func3, Tryz.ntmps3
  go_wp2_with fail
  rw [← hW0]
  clear hW0
  refine (GreatReq_any r _ w.heap.size HP0.out.rrow HP0.out.bel.size H0.out.len (Nat.le_trans H0.out.row.2.2.1 H0.out.row.2.2.2.1) H0.out.row.2.1).mono ?_
  rintro e w1 ⟨rfl, hb⟩
  rw [← HG.out]
  have HP1 : Hid (FaF w w1 r ⟨A1, n1, c1, A2, n2, c3, ag⟩ za a2 xs) := HP0.out.next hb
  clear hb HP0
  cases gr
  case true =>
    go_wp2_with fail
    refine (awake17_any _ HP1.out.env).mono ?_
    rintro e w9 ⟨rfl, hb⟩
    have HBZ : Hid (Below w.heap.size w w9) := HP1.out.bel.trans (hb.mono HP1.out.bel.size)
    clear hb
    go_wp2
    go_ret
    exact ⟨rfl, HBZ.out⟩
  case false =>
  have HK := Lib.hid (H0.out.ok HG.out.symm)
  go_wp2_with fail
  refine (Great_any a2 _ c2 w.heap.size xs _ rfl HP1.out.row HL0.out (fun x hx => HS0.out x hx)).mono ?_
  rintro e w' ⟨rfl, rfl⟩
  rw [show (decide (40 < xs.length) || greatGo 0 xs) = g1 from HG1.out]
  cases g1
  case true =>
    go_wp2_with fail
    refine (awake17_any _ HP1.out.env).mono ?_
    rintro e w9 ⟨rfl, hb⟩
    have HBZ : Hid (Below w.heap.size w w9) := HP1.out.bel.trans (hb.mono HP1.out.bel.size)
    clear hb
    go_wp2
    go_ret
    exact ⟨rfl, HBZ.out⟩
  case false =>
  obtain ⟨p0, p1, p2, _⟩ := HP1.out.al
  dsimp only at p0 p1 p2
  go_wp2_with fail
  refine (Long_any 2000 A1 n1 c1 ls _ w.heap.size (by decide) (by decide) HN1.out (H3.out.h1.1.below HP1.out.bel) (Nat.le_trans H3.out.h1.2.2.1 H3.out.h1.2.2.2) H3.out.h1.2.1).mono ?_
  rintro e w' ⟨rfl, rfl⟩
  rw [show Lk.longL (Int.toNat 2000) (ls.map ByteArray.size) = l1 from HLO1.out]
  cases l1
  case true =>
    go_wp2_with fail
    refine (awake17_any _ HP1.out.env).mono ?_
    rintro e w9 ⟨rfl, hb⟩
    have HBZ : Hid (Below w.heap.size w w9) := HP1.out.bel.trans (hb.mono HP1.out.bel.size)
    clear hb
    go_wp2
    go_ret
    exact ⟨rfl, HBZ.out⟩
  case false =>
  go_wp2_with fail
  refine (Long_any 2000 A2 n2 c3 ks _ w.heap.size (by decide) (by decide) HN2.out (H3.out.h2.1.below HP1.out.bel) (Nat.le_trans H3.out.h2.2.2.1 H3.out.h2.2.2.2) H3.out.h2.2.1).mono ?_
  rintro e w' ⟨rfl, rfl⟩
  rw [show Lk.longL (Int.toNat 2000) (ks.map ByteArray.size) = l2 from HLO2.out]
  cases l2
  case true =>
    go_wp2_with fail
    refine (awake17_any _ HP1.out.env).mono ?_
    rintro e w9 ⟨rfl, hb⟩
    have HBZ : Hid (Below w.heap.size w w9) := HP1.out.bel.trans (hb.mono HP1.out.bel.size)
    clear hb
    go_wp2
    go_ret
    exact ⟨rfl, HBZ.out⟩
  case false =>
  have HSM : Hid (Sm (xs.map hd)) := (great_bd HG1.out).sm (by omega) (by omega) (by omega)
  have HMM : Hid (za.ms.length + za.hs.length ≤ 50000) := by
    show _ ≤ _
    have e1 := Lk.long_no _ _ HLO1.out
    have e2 := Lk.long_no _ _ HLO2.out
    rw [List.length_map] at e1 e2
    rw [HZA.out]
    simp only [datB, List.length_map]
    have e3 : Int.toNat 2000 = 2000 := rfl
    omega
  have HMZ : Hid ((∀ x ∈ za.ms, x.length ≤ maxLen) ∧ ∀ x ∈ za.hs, x.length ≤ maxLen) := by
    show _ ∧ _
    rw [HZA.out]
    exact ⟨fdat_len H3.out.h1.2.1, fdat_len H3.out.h2.2.1⟩
  have HZG : Hid (za.age ≤ 18446744073709551615) := by show _ ≤ _; rw [HZA.out]; exact HGA.out
  clear p0 p1 p2
  obtain ⟨r0, r1, r2, r3, r4, r5, r6, r7, r8, r9⟩ := HP1.out.req
  go_wp2_with fail
  clear r0 r1 r2 r3 r4 r5 r6 r7 r8 r9
  refine (fJudge_any r st a2 _ c2 w.heap.size xs _ (HK.out.below HP1.out.bel) HP1.out.env rfl HP1.out.bel.size HP1.out.row HSM.out).mono ?_
  rintro e w2 ⟨x, rfl, hx, hb⟩
  have HP2 : Hid (FaF w w2 r ⟨A1, n1, c1, A2, n2, c3, ag⟩ za a2 xs) := HP1.out.next hb
  clear hb HP1
  obtain ⟨J, hJ⟩ : ∃ K, judgeI r.q st (xs.map hd) = K := ⟨_, rfl⟩
  have HJ := Lib.hid hJ
  rw [hJ]
  obtain ⟨z, hz⟩ : ∃ K, judgeA r.q st (xs.map hd) = K := ⟨_, rfl⟩
  have HZ := Lib.hid hz
  rw [hz] at hx
  clear hJ hz
  obtain ⟨X1, x1, d1, X2, x2, d2, xg⟩ := x
  obtain ⟨w3, hw3⟩ : ∃ W, W = w2.alloc (Obj.cells #[.slice X1 x1 d1, .slice X2 x2 d2, .int .u64 xg] 28) := ⟨_, rfl⟩
  obtain ⟨g3, hg3⟩ : ∃ g, g = w2.heap.size := ⟨_, rfl⟩
  have hb3 : Below w2.heap.size w2 w3 := by rw [hw3]; exact (Below.refl _ _).alloc (Nat.le_refl _) _
  have HP3 : Hid (FaF w w3 r ⟨A1, n1, c1, A2, n2, c3, ag⟩ za a2 xs) := HP2.out.next hb3
  have HX3 : Hid (AvIs w3 ⟨X1, x1, d1, X2, x2, d2, xg⟩ z) := hx.below hb3
  have HL3 : Hid (AlAt w3 g3 ⟨X1, x1, d1, X2, x2, d2, xg⟩) := by show AlAt _ _ _; rw [hw3, hg3]; exact AlAt.new w2 ⟨X1, x1, d1, X2, x2, d2, xg⟩ _
  clear hb3 hx HP2
  simp only [Av.v]
  go_upto_region 4 with fail
  rw [← hw3, ← hg3]
  clear hw3 hg3
  obtain ⟨r0, r1, r2, r3, r4, r5, r6, r7, r8, r9⟩ := HP3.out.req
  go_wp2_with fail
  clear r0 r1 r2 r3 r4 r5 r6 r7 r8 r9
  refine (rJudge_any r st a2 _ c2 w.heap.size xs _ (HK.out.below HP3.out.bel) HP3.out.env rfl HP3.out.bel.size HP3.out.row HSM.out).mono ?_
  rintro e w4 ⟨y, rfl, hy, hb⟩
  rw [HJ.out]
  rw [HZ.out] at hy
  have HP4 : Hid (FaF w w4 r ⟨A1, n1, c1, A2, n2, c3, ag⟩ za a2 xs) := HP3.out.next hb
  have HX4 := Lib.hid (HX3.out.below hb)
  have HL4 := Lib.hid (HL3.out.up hb)
  clear hb HP3 HX3 HL3
  obtain ⟨Y1, y1, e1, Y2, y2, e2, yg⟩ := y
  obtain ⟨w5, hw5⟩ : ∃ W, W = w4.alloc (Obj.cells #[.slice Y1 y1 e1, .slice Y2 y2 e2, .int .u64 yg] 28) := ⟨_, rfl⟩
  obtain ⟨g5, hg5⟩ : ∃ g, g = w4.heap.size := ⟨_, rfl⟩
  have hb5 : Below w4.heap.size w4 w5 := by rw [hw5]; exact (Below.refl _ _).alloc (Nat.le_refl _) _
  have HN5 : Hid (FbF w w5 r ⟨A1, n1, c1, A2, n2, c3, ag⟩ za a2 xs g3 g5 ⟨X1, x1, d1, X2, x2, d2, xg⟩ ⟨Y1, y1, e1, Y2, y2, e2, yg⟩ z) := ⟨HP4.out.next hb5, HL4.out.up hb5, by rw [hw5, hg5]; exact AlAt.new w4 ⟨Y1, y1, e1, Y2, y2, e2, yg⟩ _, HX4.out.below hb5, hy.below hb5⟩
  clear hb5 hy HP4 HX4 HL4
  simp only [Av.v]
  go_upto_region 5 with fail
  rw [← hw5, ← hg5]
  clear hw5 hg5
  refine mix_start (fun W => FbF w W r ⟨A1, n1, c1, A2, n2, c3, ag⟩ za a2 xs g3 g5 ⟨X1, x1, d1, X2, x2, d2, xg⟩ ⟨Y1, y1, e1, Y2, y2, e2, yg⟩ z) (by kernel_rfl) ?_
  have hne : Nonempty (Held (fun W => FbF w W r ⟨A1, n1, c1, A2, n2, c3, ag⟩ za a2 xs g3 g5 ⟨X1, x1, d1, X2, x2, d2, xg⟩ ⟨Y1, y1, e1, Y2, y2, e2, yg⟩ z)) := ⟨⟨_, HN5.out⟩⟩
  have zz0 : ∀ pp : Held (fun W => FbF w W r ⟨A1, n1, c1, A2, n2, c3, ag⟩ za a2 xs g3 g5 ⟨X1, x1, d1, X2, x2, d2, xg⟩ ⟨Y1, y1, e1, Y2, y2, e2, yg⟩ z), pp.w.cell? ⟨w.heap.size, 0, none⟩ = some (.string r.m) := fun pp => pp.h.k.req.c0
  have zz1 : ∀ pp : Held (fun W => FbF w W r ⟨A1, n1, c1, A2, n2, c3, ag⟩ za a2 xs g3 g5 ⟨X1, x1, d1, X2, x2, d2, xg⟩ ⟨Y1, y1, e1, Y2, y2, e2, yg⟩ z), pp.w.cell? ⟨w.heap.size, 1, none⟩ = some (.string r.u) := fun pp => pp.h.k.req.c1
  have zz2 : ∀ pp : Held (fun W => FbF w W r ⟨A1, n1, c1, A2, n2, c3, ag⟩ za a2 xs g3 g5 ⟨X1, x1, d1, X2, x2, d2, xg⟩ ⟨Y1, y1, e1, Y2, y2, e2, yg⟩ z), pp.w.cell? ⟨w.heap.size, 2, none⟩ = some (.string r.o) := fun pp => pp.h.k.req.c2
  have zz3 : ∀ pp : Held (fun W => FbF w W r ⟨A1, n1, c1, A2, n2, c3, ag⟩ za a2 xs g3 g5 ⟨X1, x1, d1, X2, x2, d2, xg⟩ ⟨Y1, y1, e1, Y2, y2, e2, yg⟩ z), pp.w.cell? ⟨w.heap.size, 3, none⟩ = some (.int .i64 r.mode) := fun pp => pp.h.k.req.c3
  have zz4 : ∀ pp : Held (fun W => FbF w W r ⟨A1, n1, c1, A2, n2, c3, ag⟩ za a2 xs g3 g5 ⟨X1, x1, d1, X2, x2, d2, xg⟩ ⟨Y1, y1, e1, Y2, y2, e2, yg⟩ z), pp.w.cell? ⟨w.heap.size, 4, none⟩ = some (.bool r.cr) := fun pp => pp.h.k.req.c4
  have zz5 : ∀ pp : Held (fun W => FbF w W r ⟨A1, n1, c1, A2, n2, c3, ag⟩ za a2 xs g3 g5 ⟨X1, x1, d1, X2, x2, d2, xg⟩ ⟨Y1, y1, e1, Y2, y2, e2, yg⟩ z), pp.w.cell? ⟨w.heap.size, 5, none⟩ = some (.slice r.A r.n r.c) := fun pp => pp.h.k.req.c5
  have zz6 : ∀ pp : Held (fun W => FbF w W r ⟨A1, n1, c1, A2, n2, c3, ag⟩ za a2 xs g3 g5 ⟨X1, x1, d1, X2, x2, d2, xg⟩ ⟨Y1, y1, e1, Y2, y2, e2, yg⟩ z), pp.w.cell? ⟨w.heap.size, 6, none⟩ = some (.int .i64 r.cl) := fun pp => pp.h.k.req.c6
  have zz7 : ∀ pp : Held (fun W => FbF w W r ⟨A1, n1, c1, A2, n2, c3, ag⟩ za a2 xs g3 g5 ⟨X1, x1, d1, X2, x2, d2, xg⟩ ⟨Y1, y1, e1, Y2, y2, e2, yg⟩ z), pp.w.cell? ⟨w.heap.size, 7, none⟩ = some (.int .u64 r.tm) := fun pp => pp.h.k.req.c7
  have zz8 : ∀ pp : Held (fun W => FbF w W r ⟨A1, n1, c1, A2, n2, c3, ag⟩ za a2 xs g3 g5 ⟨X1, x1, d1, X2, x2, d2, xg⟩ ⟨Y1, y1, e1, Y2, y2, e2, yg⟩ z), pp.w.cell? ⟨w.heap.size, 8, none⟩ = some (.int .i64 r.gr) := fun pp => pp.h.k.req.c8
  have zz9 : ∀ pp : Held (fun W => FbF w W r ⟨A1, n1, c1, A2, n2, c3, ag⟩ za a2 xs g3 g5 ⟨X1, x1, d1, X2, x2, d2, xg⟩ ⟨Y1, y1, e1, Y2, y2, e2, yg⟩ z), pp.w.cell? ⟨w.heap.size, 9, none⟩ = some (.int .i64 r.sg) := fun pp => pp.h.k.req.c9
  have zz10 : ∀ pp : Held (fun W => FbF w W r ⟨A1, n1, c1, A2, n2, c3, ag⟩ za a2 xs g3 g5 ⟨X1, x1, d1, X2, x2, d2, xg⟩ ⟨Y1, y1, e1, Y2, y2, e2, yg⟩ z), pp.w.cell? ⟨w.heap.size + 1, 0, none⟩ = some (.slice A1 n1 c1) := fun pp => pp.h.k.al.c0
  have zz11 : ∀ pp : Held (fun W => FbF w W r ⟨A1, n1, c1, A2, n2, c3, ag⟩ za a2 xs g3 g5 ⟨X1, x1, d1, X2, x2, d2, xg⟩ ⟨Y1, y1, e1, Y2, y2, e2, yg⟩ z), pp.w.cell? ⟨w.heap.size + 1, 1, none⟩ = some (.slice A2 n2 c3) := fun pp => pp.h.k.al.c1
  have zz12 : ∀ pp : Held (fun W => FbF w W r ⟨A1, n1, c1, A2, n2, c3, ag⟩ za a2 xs g3 g5 ⟨X1, x1, d1, X2, x2, d2, xg⟩ ⟨Y1, y1, e1, Y2, y2, e2, yg⟩ z), pp.w.cell? ⟨w.heap.size + 1, 2, none⟩ = some (.int .u64 ag) := fun pp => pp.h.k.al.c2
  have zz13 : ∀ pp : Held (fun W => FbF w W r ⟨A1, n1, c1, A2, n2, c3, ag⟩ za a2 xs g3 g5 ⟨X1, x1, d1, X2, x2, d2, xg⟩ ⟨Y1, y1, e1, Y2, y2, e2, yg⟩ z), pp.w.cell? ⟨g3, 0, none⟩ = some (.slice X1 x1 d1) := fun pp => pp.h.lx.c0
  have zz14 : ∀ pp : Held (fun W => FbF w W r ⟨A1, n1, c1, A2, n2, c3, ag⟩ za a2 xs g3 g5 ⟨X1, x1, d1, X2, x2, d2, xg⟩ ⟨Y1, y1, e1, Y2, y2, e2, yg⟩ z), pp.w.cell? ⟨g3, 1, none⟩ = some (.slice X2 x2 d2) := fun pp => pp.h.lx.c1
  have zz15 : ∀ pp : Held (fun W => FbF w W r ⟨A1, n1, c1, A2, n2, c3, ag⟩ za a2 xs g3 g5 ⟨X1, x1, d1, X2, x2, d2, xg⟩ ⟨Y1, y1, e1, Y2, y2, e2, yg⟩ z), pp.w.cell? ⟨g3, 2, none⟩ = some (.int .u64 xg) := fun pp => pp.h.lx.c2
  have zz16 : ∀ pp : Held (fun W => FbF w W r ⟨A1, n1, c1, A2, n2, c3, ag⟩ za a2 xs g3 g5 ⟨X1, x1, d1, X2, x2, d2, xg⟩ ⟨Y1, y1, e1, Y2, y2, e2, yg⟩ z), pp.w.cell? ⟨g5, 0, none⟩ = some (.slice Y1 y1 e1) := fun pp => pp.h.ly.c0
  have zz17 : ∀ pp : Held (fun W => FbF w W r ⟨A1, n1, c1, A2, n2, c3, ag⟩ za a2 xs g3 g5 ⟨X1, x1, d1, X2, x2, d2, xg⟩ ⟨Y1, y1, e1, Y2, y2, e2, yg⟩ z), pp.w.cell? ⟨g5, 1, none⟩ = some (.slice Y2 y2 e2) := fun pp => pp.h.ly.c1
  have zz18 : ∀ pp : Held (fun W => FbF w W r ⟨A1, n1, c1, A2, n2, c3, ag⟩ za a2 xs g3 g5 ⟨X1, x1, d1, X2, x2, d2, xg⟩ ⟨Y1, y1, e1, Y2, y2, e2, yg⟩ z), pp.w.cell? ⟨g5, 2, none⟩ = some (.int .u64 yg) := fun pp => pp.h.ly.c2
  obtain ⟨w6, hwd⟩ : ∃ W, W = w5.drew := ⟨_, rfl⟩
  rw [← hwd]
  have hb : Below w5.heap.size w5 w6 := by rw [hwd]; exact (Below.refl _ _).drew
  have HN6 : Hid (FbF w w6 r ⟨A1, n1, c1, A2, n2, c3, ag⟩ za a2 xs g3 g5 ⟨X1, x1, d1, X2, x2, d2, xg⟩ ⟨Y1, y1, e1, Y2, y2, e2, yg⟩ z) := HN5.out.next hb
  clear hb hwd
  refine mix_seg [0, 2] (by kernel_rfl) HN6.out ?_
  simp only [segOf, pickOps, pickOp]
  repeat (go_big_quiet_step (fail))
  refine wpQuiet_nil ?_
  refine mix_run 1 (by kernel_rfl) ?_
  simp only [segOf, pickOps, pickOp]
  go_wp2_with fail
  refine (fBuild_any r _ (HK.out.below HN6.out.k.bel) HN6.out.k.env).mono ?_
  rintro e w7 ⟨b1, rfl, hq1, hk1, hb⟩
  have HQ1 := Lib.hid hq1
  have HK1 := Lib.hid hk1
  clear hq1 hk1
  simp only [Rv.v]
  have HN7 : Hid (FbF w w7 r ⟨A1, n1, c1, A2, n2, c3, ag⟩ za a2 xs g3 g5 ⟨X1, x1, d1, X2, x2, d2, xg⟩ ⟨Y1, y1, e1, Y2, y2, e2, yg⟩ z) := HN6.out.next hb
  clear hb
  go_wp2_with fail
  refine MixPost.normal HN7.out ?_
  refine mix_run 3 (by kernel_rfl) ?_
  simp only [segOf, pickOps, pickOp]
  go_wp2_with fail
  refine (rBuild_any r _ (HK.out.below HN7.out.k.bel) HN7.out.k.env).mono ?_
  rintro e w8 ⟨b2, rfl, hq2, hk2, hb⟩
  have HQ2 := Lib.hid hq2
  have HK2 := Lib.hid hk2
  have HK1b := Lib.hid (HK1.out.below hb)
  clear hq2 hk2 HK1
  simp only [Rv.v]
  have HN8 : Hid (FbF w w8 r ⟨A1, n1, c1, A2, n2, c3, ag⟩ za a2 xs g3 g5 ⟨X1, x1, d1, X2, x2, d2, xg⟩ ⟨Y1, y1, e1, Y2, y2, e2, yg⟩ z) := HN7.out.next hb
  clear hb
  go_wp2_with fail
  refine MixPost.normal HN8.out ?_
  refine mix_run 4 (by kernel_rfl) ?_
  simp only [segOf, pickOps, pickOp]
  go_wp2_with fail
  refine (Req_same b1 b2 _ HK1b.out HK2.out (HQ1.out.trans HQ2.out.symm)).mono ?_
  rintro e w9 ⟨rfl, hb⟩
  have HN9 : Hid (FbF w w9 r ⟨A1, n1, c1, A2, n2, c3, ag⟩ za a2 xs g3 g5 ⟨X1, x1, d1, X2, x2, d2, xg⟩ ⟨Y1, y1, e1, Y2, y2, e2, yg⟩ z) := HN8.out.next hb
  clear HK1b HK2 HQ1 HQ2
  clear hb
  go_wp2_with fail
  refine MixPost.normal HN9.out ?_
  refine mix_seg [5, 6, 7] (by kernel_rfl) HN9.out ?_
  simp only [segOf, pickOps, pickOp]
  repeat (go_big_quiet_step (fail))
  refine wpQuiet_nil ?_
  refine mix_run 8 (by kernel_rfl) ?_
  simp only [segOf, pickOps, pickOp]
  go_wp2_with fail
  refine (Allow_same ⟨X1, x1, d1, X2, x2, d2, xg⟩ ⟨Y1, y1, e1, Y2, y2, e2, yg⟩ z _ HN9.out.ix HN9.out.iy).mono ?_
  rintro e w10 ⟨rfl, hb⟩
  have HN10 : Hid (FbF w w10 r ⟨A1, n1, c1, A2, n2, c3, ag⟩ za a2 xs g3 g5 ⟨X1, x1, d1, X2, x2, d2, xg⟩ ⟨Y1, y1, e1, Y2, y2, e2, yg⟩ z) := HN9.out.next hb
  clear hb
  go_wp2_with fail
  refine MixPost.normal HN10.out ?_
  refine mix_seg [9, 10, 11, 12, 13, 14, 15, 16, 17, 18, 20, 21, 22] (by kernel_rfl) HN10.out ?_
  simp only [segOf, pickOps, pickOp]
  repeat (go_big_quiet_step (fail))
  refine wpQuiet_nil ?_
  refine mix_run 19 (by kernel_rfl) ?_
  simp only [segOf, pickOps, pickOp]
  go_wp2_with fail
  refine (fGrants_any r ⟨A1, n1, c1, A2, n2, c3, ag⟩ za now _ (HK.out.below HN10.out.k.bel) HN10.out.k.env HN10.out.k.av HMM.out HMZ.out HNW.out HZG.out).mono ?_
  rintro e w11 ⟨v1, rfl, hr1, _, hb⟩
  have HV1 := Lib.hid hr1
  clear hr1
  have HN11 : Hid (FbF w w11 r ⟨A1, n1, c1, A2, n2, c3, ag⟩ za a2 xs g3 g5 ⟨X1, x1, d1, X2, x2, d2, xg⟩ ⟨Y1, y1, e1, Y2, y2, e2, yg⟩ z) := HN10.out.next hb
  clear hb
  go_wp2_with fail
  refine MixPost.normal HN11.out ?_
  refine mix_run 23 (by kernel_rfl) ?_
  simp only [segOf, pickOps, pickOp]
  go_wp2_with fail
  refine (rGrants_any r ⟨A1, n1, c1, A2, n2, c3, ag⟩ za now _ (HK.out.below HN11.out.k.bel) HN11.out.k.env HN11.out.k.av HMM.out HMZ.out HNW.out HZG.out).mono ?_
  rintro e w12 ⟨v2, rfl, hr2, _, hb⟩
  have HV2 := Lib.hid hr2
  have HV1b := Lib.hid (HV1.out.old (Only.of_below hb []))
  clear hr2 HV1
  have HN12 : Hid (FbF w w12 r ⟨A1, n1, c1, A2, n2, c3, ag⟩ za a2 xs g3 g5 ⟨X1, x1, d1, X2, x2, d2, xg⟩ ⟨Y1, y1, e1, Y2, y2, e2, yg⟩ z) := HN11.out.next hb
  clear hb
  go_wp2_with fail
  refine MixPost.normal HN12.out ?_
  refine mix_run 24 (by kernel_rfl) ?_
  simp only [segOf, pickOps, pickOp]
  go_wp2_with fail
  refine (Ents_any v1 v2 (grantsQ r.q za now) _ HV1b.out HV2.out).mono ?_
  rintro e w13 ⟨rfl, ho⟩
  have hb := ho.to_below (by simp)
  clear ho
  have HN13 : Hid (FbF w w13 r ⟨A1, n1, c1, A2, n2, c3, ag⟩ za a2 xs g3 g5 ⟨X1, x1, d1, X2, x2, d2, xg⟩ ⟨Y1, y1, e1, Y2, y2, e2, yg⟩ z) := HN12.out.next hb
  clear hb
  go_wp2_with fail
  refine MixPost.normal HN13.out ?_
  refine mix_seg [25, 26] (by kernel_rfl) HN13.out ?_
  simp only [segOf, pickOps, pickOp]
  repeat (go_big_quiet_step (fail))
  refine wpQuiet_nil ?_
  refine mix_run 27 (by kernel_rfl) ?_
  simp only [segOf, pickOps, pickOp]
  go_wp2_with fail
  refine (awake17_any _ HN13.out.k.env).mono ?_
  rintro e w14 ⟨rfl, hb⟩
  have HN14 : Hid (FbF w w14 r ⟨A1, n1, c1, A2, n2, c3, ag⟩ za a2 xs g3 g5 ⟨X1, x1, d1, X2, x2, d2, xg⟩ ⟨Y1, y1, e1, Y2, y2, e2, yg⟩ z) := HN13.out.next hb
  clear hb
  go_wp2_with fail
  refine MixPost.normal HN14.out ?_
  refine mix_seg [28, 29] (by kernel_rfl) HN14.out ?_
  simp only [segOf, pickOps, pickOp]
  repeat (go_big_quiet_step (fail))
  refine wpQuiet_nil ?_
  refine mix_done (by kernel_rfl) ?_
  go_wp2
  go_ret
  exact ⟨rfl, HN14.out.k.bel⟩
end Go.Proofs.YtlkneapidmdpbaaGreatDoor
