/-
  The walk of the law FlightBuilds: whatever the input, it returns true, and nothing that was there has turned. Conditions: the arguments are such as any that come in; the library's variables and the tables of methods are as they are laid.
-/
import Derived.Test.YtlkneapidmdpbaaGreatDoorFAwake
import Derived.Test.YtlkneapidmdpbaaGreatDoorLAskW
import Derived.Deep.Cut
namespace Go.Proofs.YtlkneapidmdpbaaGreatDoor
open Go.RowKit

/-- a cell in a block of the call's own -/
structure CbAt (W : World) (g : Nat) (o u : ByteArray) (c : Bool) : Prop where
  c0 : W.cell? ⟨g, 0, none⟩ = some (.string o)
  c1 : W.cell? ⟨g, 1, none⟩ = some (.string u)
  c2 : W.cell? ⟨g, 2, none⟩ = some (.bool c)
  own : OwnB W g
section
variable {W W' : World} {g g' B : Nat} {o u o' u' : ByteArray} {c c' : Bool}
theorem CbAt.lt (h : CbAt W g o u c) : g < W.heap.size := block_of_cell h.c0
theorem CbAt.up (h : CbAt W g o u c) (hb : Below W.heap.size W W') : CbAt W' g o u c := ⟨(hb.cell h.lt).trans h.c0, (hb.cell h.lt).trans h.c1, (hb.cell h.lt).trans h.c2, h.own.below hb h.lt⟩
theorem CbAt.new (w : World) (o u : ByteArray) (c : Bool) (t : TypeId) : CbAt (w.alloc (.cells #[.string o, .string u, .bool c] t)) w.heap.size o u c := ⟨by simp, by simp, by simp, OwnB.new _ _ _⟩
def CbAt.put (W : World) (g : Nat) (o u : ByteArray) (c : Bool) : World := ((W.setCell ⟨g, 0, none⟩ (.string o)).setCell ⟨g, 1, none⟩ (.string u)).setCell ⟨g, 2, none⟩ (.bool c)
theorem CbAt.put_at (h : CbAt W g o u c) (o' u' : ByteArray) (c' : Bool) : CbAt (CbAt.put W g o' u' c') g o' u' c' := by
  obtain ⟨c0, c1, c2, own⟩ := h
  have d1 := cell_keep (v := .string o') c1 (j := 0) (by decide)
  have d2 := cell_keep (v := .string u') (cell_keep (v := .string o') c2 (j := 0) (by decide)) (j := 1) (by decide)
  refine ⟨?_, ?_, ?_, ((own.set _ _).set _ _).set _ _⟩
  · exact cell_keep (cell_keep (World.cell?_setCell_same _ _ _ c0) (by decide)) (by decide)
  · exact cell_keep (World.cell?_setCell_same _ _ _ d1) (by decide)
  · exact World.cell?_setCell_same _ _ _ d2
theorem CbAt.beside (h : CbAt W g o u c) (hg : g ≠ g') (o' u' : ByteArray) (c' : Bool) : CbAt (CbAt.put W g' o' u' c') g o u c :=
  ⟨(cell_other hg).trans ((cell_other hg).trans ((cell_other hg).trans h.c0)), (cell_other hg).trans ((cell_other hg).trans ((cell_other hg).trans h.c1)), (cell_other hg).trans ((cell_other hg).trans ((cell_other hg).trans h.c2)), ((h.own.set _ _).set _ _).set _ _⟩
theorem CbAt.put_below {w : World} (h : Below B w W) (hg : B ≤ g) (o u : ByteArray) (c : Bool) : Below B w (CbAt.put W g o u c) := ((h.setCell hg _).setCell hg _).setCell hg _
end
/-- what holds all through: the request and its preflight in their blocks, from world w3 on -/
structure BlF (w w3 W : World) (r z : Rv) (g3 : Nat) : Prop where
  bel : Below w.heap.size w w3
  b3 : Below w3.heap.size w3 W
  env0 : Env8 w
  kr0 : RqOk w r
  kz0 : RqOk w3 z
  ar0 : RqAt w3 w.heap.size r
  az0 : RqAt w3 g3 z
section
variable {w w3 W W' : World} {r z : Rv} {g3 : Nat}
theorem BlF.all (h : BlF w w3 W r z g3) : Below w.heap.size w W := h.bel.trans (h.b3.mono h.bel.size)
theorem BlF.env (h : BlF w w3 W r z g3) : Env8 W := h.env0.below h.all
theorem BlF.kr (h : BlF w w3 W r z g3) : RqOk W r := h.kr0.below h.all
theorem BlF.kz (h : BlF w w3 W r z g3) : RqOk W z := h.kz0.below h.b3
theorem BlF.ar (h : BlF w w3 W r z g3) : RqAt W w.heap.size r := h.ar0.below h.b3 h.ar0.lt
theorem BlF.az (h : BlF w w3 W r z g3) : RqAt W g3 z := h.az0.below h.b3 h.az0.lt
theorem BlF.next (h : BlF w w3 W r z g3) (hb : Below W.heap.size W W') : BlF w w3 W' r z g3 := ⟨h.bel, h.b3.trans (hb.mono h.b3.size), h.env0, h.kr0, h.kz0, h.ar0, h.az0⟩
theorem BlF.put (h : BlF w w3 W r z g3) {g : Nat} (hg : w3.heap.size ≤ g) (o u : ByteArray) (c : Bool) : BlF w w3 (CbAt.put W g o u c) r z g3 := ⟨h.bel, CbAt.put_below h.b3 hg o u c, h.env0, h.kr0, h.kz0, h.ar0, h.az0⟩
theorem BlF.re (h : BlF w w3 W r z g3) : BlF w W W r z g3 := ⟨h.all, Below.refl _ _, h.env0, h.kr0, h.kz, h.ar, h.az⟩
end
/-- and the two cells -/
structure BcF (w w3 W : World) (r z : Rv) (g3 g4 g5 : Nat) (o u : ByteArray) (c1 c2 : Bool) : Prop where
  k : BlF w w3 W r z g3
  x : CbAt W g4 o u c1
  y : CbAt W g5 o u c2
theorem BcF.next {w w3 W W' : World} {r z : Rv} {g3 g4 g5 : Nat} {o u : ByteArray} {c1 c2 : Bool} (h : BcF w w3 W r z g3 g4 g5 o u c1 c2) (hb : Below W.heap.size W W') : BcF w w3 W' r z g3 g4 g5 o u c1 c2 := ⟨h.k.next hb, h.x.up hb, h.y.up hb⟩

theorem field_req0 (a b c : ByteArray) (m : Int) (cr : Bool) (A : Option Addr) (n cp : Nat) (x y g s : Int) (w : World) : (Instr.field 25 (.agg #[.string a, .string b, .string c, .int .i64 m, .bool cr, .slice A n cp, .int .i64 x, .int .u64 y, .int .i64 g, .int .i64 s]) 0).run Tryz.prog w = .ok (.string a) w := by kernel_rfl
theorem field_want2 (a b : ByteArray) (c : Bool) (d e : ByteArray) (w : World) : (Instr.field 52 (.agg #[.string a, .string b, .bool c, .string d, .string e]) 2).run Tryz.prog w = .ok (.string e) w := by kernel_rfl
set_option maxRecDepth 100000 in
set_option maxHeartbeats 16000000 in
theorem walk_FlightBuilds (r : Rv) (w : World) (h0 : RArg w r) (he : Env8 w) :
    Calls Tryz.prog 4 #[r.v] w fun e w' => e = .returned (.bool true) ∧ Below w.heap.size w w' := by
  unfold Rv.v
  obtain ⟨W, hW⟩ : ∃ W, W = w.alloc (Obj.cells #[.string r.m, .string r.u, .string r.o, .int .i64 r.mode, .bool r.cr, .slice r.A r.n r.c, .int .i64 r.cl, .int .u64 r.tm, .int .i64 r.gr, .int .i64 r.sg] 25) := ⟨_, rfl⟩
  have HB0 : Hid (Below w.heap.size w W) := by show Below _ _ _; rw [hW]; exact (Below.refl _ _).alloc (Nat.le_refl _) _
  have HR0 : Hid (RqAt W w.heap.size r) := by show RqAt _ _ _; rw [hW]; exact RqAt.new w r _
  have HE := Lib.hid he
  have H0 := Lib.hid h0
  obtain ⟨gr, hgr⟩ : ∃ b, b = greatR r := ⟨_, rfl⟩
  have HG := Lib.hid hgr
  clear he h0 hgr
  go_enter Tryz.func4, Tryz.ntmps4
  go_wp2_with fail
  rw [← hW]
  clear hW
  refine (GreatReq_any r _ w.heap.size (H0.out.row.1.below HB0.out) HB0.out.size H0.out.len (Nat.le_trans H0.out.row.2.2.1 H0.out.row.2.2.2.1) H0.out.row.2.1).mono ?_
  rintro e w1 ⟨rfl, hb⟩
  rw [← HG.out]
  have HB1 : Hid (Below w.heap.size w w1) := HB0.out.trans (hb.mono HB0.out.size)
  have HR1 : Hid (RqAt w1 w.heap.size r) := HR0.out.below hb HR0.out.lt
  clear hb
  cases gr
  case true =>
    go_wp2_with fail
    refine (awake17_any _ (HE.out.below HB1.out)).mono ?_
    rintro e w2 ⟨rfl, hb⟩
    go_wp2
    go_ret
    exact ⟨rfl, HB1.out.trans (hb.mono HB1.out.size)⟩
  case false =>
  have HK := Lib.hid (H0.out.ok HG.out.symm)
  obtain ⟨r0, r1, r2, r3, r4, r5, r6, r7, r8, r9⟩ := HR1.out
  go_wp2_with fail
  refine (fBuild_any r _ (HK.out.below HB1.out) (HE.out.below HB1.out)).mono ?_
  rintro e w2 ⟨z, rfl, hzq, hzk, hb⟩
  have HZQ := Lib.hid hzq
  obtain ⟨w3, hw3⟩ : ∃ W, W = w2.alloc (Obj.cells #[.string z.m, .string z.u, .string z.o, .int .i64 z.mode, .bool z.cr, .slice z.A z.n z.c, .int .i64 z.cl, .int .u64 z.tm, .int .i64 z.gr, .int .i64 z.sg] 25) := ⟨_, rfl⟩
  obtain ⟨g3, hg3⟩ : ∃ g, g = w2.heap.size := ⟨_, rfl⟩
  have hb3 : Below w2.heap.size w2 w3 := by rw [hw3]; exact (Below.refl _ _).alloc (Nat.le_refl _) _
  have HB2 : Hid (Below w.heap.size w w2) := HB1.out.trans (hb.mono HB1.out.size)
  have HR2 : Hid (RqAt w2 w.heap.size r) := HR1.out.below hb HR1.out.lt
  have HN3 : Hid (BlF w w3 w3 r z g3) := ⟨HB2.out.trans (hb3.mono HB2.out.size), Below.refl _ _, HE.out, HK.out, hzk.below hb3, HR2.out.below hb3 HR2.out.lt, by rw [hw3, hg3]; exact RqAt.new w2 z _⟩
  clear hb hb3 hzq hzk r0 r1 r2 r3 r4 r5 r6 r7 r8 r9
  simp only [Rv.v]
  go_upto_region 4 with fail
  rw [← hw3, ← hg3]
  clear hw3 hg3 HB0 HB1 HB2 HR0 HR1 HR2
  obtain ⟨r0, r1, r2, r3, r4, r5, r6, r7, r8, r9⟩ := HN3.out.ar
  go_wp2_with fail
  clear r0 r1 r2 r3 r4 r5 r6 r7 r8 r9
  refine (aNeeds_any r _ HN3.out.kr HN3.out.env).mono ?_
  rintro e w4 ⟨rfl, hb⟩
  have HN4 : Hid (BlF w w3 w4 r z g3) := HN3.out.next hb
  clear hb
  obtain ⟨nd, hnd⟩ : ∃ b, b = needsQ r.q := ⟨_, rfl⟩
  rw [← hnd]
  have HND := Lib.hid hnd
  clear hnd
  cases nd
  case false =>
    obtain ⟨s0, s1, s2, s3, s4, s5, s6, s7, s8, s9⟩ := HN4.out.az
    go_wp2_with fail
    refine (Req_same z Rv.zero _ HN4.out.kz (RqOk.zero _) (by rw [HZQ.out, build_no HND.out.symm]; rfl)).mono ?_
    rintro e w5 ⟨rfl, hb⟩
    have HN5 : Hid (BlF w w3 w5 r z g3) := HN4.out.next hb
    clear hb s0 s1 s2 s3 s4 s5 s6 s7 s8 s9
    go_wp2_with fail
    refine (awake17_any _ HN5.out.env).mono ?_
    rintro e w6 ⟨rfl, hb⟩
    go_wp2
    go_ret
    exact ⟨rfl, HN5.out.all.trans (hb.mono HN5.out.all.size)⟩
  case true =>
  have HNT : Hid (needsQ r.q = true) := HND.out.symm
  have HOK := Lib.hid (needs_ok HNT.out)
  have HPQ : Hid (z.q = preQ r.q) := by show _ = _; rw [HZQ.out, build_yes HNT.out]
  have HCK : Hid (askI z.q = 0) := by show _ = _; rw [HPQ.out]; exact pre_ask HNT.out
  obtain ⟨co, hco⟩ : ∃ b, b = mk (wantQ r.q).o := ⟨_, rfl⟩
  obtain ⟨cu, hcu⟩ : ∃ b, b = mk (wantQ r.q).u := ⟨_, rfl⟩
  obtain ⟨cr, hcr⟩ : ∃ b, b = (wantQ r.q).cr := ⟨_, rfl⟩
  obtain ⟨wm, hwm⟩ : ∃ b, b = mk (wantQ r.q).m := ⟨_, rfl⟩
  obtain ⟨wn, hwn⟩ : ∃ b, b = mk (wantQ r.q).n := ⟨_, rfl⟩
  obtain ⟨cz, hcz⟩ : ∃ b, b = (wantQ z.q).cr := ⟨_, rfl⟩
  obtain ⟨ks, hks⟩ : ∃ b, b = mk (keyQ r.q) := ⟨_, rfl⟩
  have HCR : Hid ((Value.agg #[.string (mk (wantQ r.q).o), .string (mk (wantQ r.q).u), .bool (wantQ r.q).cr]) = .agg #[.string co, .string cu, .bool cr]) := by show _ = _; rw [hco, hcu, hcr]
  have HCZ : Hid ((Value.agg #[.string (mk (wantQ z.q).o), .string (mk (wantQ z.q).u), .bool (wantQ z.q).cr]) = .agg #[.string co, .string cu, .bool cz]) := by show _ = _; rw [hco, hcu, hcz, HPQ.out, (pre_want HNT.out).1, (pre_want HNT.out).2]
  have HWV : Hid ((wvOf (wantQ r.q)).v = .agg #[.string co, .string cu, .bool cr, .string wm, .string wn]) := by show _ = _; rw [hco, hcu, hcr, hwm, hwn]; rfl
  have HKR := Lib.hid hks
  have HKZ : Hid (ks = mk (keyQ z.q)) := by show _ = _; rw [hks, HPQ.out, pre_key HNT.out]
  have HWM := Lib.hid hwm
  have HWN := Lib.hid hwn
  clear hco hcu hcr hwm hwn hcz hks
  go_wp2_with fail
  go_cut [4, 5] from 10 (fun s4 s5 W => ∃ g4 g5 : Nat, s4 = .pointer (some ⟨g4, 0, none⟩) ∧ s5 = .pointer (some ⟨g5, 0, none⟩) ∧ BcF w w3 W r z g3 g4 g5 co cu cz cr)
  case first =>
    refine mix_start (fun W => BlF w w3 W r z g3) (by kernel_rfl) ?_
    have hne : Nonempty (Held (fun W => BlF w w3 W r z g3)) := ⟨⟨_, HN4.out⟩⟩
    have zz0 : ∀ pp : Held (fun W => BlF w w3 W r z g3), pp.w.cell? ⟨w.heap.size, 0, none⟩ = some (.string r.m) := fun pp => pp.h.ar.c0
    have zz1 : ∀ pp : Held (fun W => BlF w w3 W r z g3), pp.w.cell? ⟨w.heap.size, 1, none⟩ = some (.string r.u) := fun pp => pp.h.ar.c1
    have zz2 : ∀ pp : Held (fun W => BlF w w3 W r z g3), pp.w.cell? ⟨w.heap.size, 2, none⟩ = some (.string r.o) := fun pp => pp.h.ar.c2
    have zz3 : ∀ pp : Held (fun W => BlF w w3 W r z g3), pp.w.cell? ⟨w.heap.size, 3, none⟩ = some (.int .i64 r.mode) := fun pp => pp.h.ar.c3
    have zz4 : ∀ pp : Held (fun W => BlF w w3 W r z g3), pp.w.cell? ⟨w.heap.size, 4, none⟩ = some (.bool r.cr) := fun pp => pp.h.ar.c4
    have zz5 : ∀ pp : Held (fun W => BlF w w3 W r z g3), pp.w.cell? ⟨w.heap.size, 5, none⟩ = some (.slice r.A r.n r.c) := fun pp => pp.h.ar.c5
    have zz6 : ∀ pp : Held (fun W => BlF w w3 W r z g3), pp.w.cell? ⟨w.heap.size, 6, none⟩ = some (.int .i64 r.cl) := fun pp => pp.h.ar.c6
    have zz7 : ∀ pp : Held (fun W => BlF w w3 W r z g3), pp.w.cell? ⟨w.heap.size, 7, none⟩ = some (.int .u64 r.tm) := fun pp => pp.h.ar.c7
    have zz8 : ∀ pp : Held (fun W => BlF w w3 W r z g3), pp.w.cell? ⟨w.heap.size, 8, none⟩ = some (.int .i64 r.gr) := fun pp => pp.h.ar.c8
    have zz9 : ∀ pp : Held (fun W => BlF w w3 W r z g3), pp.w.cell? ⟨w.heap.size, 9, none⟩ = some (.int .i64 r.sg) := fun pp => pp.h.ar.c9
    have zz10 : ∀ pp : Held (fun W => BlF w w3 W r z g3), pp.w.cell? ⟨g3, 0, none⟩ = some (.string z.m) := fun pp => pp.h.az.c0
    have zz11 : ∀ pp : Held (fun W => BlF w w3 W r z g3), pp.w.cell? ⟨g3, 1, none⟩ = some (.string z.u) := fun pp => pp.h.az.c1
    have zz12 : ∀ pp : Held (fun W => BlF w w3 W r z g3), pp.w.cell? ⟨g3, 2, none⟩ = some (.string z.o) := fun pp => pp.h.az.c2
    have zz13 : ∀ pp : Held (fun W => BlF w w3 W r z g3), pp.w.cell? ⟨g3, 3, none⟩ = some (.int .i64 z.mode) := fun pp => pp.h.az.c3
    have zz14 : ∀ pp : Held (fun W => BlF w w3 W r z g3), pp.w.cell? ⟨g3, 4, none⟩ = some (.bool z.cr) := fun pp => pp.h.az.c4
    have zz15 : ∀ pp : Held (fun W => BlF w w3 W r z g3), pp.w.cell? ⟨g3, 5, none⟩ = some (.slice z.A z.n z.c) := fun pp => pp.h.az.c5
    have zz16 : ∀ pp : Held (fun W => BlF w w3 W r z g3), pp.w.cell? ⟨g3, 6, none⟩ = some (.int .i64 z.cl) := fun pp => pp.h.az.c6
    have zz17 : ∀ pp : Held (fun W => BlF w w3 W r z g3), pp.w.cell? ⟨g3, 7, none⟩ = some (.int .u64 z.tm) := fun pp => pp.h.az.c7
    have zz18 : ∀ pp : Held (fun W => BlF w w3 W r z g3), pp.w.cell? ⟨g3, 8, none⟩ = some (.int .i64 z.gr) := fun pp => pp.h.az.c8
    have zz19 : ∀ pp : Held (fun W => BlF w w3 W r z g3), pp.w.cell? ⟨g3, 9, none⟩ = some (.int .i64 z.sg) := fun pp => pp.h.az.c9
    obtain ⟨w5, hwd⟩ : ∃ W, W = w4.drew := ⟨_, rfl⟩
    rw [← hwd]
    have hb : Below w4.heap.size w4 w5 := by rw [hwd]; exact (Below.refl _ _).drew
    have HN5 : Hid (BlF w w3 w5 r z g3) := HN4.out.next hb
    clear hb hwd
    refine mix_seg [0, 2] (by kernel_rfl) HN5.out ?_
    simp only [segOf, pickOps, pickOp]
    repeat (go_big_quiet_step (fail))
    refine wpQuiet_nil ?_
    refine mix_several [1, 4, 5] (by kernel_rfl) ?_
    intro i hi
    rcases List.mem_cons.1 hi with rfl | hi
    · skip
      simp only [segOf, pickOps, pickOp]
      go_wp2_with fail
      refine (aCell_any z _ HN5.out.kz HN5.out.env).mono ?_
      rintro e w6 ⟨rfl, hb⟩
      rw [HCZ.out]
      have HN6 : Hid (BlF w w3 w6 r z g3) := HN5.out.next hb
      clear hb
      go_wp2_with fail
      refine MixPost.normal HN6.out ?_
      refine mix_several [3, 4, 5] (by kernel_rfl) ?_
      intro i hi
      rcases List.mem_cons.1 hi with rfl | hi
      · skip
        simp only [segOf, pickOps, pickOp]
        go_wp2_with fail
        refine (aCell_any r _ HN6.out.kr HN6.out.env).mono ?_
        rintro e w7 ⟨rfl, hb⟩
        rw [HCR.out]
        have HN7 : Hid (BlF w w3 w7 r z g3) := HN6.out.next hb
        clear hb
        go_wp2_with fail
        refine MixPost.normal HN7.out ?_
        refine mix_several [4, 5] (by kernel_rfl) ?_
        intro i hi
        rcases List.mem_cons.1 hi with rfl | hi
        · skip
          simp only [segOf, pickOps, pickOp]
          go_wp2_with fail
          obtain ⟨g4, hg⟩ : ∃ g, g = w7.heap.size := ⟨_, rfl⟩
          obtain ⟨w8, hw⟩ : ∃ W, W = w7.alloc (Obj.cells #[.string ⟨#[]⟩, .string ⟨#[]⟩, .bool false] 45) := ⟨_, rfl⟩
          have hb : Below w7.heap.size w7 w8 := by rw [hw]; exact (Below.refl _ _).alloc (Nat.le_refl _) _
          have HN8 : Hid (BlF w w3 w8 r z g3) := HN7.out.next hb
          have HZ4 : Hid (CbAt w8 g4 ⟨#[]⟩ ⟨#[]⟩ false) := by rw [hw, hg]; exact CbAt.new _ _ _ _ _
          have hl4 : w3.heap.size ≤ g4 := by rw [hg]; exact HN7.out.b3.size
          rw [← hw, ← hg]
          clear hw hg hb
          refine MixPost.normal HN8.out ?_
          refine mix_run 5 (by kernel_rfl) ?_
          simp only [segOf, pickOps, pickOp]
          go_wp2_with fail
          obtain ⟨g5, hg⟩ : ∃ g, g = w8.heap.size := ⟨_, rfl⟩
          obtain ⟨w9, hw⟩ : ∃ W, W = w8.alloc (Obj.cells #[.string ⟨#[]⟩, .string ⟨#[]⟩, .bool false] 45) := ⟨_, rfl⟩
          have hb : Below w8.heap.size w8 w9 := by rw [hw]; exact (Below.refl _ _).alloc (Nat.le_refl _) _
          have HN9 : Hid (BlF w w3 w9 r z g3) := HN8.out.next hb
          have HZ5 : Hid (CbAt w9 g5 ⟨#[]⟩ ⟨#[]⟩ false) := by rw [hw, hg]; exact CbAt.new _ _ _ _ _
          have hl5 : w3.heap.size ≤ g5 := by rw [hg]; exact HN8.out.b3.size
          have hn45 : g4 ≠ g5 := by have := HZ4.out.lt; omega
          replace HZ4 : Hid (CbAt w9 g4 ⟨#[]⟩ ⟨#[]⟩ false) := HZ4.out.up hb
          rw [← hw, ← hg]
          clear hw hg hb
          refine MixPost.normal HN9.out ?_
          refine mix_run 6 (by kernel_rfl) ?_
          simp only [segOf, pickOps, pickOp]
          obtain ⟨b0, b1, b2, ff⟩ := HZ4.out
          unfold OwnB at ff
          go_wp2_with fail
          obtain ⟨w10, hw⟩ : ∃ W, W = CbAt.put w9 g4 co cu cz := ⟨_, rfl⟩
          have HN10 : Hid (BlF w w3 w10 r z g3) := by rw [hw]; exact HN9.out.put hl4 co cu cz
          have HA4 : Hid (CbAt w10 g4 co cu cz) := by rw [hw]; exact HZ4.out.put_at co cu cz
          have HZ5b : Hid (CbAt w10 g5 ⟨#[]⟩ ⟨#[]⟩ false) := by rw [hw]; exact HZ5.out.beside hn45.symm co cu cz
          dsimp only [CbAt.put] at hw
          rw [← hw]
          clear hw ff HZ4 b0 b1 b2
          refine MixPost.normal HN10.out ?_
          refine mix_run 7 (by kernel_rfl) ?_
          simp only [segOf, pickOps, pickOp]
          obtain ⟨b0, b1, b2, ff⟩ := HZ5b.out
          unfold OwnB at ff
          go_wp2_with fail
          obtain ⟨w11, hw⟩ : ∃ W, W = CbAt.put w10 g5 co cu cr := ⟨_, rfl⟩
          have HN11 : Hid (BlF w w3 w11 r z g3) := by rw [hw]; exact HN10.out.put hl5 co cu cr
          have HA4b : Hid (CbAt w11 g4 co cu cz) := by rw [hw]; exact HA4.out.beside hn45 co cu cr
          have HA5 : Hid (CbAt w11 g5 co cu cr) := by rw [hw]; exact HZ5b.out.put_at co cu cr
          dsimp only [CbAt.put] at hw
          rw [← hw]
          clear hw ff b0 b1 b2
          refine MixPost.normal HN11.out ?_
          refine mix_done (by kernel_rfl) ?_
          go_wp2_with fail
          go_meet
          exact ⟨g4, g5, rfl, rfl, ⟨HN11.out, HA4b.out, HA5.out⟩⟩
        obtain rfl := List.mem_singleton.1 hi
        simp only [segOf, pickOps, pickOp]
        go_wp2_with fail
        obtain ⟨g5, hg⟩ : ∃ g, g = w7.heap.size := ⟨_, rfl⟩
        obtain ⟨w8, hw⟩ : ∃ W, W = w7.alloc (Obj.cells #[.string ⟨#[]⟩, .string ⟨#[]⟩, .bool false] 45) := ⟨_, rfl⟩
        have hb : Below w7.heap.size w7 w8 := by rw [hw]; exact (Below.refl _ _).alloc (Nat.le_refl _) _
        have HN8 : Hid (BlF w w3 w8 r z g3) := HN7.out.next hb
        have HZ5 : Hid (CbAt w8 g5 ⟨#[]⟩ ⟨#[]⟩ false) := by rw [hw, hg]; exact CbAt.new _ _ _ _ _
        have hl5 : w3.heap.size ≤ g5 := by rw [hg]; exact HN7.out.b3.size
        rw [← hw, ← hg]
        clear hw hg hb
        refine MixPost.normal HN8.out ?_
        refine mix_run 4 (by kernel_rfl) ?_
        simp only [segOf, pickOps, pickOp]
        go_wp2_with fail
        obtain ⟨g4, hg⟩ : ∃ g, g = w8.heap.size := ⟨_, rfl⟩
        obtain ⟨w9, hw⟩ : ∃ W, W = w8.alloc (Obj.cells #[.string ⟨#[]⟩, .string ⟨#[]⟩, .bool false] 45) := ⟨_, rfl⟩
        have hb : Below w8.heap.size w8 w9 := by rw [hw]; exact (Below.refl _ _).alloc (Nat.le_refl _) _
        have HN9 : Hid (BlF w w3 w9 r z g3) := HN8.out.next hb
        have HZ4 : Hid (CbAt w9 g4 ⟨#[]⟩ ⟨#[]⟩ false) := by rw [hw, hg]; exact CbAt.new _ _ _ _ _
        have hl4 : w3.heap.size ≤ g4 := by rw [hg]; exact HN8.out.b3.size
        have hn45 : g4 ≠ g5 := by have := HZ5.out.lt; omega
        replace HZ5 : Hid (CbAt w9 g5 ⟨#[]⟩ ⟨#[]⟩ false) := HZ5.out.up hb
        rw [← hw, ← hg]
        clear hw hg hb
        refine MixPost.normal HN9.out ?_
        refine mix_run 6 (by kernel_rfl) ?_
        simp only [segOf, pickOps, pickOp]
        obtain ⟨b0, b1, b2, ff⟩ := HZ4.out
        unfold OwnB at ff
        go_wp2_with fail
        obtain ⟨w10, hw⟩ : ∃ W, W = CbAt.put w9 g4 co cu cz := ⟨_, rfl⟩
        have HN10 : Hid (BlF w w3 w10 r z g3) := by rw [hw]; exact HN9.out.put hl4 co cu cz
        have HA4 : Hid (CbAt w10 g4 co cu cz) := by rw [hw]; exact HZ4.out.put_at co cu cz
        have HZ5b : Hid (CbAt w10 g5 ⟨#[]⟩ ⟨#[]⟩ false) := by rw [hw]; exact HZ5.out.beside hn45.symm co cu cz
        dsimp only [CbAt.put] at hw
        rw [← hw]
        clear hw ff HZ4 b0 b1 b2
        refine MixPost.normal HN10.out ?_
        refine mix_run 7 (by kernel_rfl) ?_
        simp only [segOf, pickOps, pickOp]
        obtain ⟨b0, b1, b2, ff⟩ := HZ5b.out
        unfold OwnB at ff
        go_wp2_with fail
        obtain ⟨w11, hw⟩ : ∃ W, W = CbAt.put w10 g5 co cu cr := ⟨_, rfl⟩
        have HN11 : Hid (BlF w w3 w11 r z g3) := by rw [hw]; exact HN10.out.put hl5 co cu cr
        have HA4b : Hid (CbAt w11 g4 co cu cz) := by rw [hw]; exact HA4.out.beside hn45 co cu cr
        have HA5 : Hid (CbAt w11 g5 co cu cr) := by rw [hw]; exact HZ5b.out.put_at co cu cr
        dsimp only [CbAt.put] at hw
        rw [← hw]
        clear hw ff b0 b1 b2
        refine MixPost.normal HN11.out ?_
        refine mix_done (by kernel_rfl) ?_
        go_wp2_with fail
        go_meet
        exact ⟨g4, g5, rfl, rfl, ⟨HN11.out, HA4b.out, HA5.out⟩⟩
      rcases List.mem_cons.1 hi with rfl | hi
      · skip
        simp only [segOf, pickOps, pickOp]
        go_wp2_with fail
        obtain ⟨g4, hg⟩ : ∃ g, g = w6.heap.size := ⟨_, rfl⟩
        obtain ⟨w7, hw⟩ : ∃ W, W = w6.alloc (Obj.cells #[.string ⟨#[]⟩, .string ⟨#[]⟩, .bool false] 45) := ⟨_, rfl⟩
        have hb : Below w6.heap.size w6 w7 := by rw [hw]; exact (Below.refl _ _).alloc (Nat.le_refl _) _
        have HN7 : Hid (BlF w w3 w7 r z g3) := HN6.out.next hb
        have HZ4 : Hid (CbAt w7 g4 ⟨#[]⟩ ⟨#[]⟩ false) := by rw [hw, hg]; exact CbAt.new _ _ _ _ _
        have hl4 : w3.heap.size ≤ g4 := by rw [hg]; exact HN6.out.b3.size
        rw [← hw, ← hg]
        clear hw hg hb
        refine MixPost.normal HN7.out ?_
        refine mix_several [3, 5] (by kernel_rfl) ?_
        intro i hi
        rcases List.mem_cons.1 hi with rfl | hi
        · skip
          simp only [segOf, pickOps, pickOp]
          go_wp2_with fail
          refine (aCell_any r _ HN7.out.kr HN7.out.env).mono ?_
          rintro e w8 ⟨rfl, hb⟩
          rw [HCR.out]
          have HN8 : Hid (BlF w w3 w8 r z g3) := HN7.out.next hb
          replace HZ4 : Hid (CbAt w8 g4 ⟨#[]⟩ ⟨#[]⟩ false) := HZ4.out.up hb
          clear hb
          go_wp2_with fail
          refine MixPost.normal HN8.out ?_
          refine mix_run 5 (by kernel_rfl) ?_
          simp only [segOf, pickOps, pickOp]
          go_wp2_with fail
          obtain ⟨g5, hg⟩ : ∃ g, g = w8.heap.size := ⟨_, rfl⟩
          obtain ⟨w9, hw⟩ : ∃ W, W = w8.alloc (Obj.cells #[.string ⟨#[]⟩, .string ⟨#[]⟩, .bool false] 45) := ⟨_, rfl⟩
          have hb : Below w8.heap.size w8 w9 := by rw [hw]; exact (Below.refl _ _).alloc (Nat.le_refl _) _
          have HN9 : Hid (BlF w w3 w9 r z g3) := HN8.out.next hb
          have HZ5 : Hid (CbAt w9 g5 ⟨#[]⟩ ⟨#[]⟩ false) := by rw [hw, hg]; exact CbAt.new _ _ _ _ _
          have hl5 : w3.heap.size ≤ g5 := by rw [hg]; exact HN8.out.b3.size
          have hn45 : g4 ≠ g5 := by have := HZ4.out.lt; omega
          replace HZ4 : Hid (CbAt w9 g4 ⟨#[]⟩ ⟨#[]⟩ false) := HZ4.out.up hb
          rw [← hw, ← hg]
          clear hw hg hb
          refine MixPost.normal HN9.out ?_
          refine mix_run 6 (by kernel_rfl) ?_
          simp only [segOf, pickOps, pickOp]
          obtain ⟨b0, b1, b2, ff⟩ := HZ4.out
          unfold OwnB at ff
          go_wp2_with fail
          obtain ⟨w10, hw⟩ : ∃ W, W = CbAt.put w9 g4 co cu cz := ⟨_, rfl⟩
          have HN10 : Hid (BlF w w3 w10 r z g3) := by rw [hw]; exact HN9.out.put hl4 co cu cz
          have HA4 : Hid (CbAt w10 g4 co cu cz) := by rw [hw]; exact HZ4.out.put_at co cu cz
          have HZ5b : Hid (CbAt w10 g5 ⟨#[]⟩ ⟨#[]⟩ false) := by rw [hw]; exact HZ5.out.beside hn45.symm co cu cz
          dsimp only [CbAt.put] at hw
          rw [← hw]
          clear hw ff HZ4 b0 b1 b2
          refine MixPost.normal HN10.out ?_
          refine mix_run 7 (by kernel_rfl) ?_
          simp only [segOf, pickOps, pickOp]
          obtain ⟨b0, b1, b2, ff⟩ := HZ5b.out
          unfold OwnB at ff
          go_wp2_with fail
          obtain ⟨w11, hw⟩ : ∃ W, W = CbAt.put w10 g5 co cu cr := ⟨_, rfl⟩
          have HN11 : Hid (BlF w w3 w11 r z g3) := by rw [hw]; exact HN10.out.put hl5 co cu cr
          have HA4b : Hid (CbAt w11 g4 co cu cz) := by rw [hw]; exact HA4.out.beside hn45 co cu cr
          have HA5 : Hid (CbAt w11 g5 co cu cr) := by rw [hw]; exact HZ5b.out.put_at co cu cr
          dsimp only [CbAt.put] at hw
          rw [← hw]
          clear hw ff b0 b1 b2
          refine MixPost.normal HN11.out ?_
          refine mix_done (by kernel_rfl) ?_
          go_wp2_with fail
          go_meet
          exact ⟨g4, g5, rfl, rfl, ⟨HN11.out, HA4b.out, HA5.out⟩⟩
        obtain rfl := List.mem_singleton.1 hi
        simp only [segOf, pickOps, pickOp]
        go_wp2_with fail
        obtain ⟨g5, hg⟩ : ∃ g, g = w7.heap.size := ⟨_, rfl⟩
        obtain ⟨w8, hw⟩ : ∃ W, W = w7.alloc (Obj.cells #[.string ⟨#[]⟩, .string ⟨#[]⟩, .bool false] 45) := ⟨_, rfl⟩
        have hb : Below w7.heap.size w7 w8 := by rw [hw]; exact (Below.refl _ _).alloc (Nat.le_refl _) _
        have HN8 : Hid (BlF w w3 w8 r z g3) := HN7.out.next hb
        have HZ5 : Hid (CbAt w8 g5 ⟨#[]⟩ ⟨#[]⟩ false) := by rw [hw, hg]; exact CbAt.new _ _ _ _ _
        have hl5 : w3.heap.size ≤ g5 := by rw [hg]; exact HN7.out.b3.size
        have hn45 : g4 ≠ g5 := by have := HZ4.out.lt; omega
        replace HZ4 : Hid (CbAt w8 g4 ⟨#[]⟩ ⟨#[]⟩ false) := HZ4.out.up hb
        rw [← hw, ← hg]
        clear hw hg hb
        refine MixPost.normal HN8.out ?_
        refine mix_run 3 (by kernel_rfl) ?_
        simp only [segOf, pickOps, pickOp]
        go_wp2_with fail
        refine (aCell_any r _ HN8.out.kr HN8.out.env).mono ?_
        rintro e w9 ⟨rfl, hb⟩
        rw [HCR.out]
        have HN9 : Hid (BlF w w3 w9 r z g3) := HN8.out.next hb
        replace HZ4 : Hid (CbAt w9 g4 ⟨#[]⟩ ⟨#[]⟩ false) := HZ4.out.up hb
        replace HZ5 : Hid (CbAt w9 g5 ⟨#[]⟩ ⟨#[]⟩ false) := HZ5.out.up hb
        clear hb
        go_wp2_with fail
        refine MixPost.normal HN9.out ?_
        refine mix_run 6 (by kernel_rfl) ?_
        simp only [segOf, pickOps, pickOp]
        obtain ⟨b0, b1, b2, ff⟩ := HZ4.out
        unfold OwnB at ff
        go_wp2_with fail
        obtain ⟨w10, hw⟩ : ∃ W, W = CbAt.put w9 g4 co cu cz := ⟨_, rfl⟩
        have HN10 : Hid (BlF w w3 w10 r z g3) := by rw [hw]; exact HN9.out.put hl4 co cu cz
        have HA4 : Hid (CbAt w10 g4 co cu cz) := by rw [hw]; exact HZ4.out.put_at co cu cz
        have HZ5b : Hid (CbAt w10 g5 ⟨#[]⟩ ⟨#[]⟩ false) := by rw [hw]; exact HZ5.out.beside hn45.symm co cu cz
        dsimp only [CbAt.put] at hw
        rw [← hw]
        clear hw ff HZ4 b0 b1 b2
        refine MixPost.normal HN10.out ?_
        refine mix_run 7 (by kernel_rfl) ?_
        simp only [segOf, pickOps, pickOp]
        obtain ⟨b0, b1, b2, ff⟩ := HZ5b.out
        unfold OwnB at ff
        go_wp2_with fail
        obtain ⟨w11, hw⟩ : ∃ W, W = CbAt.put w10 g5 co cu cr := ⟨_, rfl⟩
        have HN11 : Hid (BlF w w3 w11 r z g3) := by rw [hw]; exact HN10.out.put hl5 co cu cr
        have HA4b : Hid (CbAt w11 g4 co cu cz) := by rw [hw]; exact HA4.out.beside hn45 co cu cr
        have HA5 : Hid (CbAt w11 g5 co cu cr) := by rw [hw]; exact HZ5b.out.put_at co cu cr
        dsimp only [CbAt.put] at hw
        rw [← hw]
        clear hw ff b0 b1 b2
        refine MixPost.normal HN11.out ?_
        refine mix_done (by kernel_rfl) ?_
        go_wp2_with fail
        go_meet
        exact ⟨g4, g5, rfl, rfl, ⟨HN11.out, HA4b.out, HA5.out⟩⟩
      obtain rfl := List.mem_singleton.1 hi
      simp only [segOf, pickOps, pickOp]
      go_wp2_with fail
      obtain ⟨g5, hg⟩ : ∃ g, g = w6.heap.size := ⟨_, rfl⟩
      obtain ⟨w7, hw⟩ : ∃ W, W = w6.alloc (Obj.cells #[.string ⟨#[]⟩, .string ⟨#[]⟩, .bool false] 45) := ⟨_, rfl⟩
      have hb : Below w6.heap.size w6 w7 := by rw [hw]; exact (Below.refl _ _).alloc (Nat.le_refl _) _
      have HN7 : Hid (BlF w w3 w7 r z g3) := HN6.out.next hb
      have HZ5 : Hid (CbAt w7 g5 ⟨#[]⟩ ⟨#[]⟩ false) := by rw [hw, hg]; exact CbAt.new _ _ _ _ _
      have hl5 : w3.heap.size ≤ g5 := by rw [hg]; exact HN6.out.b3.size
      rw [← hw, ← hg]
      clear hw hg hb
      refine MixPost.normal HN7.out ?_
      refine mix_several [3, 4] (by kernel_rfl) ?_
      intro i hi
      rcases List.mem_cons.1 hi with rfl | hi
      · skip
        simp only [segOf, pickOps, pickOp]
        go_wp2_with fail
        refine (aCell_any r _ HN7.out.kr HN7.out.env).mono ?_
        rintro e w8 ⟨rfl, hb⟩
        rw [HCR.out]
        have HN8 : Hid (BlF w w3 w8 r z g3) := HN7.out.next hb
        replace HZ5 : Hid (CbAt w8 g5 ⟨#[]⟩ ⟨#[]⟩ false) := HZ5.out.up hb
        clear hb
        go_wp2_with fail
        refine MixPost.normal HN8.out ?_
        refine mix_run 4 (by kernel_rfl) ?_
        simp only [segOf, pickOps, pickOp]
        go_wp2_with fail
        obtain ⟨g4, hg⟩ : ∃ g, g = w8.heap.size := ⟨_, rfl⟩
        obtain ⟨w9, hw⟩ : ∃ W, W = w8.alloc (Obj.cells #[.string ⟨#[]⟩, .string ⟨#[]⟩, .bool false] 45) := ⟨_, rfl⟩
        have hb : Below w8.heap.size w8 w9 := by rw [hw]; exact (Below.refl _ _).alloc (Nat.le_refl _) _
        have HN9 : Hid (BlF w w3 w9 r z g3) := HN8.out.next hb
        have HZ4 : Hid (CbAt w9 g4 ⟨#[]⟩ ⟨#[]⟩ false) := by rw [hw, hg]; exact CbAt.new _ _ _ _ _
        have hl4 : w3.heap.size ≤ g4 := by rw [hg]; exact HN8.out.b3.size
        have hn45 : g4 ≠ g5 := by have := HZ5.out.lt; omega
        replace HZ5 : Hid (CbAt w9 g5 ⟨#[]⟩ ⟨#[]⟩ false) := HZ5.out.up hb
        rw [← hw, ← hg]
        clear hw hg hb
        refine MixPost.normal HN9.out ?_
        refine mix_run 6 (by kernel_rfl) ?_
        simp only [segOf, pickOps, pickOp]
        obtain ⟨b0, b1, b2, ff⟩ := HZ4.out
        unfold OwnB at ff
        go_wp2_with fail
        obtain ⟨w10, hw⟩ : ∃ W, W = CbAt.put w9 g4 co cu cz := ⟨_, rfl⟩
        have HN10 : Hid (BlF w w3 w10 r z g3) := by rw [hw]; exact HN9.out.put hl4 co cu cz
        have HA4 : Hid (CbAt w10 g4 co cu cz) := by rw [hw]; exact HZ4.out.put_at co cu cz
        have HZ5b : Hid (CbAt w10 g5 ⟨#[]⟩ ⟨#[]⟩ false) := by rw [hw]; exact HZ5.out.beside hn45.symm co cu cz
        dsimp only [CbAt.put] at hw
        rw [← hw]
        clear hw ff HZ4 b0 b1 b2
        refine MixPost.normal HN10.out ?_
        refine mix_run 7 (by kernel_rfl) ?_
        simp only [segOf, pickOps, pickOp]
        obtain ⟨b0, b1, b2, ff⟩ := HZ5b.out
        unfold OwnB at ff
        go_wp2_with fail
        obtain ⟨w11, hw⟩ : ∃ W, W = CbAt.put w10 g5 co cu cr := ⟨_, rfl⟩
        have HN11 : Hid (BlF w w3 w11 r z g3) := by rw [hw]; exact HN10.out.put hl5 co cu cr
        have HA4b : Hid (CbAt w11 g4 co cu cz) := by rw [hw]; exact HA4.out.beside hn45 co cu cr
        have HA5 : Hid (CbAt w11 g5 co cu cr) := by rw [hw]; exact HZ5b.out.put_at co cu cr
        dsimp only [CbAt.put] at hw
        rw [← hw]
        clear hw ff b0 b1 b2
        refine MixPost.normal HN11.out ?_
        refine mix_done (by kernel_rfl) ?_
        go_wp2_with fail
        go_meet
        exact ⟨g4, g5, rfl, rfl, ⟨HN11.out, HA4b.out, HA5.out⟩⟩
      obtain rfl := List.mem_singleton.1 hi
      simp only [segOf, pickOps, pickOp]
      go_wp2_with fail
      obtain ⟨g4, hg⟩ : ∃ g, g = w7.heap.size := ⟨_, rfl⟩
      obtain ⟨w8, hw⟩ : ∃ W, W = w7.alloc (Obj.cells #[.string ⟨#[]⟩, .string ⟨#[]⟩, .bool false] 45) := ⟨_, rfl⟩
      have hb : Below w7.heap.size w7 w8 := by rw [hw]; exact (Below.refl _ _).alloc (Nat.le_refl _) _
      have HN8 : Hid (BlF w w3 w8 r z g3) := HN7.out.next hb
      have HZ4 : Hid (CbAt w8 g4 ⟨#[]⟩ ⟨#[]⟩ false) := by rw [hw, hg]; exact CbAt.new _ _ _ _ _
      have hl4 : w3.heap.size ≤ g4 := by rw [hg]; exact HN7.out.b3.size
      have hn45 : g4 ≠ g5 := by have := HZ5.out.lt; omega
      replace HZ5 : Hid (CbAt w8 g5 ⟨#[]⟩ ⟨#[]⟩ false) := HZ5.out.up hb
      rw [← hw, ← hg]
      clear hw hg hb
      refine MixPost.normal HN8.out ?_
      refine mix_run 3 (by kernel_rfl) ?_
      simp only [segOf, pickOps, pickOp]
      go_wp2_with fail
      refine (aCell_any r _ HN8.out.kr HN8.out.env).mono ?_
      rintro e w9 ⟨rfl, hb⟩
      rw [HCR.out]
      have HN9 : Hid (BlF w w3 w9 r z g3) := HN8.out.next hb
      replace HZ4 : Hid (CbAt w9 g4 ⟨#[]⟩ ⟨#[]⟩ false) := HZ4.out.up hb
      replace HZ5 : Hid (CbAt w9 g5 ⟨#[]⟩ ⟨#[]⟩ false) := HZ5.out.up hb
      clear hb
      go_wp2_with fail
      refine MixPost.normal HN9.out ?_
      refine mix_run 6 (by kernel_rfl) ?_
      simp only [segOf, pickOps, pickOp]
      obtain ⟨b0, b1, b2, ff⟩ := HZ4.out
      unfold OwnB at ff
      go_wp2_with fail
      obtain ⟨w10, hw⟩ : ∃ W, W = CbAt.put w9 g4 co cu cz := ⟨_, rfl⟩
      have HN10 : Hid (BlF w w3 w10 r z g3) := by rw [hw]; exact HN9.out.put hl4 co cu cz
      have HA4 : Hid (CbAt w10 g4 co cu cz) := by rw [hw]; exact HZ4.out.put_at co cu cz
      have HZ5b : Hid (CbAt w10 g5 ⟨#[]⟩ ⟨#[]⟩ false) := by rw [hw]; exact HZ5.out.beside hn45.symm co cu cz
      dsimp only [CbAt.put] at hw
      rw [← hw]
      clear hw ff HZ4 b0 b1 b2
      refine MixPost.normal HN10.out ?_
      refine mix_run 7 (by kernel_rfl) ?_
      simp only [segOf, pickOps, pickOp]
      obtain ⟨b0, b1, b2, ff⟩ := HZ5b.out
      unfold OwnB at ff
      go_wp2_with fail
      obtain ⟨w11, hw⟩ : ∃ W, W = CbAt.put w10 g5 co cu cr := ⟨_, rfl⟩
      have HN11 : Hid (BlF w w3 w11 r z g3) := by rw [hw]; exact HN10.out.put hl5 co cu cr
      have HA4b : Hid (CbAt w11 g4 co cu cz) := by rw [hw]; exact HA4.out.beside hn45 co cu cr
      have HA5 : Hid (CbAt w11 g5 co cu cr) := by rw [hw]; exact HZ5b.out.put_at co cu cr
      dsimp only [CbAt.put] at hw
      rw [← hw]
      clear hw ff b0 b1 b2
      refine MixPost.normal HN11.out ?_
      refine mix_done (by kernel_rfl) ?_
      go_wp2_with fail
      go_meet
      exact ⟨g4, g5, rfl, rfl, ⟨HN11.out, HA4b.out, HA5.out⟩⟩
    rcases List.mem_cons.1 hi with rfl | hi
    · skip
      simp only [segOf, pickOps, pickOp]
      go_wp2_with fail
      obtain ⟨g4, hg⟩ : ∃ g, g = w5.heap.size := ⟨_, rfl⟩
      obtain ⟨w6, hw⟩ : ∃ W, W = w5.alloc (Obj.cells #[.string ⟨#[]⟩, .string ⟨#[]⟩, .bool false] 45) := ⟨_, rfl⟩
      have hb : Below w5.heap.size w5 w6 := by rw [hw]; exact (Below.refl _ _).alloc (Nat.le_refl _) _
      have HN6 : Hid (BlF w w3 w6 r z g3) := HN5.out.next hb
      have HZ4 : Hid (CbAt w6 g4 ⟨#[]⟩ ⟨#[]⟩ false) := by rw [hw, hg]; exact CbAt.new _ _ _ _ _
      have hl4 : w3.heap.size ≤ g4 := by rw [hg]; exact HN5.out.b3.size
      rw [← hw, ← hg]
      clear hw hg hb
      refine MixPost.normal HN6.out ?_
      refine mix_several [1, 5] (by kernel_rfl) ?_
      intro i hi
      rcases List.mem_cons.1 hi with rfl | hi
      · skip
        simp only [segOf, pickOps, pickOp]
        go_wp2_with fail
        refine (aCell_any z _ HN6.out.kz HN6.out.env).mono ?_
        rintro e w7 ⟨rfl, hb⟩
        rw [HCZ.out]
        have HN7 : Hid (BlF w w3 w7 r z g3) := HN6.out.next hb
        replace HZ4 : Hid (CbAt w7 g4 ⟨#[]⟩ ⟨#[]⟩ false) := HZ4.out.up hb
        clear hb
        go_wp2_with fail
        refine MixPost.normal HN7.out ?_
        refine mix_several [3, 5] (by kernel_rfl) ?_
        intro i hi
        rcases List.mem_cons.1 hi with rfl | hi
        · skip
          simp only [segOf, pickOps, pickOp]
          go_wp2_with fail
          refine (aCell_any r _ HN7.out.kr HN7.out.env).mono ?_
          rintro e w8 ⟨rfl, hb⟩
          rw [HCR.out]
          have HN8 : Hid (BlF w w3 w8 r z g3) := HN7.out.next hb
          replace HZ4 : Hid (CbAt w8 g4 ⟨#[]⟩ ⟨#[]⟩ false) := HZ4.out.up hb
          clear hb
          go_wp2_with fail
          refine MixPost.normal HN8.out ?_
          refine mix_run 5 (by kernel_rfl) ?_
          simp only [segOf, pickOps, pickOp]
          go_wp2_with fail
          obtain ⟨g5, hg⟩ : ∃ g, g = w8.heap.size := ⟨_, rfl⟩
          obtain ⟨w9, hw⟩ : ∃ W, W = w8.alloc (Obj.cells #[.string ⟨#[]⟩, .string ⟨#[]⟩, .bool false] 45) := ⟨_, rfl⟩
          have hb : Below w8.heap.size w8 w9 := by rw [hw]; exact (Below.refl _ _).alloc (Nat.le_refl _) _
          have HN9 : Hid (BlF w w3 w9 r z g3) := HN8.out.next hb
          have HZ5 : Hid (CbAt w9 g5 ⟨#[]⟩ ⟨#[]⟩ false) := by rw [hw, hg]; exact CbAt.new _ _ _ _ _
          have hl5 : w3.heap.size ≤ g5 := by rw [hg]; exact HN8.out.b3.size
          have hn45 : g4 ≠ g5 := by have := HZ4.out.lt; omega
          replace HZ4 : Hid (CbAt w9 g4 ⟨#[]⟩ ⟨#[]⟩ false) := HZ4.out.up hb
          rw [← hw, ← hg]
          clear hw hg hb
          refine MixPost.normal HN9.out ?_
          refine mix_run 6 (by kernel_rfl) ?_
          simp only [segOf, pickOps, pickOp]
          obtain ⟨b0, b1, b2, ff⟩ := HZ4.out
          unfold OwnB at ff
          go_wp2_with fail
          obtain ⟨w10, hw⟩ : ∃ W, W = CbAt.put w9 g4 co cu cz := ⟨_, rfl⟩
          have HN10 : Hid (BlF w w3 w10 r z g3) := by rw [hw]; exact HN9.out.put hl4 co cu cz
          have HA4 : Hid (CbAt w10 g4 co cu cz) := by rw [hw]; exact HZ4.out.put_at co cu cz
          have HZ5b : Hid (CbAt w10 g5 ⟨#[]⟩ ⟨#[]⟩ false) := by rw [hw]; exact HZ5.out.beside hn45.symm co cu cz
          dsimp only [CbAt.put] at hw
          rw [← hw]
          clear hw ff HZ4 b0 b1 b2
          refine MixPost.normal HN10.out ?_
          refine mix_run 7 (by kernel_rfl) ?_
          simp only [segOf, pickOps, pickOp]
          obtain ⟨b0, b1, b2, ff⟩ := HZ5b.out
          unfold OwnB at ff
          go_wp2_with fail
          obtain ⟨w11, hw⟩ : ∃ W, W = CbAt.put w10 g5 co cu cr := ⟨_, rfl⟩
          have HN11 : Hid (BlF w w3 w11 r z g3) := by rw [hw]; exact HN10.out.put hl5 co cu cr
          have HA4b : Hid (CbAt w11 g4 co cu cz) := by rw [hw]; exact HA4.out.beside hn45 co cu cr
          have HA5 : Hid (CbAt w11 g5 co cu cr) := by rw [hw]; exact HZ5b.out.put_at co cu cr
          dsimp only [CbAt.put] at hw
          rw [← hw]
          clear hw ff b0 b1 b2
          refine MixPost.normal HN11.out ?_
          refine mix_done (by kernel_rfl) ?_
          go_wp2_with fail
          go_meet
          exact ⟨g4, g5, rfl, rfl, ⟨HN11.out, HA4b.out, HA5.out⟩⟩
        obtain rfl := List.mem_singleton.1 hi
        simp only [segOf, pickOps, pickOp]
        go_wp2_with fail
        obtain ⟨g5, hg⟩ : ∃ g, g = w7.heap.size := ⟨_, rfl⟩
        obtain ⟨w8, hw⟩ : ∃ W, W = w7.alloc (Obj.cells #[.string ⟨#[]⟩, .string ⟨#[]⟩, .bool false] 45) := ⟨_, rfl⟩
        have hb : Below w7.heap.size w7 w8 := by rw [hw]; exact (Below.refl _ _).alloc (Nat.le_refl _) _
        have HN8 : Hid (BlF w w3 w8 r z g3) := HN7.out.next hb
        have HZ5 : Hid (CbAt w8 g5 ⟨#[]⟩ ⟨#[]⟩ false) := by rw [hw, hg]; exact CbAt.new _ _ _ _ _
        have hl5 : w3.heap.size ≤ g5 := by rw [hg]; exact HN7.out.b3.size
        have hn45 : g4 ≠ g5 := by have := HZ4.out.lt; omega
        replace HZ4 : Hid (CbAt w8 g4 ⟨#[]⟩ ⟨#[]⟩ false) := HZ4.out.up hb
        rw [← hw, ← hg]
        clear hw hg hb
        refine MixPost.normal HN8.out ?_
        refine mix_run 3 (by kernel_rfl) ?_
        simp only [segOf, pickOps, pickOp]
        go_wp2_with fail
        refine (aCell_any r _ HN8.out.kr HN8.out.env).mono ?_
        rintro e w9 ⟨rfl, hb⟩
        rw [HCR.out]
        have HN9 : Hid (BlF w w3 w9 r z g3) := HN8.out.next hb
        replace HZ4 : Hid (CbAt w9 g4 ⟨#[]⟩ ⟨#[]⟩ false) := HZ4.out.up hb
        replace HZ5 : Hid (CbAt w9 g5 ⟨#[]⟩ ⟨#[]⟩ false) := HZ5.out.up hb
        clear hb
        go_wp2_with fail
        refine MixPost.normal HN9.out ?_
        refine mix_run 6 (by kernel_rfl) ?_
        simp only [segOf, pickOps, pickOp]
        obtain ⟨b0, b1, b2, ff⟩ := HZ4.out
        unfold OwnB at ff
        go_wp2_with fail
        obtain ⟨w10, hw⟩ : ∃ W, W = CbAt.put w9 g4 co cu cz := ⟨_, rfl⟩
        have HN10 : Hid (BlF w w3 w10 r z g3) := by rw [hw]; exact HN9.out.put hl4 co cu cz
        have HA4 : Hid (CbAt w10 g4 co cu cz) := by rw [hw]; exact HZ4.out.put_at co cu cz
        have HZ5b : Hid (CbAt w10 g5 ⟨#[]⟩ ⟨#[]⟩ false) := by rw [hw]; exact HZ5.out.beside hn45.symm co cu cz
        dsimp only [CbAt.put] at hw
        rw [← hw]
        clear hw ff HZ4 b0 b1 b2
        refine MixPost.normal HN10.out ?_
        refine mix_run 7 (by kernel_rfl) ?_
        simp only [segOf, pickOps, pickOp]
        obtain ⟨b0, b1, b2, ff⟩ := HZ5b.out
        unfold OwnB at ff
        go_wp2_with fail
        obtain ⟨w11, hw⟩ : ∃ W, W = CbAt.put w10 g5 co cu cr := ⟨_, rfl⟩
        have HN11 : Hid (BlF w w3 w11 r z g3) := by rw [hw]; exact HN10.out.put hl5 co cu cr
        have HA4b : Hid (CbAt w11 g4 co cu cz) := by rw [hw]; exact HA4.out.beside hn45 co cu cr
        have HA5 : Hid (CbAt w11 g5 co cu cr) := by rw [hw]; exact HZ5b.out.put_at co cu cr
        dsimp only [CbAt.put] at hw
        rw [← hw]
        clear hw ff b0 b1 b2
        refine MixPost.normal HN11.out ?_
        refine mix_done (by kernel_rfl) ?_
        go_wp2_with fail
        go_meet
        exact ⟨g4, g5, rfl, rfl, ⟨HN11.out, HA4b.out, HA5.out⟩⟩
      obtain rfl := List.mem_singleton.1 hi
      simp only [segOf, pickOps, pickOp]
      go_wp2_with fail
      obtain ⟨g5, hg⟩ : ∃ g, g = w6.heap.size := ⟨_, rfl⟩
      obtain ⟨w7, hw⟩ : ∃ W, W = w6.alloc (Obj.cells #[.string ⟨#[]⟩, .string ⟨#[]⟩, .bool false] 45) := ⟨_, rfl⟩
      have hb : Below w6.heap.size w6 w7 := by rw [hw]; exact (Below.refl _ _).alloc (Nat.le_refl _) _
      have HN7 : Hid (BlF w w3 w7 r z g3) := HN6.out.next hb
      have HZ5 : Hid (CbAt w7 g5 ⟨#[]⟩ ⟨#[]⟩ false) := by rw [hw, hg]; exact CbAt.new _ _ _ _ _
      have hl5 : w3.heap.size ≤ g5 := by rw [hg]; exact HN6.out.b3.size
      have hn45 : g4 ≠ g5 := by have := HZ4.out.lt; omega
      replace HZ4 : Hid (CbAt w7 g4 ⟨#[]⟩ ⟨#[]⟩ false) := HZ4.out.up hb
      rw [← hw, ← hg]
      clear hw hg hb
      refine MixPost.normal HN7.out ?_
      refine mix_run 1 (by kernel_rfl) ?_
      simp only [segOf, pickOps, pickOp]
      go_wp2_with fail
      refine (aCell_any z _ HN7.out.kz HN7.out.env).mono ?_
      rintro e w8 ⟨rfl, hb⟩
      rw [HCZ.out]
      have HN8 : Hid (BlF w w3 w8 r z g3) := HN7.out.next hb
      replace HZ4 : Hid (CbAt w8 g4 ⟨#[]⟩ ⟨#[]⟩ false) := HZ4.out.up hb
      replace HZ5 : Hid (CbAt w8 g5 ⟨#[]⟩ ⟨#[]⟩ false) := HZ5.out.up hb
      clear hb
      go_wp2_with fail
      refine MixPost.normal HN8.out ?_
      refine mix_run 3 (by kernel_rfl) ?_
      simp only [segOf, pickOps, pickOp]
      go_wp2_with fail
      refine (aCell_any r _ HN8.out.kr HN8.out.env).mono ?_
      rintro e w9 ⟨rfl, hb⟩
      rw [HCR.out]
      have HN9 : Hid (BlF w w3 w9 r z g3) := HN8.out.next hb
      replace HZ4 : Hid (CbAt w9 g4 ⟨#[]⟩ ⟨#[]⟩ false) := HZ4.out.up hb
      replace HZ5 : Hid (CbAt w9 g5 ⟨#[]⟩ ⟨#[]⟩ false) := HZ5.out.up hb
      clear hb
      go_wp2_with fail
      refine MixPost.normal HN9.out ?_
      refine mix_run 6 (by kernel_rfl) ?_
      simp only [segOf, pickOps, pickOp]
      obtain ⟨b0, b1, b2, ff⟩ := HZ4.out
      unfold OwnB at ff
      go_wp2_with fail
      obtain ⟨w10, hw⟩ : ∃ W, W = CbAt.put w9 g4 co cu cz := ⟨_, rfl⟩
      have HN10 : Hid (BlF w w3 w10 r z g3) := by rw [hw]; exact HN9.out.put hl4 co cu cz
      have HA4 : Hid (CbAt w10 g4 co cu cz) := by rw [hw]; exact HZ4.out.put_at co cu cz
      have HZ5b : Hid (CbAt w10 g5 ⟨#[]⟩ ⟨#[]⟩ false) := by rw [hw]; exact HZ5.out.beside hn45.symm co cu cz
      dsimp only [CbAt.put] at hw
      rw [← hw]
      clear hw ff HZ4 b0 b1 b2
      refine MixPost.normal HN10.out ?_
      refine mix_run 7 (by kernel_rfl) ?_
      simp only [segOf, pickOps, pickOp]
      obtain ⟨b0, b1, b2, ff⟩ := HZ5b.out
      unfold OwnB at ff
      go_wp2_with fail
      obtain ⟨w11, hw⟩ : ∃ W, W = CbAt.put w10 g5 co cu cr := ⟨_, rfl⟩
      have HN11 : Hid (BlF w w3 w11 r z g3) := by rw [hw]; exact HN10.out.put hl5 co cu cr
      have HA4b : Hid (CbAt w11 g4 co cu cz) := by rw [hw]; exact HA4.out.beside hn45 co cu cr
      have HA5 : Hid (CbAt w11 g5 co cu cr) := by rw [hw]; exact HZ5b.out.put_at co cu cr
      dsimp only [CbAt.put] at hw
      rw [← hw]
      clear hw ff b0 b1 b2
      refine MixPost.normal HN11.out ?_
      refine mix_done (by kernel_rfl) ?_
      go_wp2_with fail
      go_meet
      exact ⟨g4, g5, rfl, rfl, ⟨HN11.out, HA4b.out, HA5.out⟩⟩
    obtain rfl := List.mem_singleton.1 hi
    simp only [segOf, pickOps, pickOp]
    go_wp2_with fail
    obtain ⟨g5, hg⟩ : ∃ g, g = w5.heap.size := ⟨_, rfl⟩
    obtain ⟨w6, hw⟩ : ∃ W, W = w5.alloc (Obj.cells #[.string ⟨#[]⟩, .string ⟨#[]⟩, .bool false] 45) := ⟨_, rfl⟩
    have hb : Below w5.heap.size w5 w6 := by rw [hw]; exact (Below.refl _ _).alloc (Nat.le_refl _) _
    have HN6 : Hid (BlF w w3 w6 r z g3) := HN5.out.next hb
    have HZ5 : Hid (CbAt w6 g5 ⟨#[]⟩ ⟨#[]⟩ false) := by rw [hw, hg]; exact CbAt.new _ _ _ _ _
    have hl5 : w3.heap.size ≤ g5 := by rw [hg]; exact HN5.out.b3.size
    rw [← hw, ← hg]
    clear hw hg hb
    refine MixPost.normal HN6.out ?_
    refine mix_several [1, 4] (by kernel_rfl) ?_
    intro i hi
    rcases List.mem_cons.1 hi with rfl | hi
    · skip
      simp only [segOf, pickOps, pickOp]
      go_wp2_with fail
      refine (aCell_any z _ HN6.out.kz HN6.out.env).mono ?_
      rintro e w7 ⟨rfl, hb⟩
      rw [HCZ.out]
      have HN7 : Hid (BlF w w3 w7 r z g3) := HN6.out.next hb
      replace HZ5 : Hid (CbAt w7 g5 ⟨#[]⟩ ⟨#[]⟩ false) := HZ5.out.up hb
      clear hb
      go_wp2_with fail
      refine MixPost.normal HN7.out ?_
      refine mix_several [3, 4] (by kernel_rfl) ?_
      intro i hi
      rcases List.mem_cons.1 hi with rfl | hi
      · skip
        simp only [segOf, pickOps, pickOp]
        go_wp2_with fail
        refine (aCell_any r _ HN7.out.kr HN7.out.env).mono ?_
        rintro e w8 ⟨rfl, hb⟩
        rw [HCR.out]
        have HN8 : Hid (BlF w w3 w8 r z g3) := HN7.out.next hb
        replace HZ5 : Hid (CbAt w8 g5 ⟨#[]⟩ ⟨#[]⟩ false) := HZ5.out.up hb
        clear hb
        go_wp2_with fail
        refine MixPost.normal HN8.out ?_
        refine mix_run 4 (by kernel_rfl) ?_
        simp only [segOf, pickOps, pickOp]
        go_wp2_with fail
        obtain ⟨g4, hg⟩ : ∃ g, g = w8.heap.size := ⟨_, rfl⟩
        obtain ⟨w9, hw⟩ : ∃ W, W = w8.alloc (Obj.cells #[.string ⟨#[]⟩, .string ⟨#[]⟩, .bool false] 45) := ⟨_, rfl⟩
        have hb : Below w8.heap.size w8 w9 := by rw [hw]; exact (Below.refl _ _).alloc (Nat.le_refl _) _
        have HN9 : Hid (BlF w w3 w9 r z g3) := HN8.out.next hb
        have HZ4 : Hid (CbAt w9 g4 ⟨#[]⟩ ⟨#[]⟩ false) := by rw [hw, hg]; exact CbAt.new _ _ _ _ _
        have hl4 : w3.heap.size ≤ g4 := by rw [hg]; exact HN8.out.b3.size
        have hn45 : g4 ≠ g5 := by have := HZ5.out.lt; omega
        replace HZ5 : Hid (CbAt w9 g5 ⟨#[]⟩ ⟨#[]⟩ false) := HZ5.out.up hb
        rw [← hw, ← hg]
        clear hw hg hb
        refine MixPost.normal HN9.out ?_
        refine mix_run 6 (by kernel_rfl) ?_
        simp only [segOf, pickOps, pickOp]
        obtain ⟨b0, b1, b2, ff⟩ := HZ4.out
        unfold OwnB at ff
        go_wp2_with fail
        obtain ⟨w10, hw⟩ : ∃ W, W = CbAt.put w9 g4 co cu cz := ⟨_, rfl⟩
        have HN10 : Hid (BlF w w3 w10 r z g3) := by rw [hw]; exact HN9.out.put hl4 co cu cz
        have HA4 : Hid (CbAt w10 g4 co cu cz) := by rw [hw]; exact HZ4.out.put_at co cu cz
        have HZ5b : Hid (CbAt w10 g5 ⟨#[]⟩ ⟨#[]⟩ false) := by rw [hw]; exact HZ5.out.beside hn45.symm co cu cz
        dsimp only [CbAt.put] at hw
        rw [← hw]
        clear hw ff HZ4 b0 b1 b2
        refine MixPost.normal HN10.out ?_
        refine mix_run 7 (by kernel_rfl) ?_
        simp only [segOf, pickOps, pickOp]
        obtain ⟨b0, b1, b2, ff⟩ := HZ5b.out
        unfold OwnB at ff
        go_wp2_with fail
        obtain ⟨w11, hw⟩ : ∃ W, W = CbAt.put w10 g5 co cu cr := ⟨_, rfl⟩
        have HN11 : Hid (BlF w w3 w11 r z g3) := by rw [hw]; exact HN10.out.put hl5 co cu cr
        have HA4b : Hid (CbAt w11 g4 co cu cz) := by rw [hw]; exact HA4.out.beside hn45 co cu cr
        have HA5 : Hid (CbAt w11 g5 co cu cr) := by rw [hw]; exact HZ5b.out.put_at co cu cr
        dsimp only [CbAt.put] at hw
        rw [← hw]
        clear hw ff b0 b1 b2
        refine MixPost.normal HN11.out ?_
        refine mix_done (by kernel_rfl) ?_
        go_wp2_with fail
        go_meet
        exact ⟨g4, g5, rfl, rfl, ⟨HN11.out, HA4b.out, HA5.out⟩⟩
      obtain rfl := List.mem_singleton.1 hi
      simp only [segOf, pickOps, pickOp]
      go_wp2_with fail
      obtain ⟨g4, hg⟩ : ∃ g, g = w7.heap.size := ⟨_, rfl⟩
      obtain ⟨w8, hw⟩ : ∃ W, W = w7.alloc (Obj.cells #[.string ⟨#[]⟩, .string ⟨#[]⟩, .bool false] 45) := ⟨_, rfl⟩
      have hb : Below w7.heap.size w7 w8 := by rw [hw]; exact (Below.refl _ _).alloc (Nat.le_refl _) _
      have HN8 : Hid (BlF w w3 w8 r z g3) := HN7.out.next hb
      have HZ4 : Hid (CbAt w8 g4 ⟨#[]⟩ ⟨#[]⟩ false) := by rw [hw, hg]; exact CbAt.new _ _ _ _ _
      have hl4 : w3.heap.size ≤ g4 := by rw [hg]; exact HN7.out.b3.size
      have hn45 : g4 ≠ g5 := by have := HZ5.out.lt; omega
      replace HZ5 : Hid (CbAt w8 g5 ⟨#[]⟩ ⟨#[]⟩ false) := HZ5.out.up hb
      rw [← hw, ← hg]
      clear hw hg hb
      refine MixPost.normal HN8.out ?_
      refine mix_run 3 (by kernel_rfl) ?_
      simp only [segOf, pickOps, pickOp]
      go_wp2_with fail
      refine (aCell_any r _ HN8.out.kr HN8.out.env).mono ?_
      rintro e w9 ⟨rfl, hb⟩
      rw [HCR.out]
      have HN9 : Hid (BlF w w3 w9 r z g3) := HN8.out.next hb
      replace HZ4 : Hid (CbAt w9 g4 ⟨#[]⟩ ⟨#[]⟩ false) := HZ4.out.up hb
      replace HZ5 : Hid (CbAt w9 g5 ⟨#[]⟩ ⟨#[]⟩ false) := HZ5.out.up hb
      clear hb
      go_wp2_with fail
      refine MixPost.normal HN9.out ?_
      refine mix_run 6 (by kernel_rfl) ?_
      simp only [segOf, pickOps, pickOp]
      obtain ⟨b0, b1, b2, ff⟩ := HZ4.out
      unfold OwnB at ff
      go_wp2_with fail
      obtain ⟨w10, hw⟩ : ∃ W, W = CbAt.put w9 g4 co cu cz := ⟨_, rfl⟩
      have HN10 : Hid (BlF w w3 w10 r z g3) := by rw [hw]; exact HN9.out.put hl4 co cu cz
      have HA4 : Hid (CbAt w10 g4 co cu cz) := by rw [hw]; exact HZ4.out.put_at co cu cz
      have HZ5b : Hid (CbAt w10 g5 ⟨#[]⟩ ⟨#[]⟩ false) := by rw [hw]; exact HZ5.out.beside hn45.symm co cu cz
      dsimp only [CbAt.put] at hw
      rw [← hw]
      clear hw ff HZ4 b0 b1 b2
      refine MixPost.normal HN10.out ?_
      refine mix_run 7 (by kernel_rfl) ?_
      simp only [segOf, pickOps, pickOp]
      obtain ⟨b0, b1, b2, ff⟩ := HZ5b.out
      unfold OwnB at ff
      go_wp2_with fail
      obtain ⟨w11, hw⟩ : ∃ W, W = CbAt.put w10 g5 co cu cr := ⟨_, rfl⟩
      have HN11 : Hid (BlF w w3 w11 r z g3) := by rw [hw]; exact HN10.out.put hl5 co cu cr
      have HA4b : Hid (CbAt w11 g4 co cu cz) := by rw [hw]; exact HA4.out.beside hn45 co cu cr
      have HA5 : Hid (CbAt w11 g5 co cu cr) := by rw [hw]; exact HZ5b.out.put_at co cu cr
      dsimp only [CbAt.put] at hw
      rw [← hw]
      clear hw ff b0 b1 b2
      refine MixPost.normal HN11.out ?_
      refine mix_done (by kernel_rfl) ?_
      go_wp2_with fail
      go_meet
      exact ⟨g4, g5, rfl, rfl, ⟨HN11.out, HA4b.out, HA5.out⟩⟩
    obtain rfl := List.mem_singleton.1 hi
    simp only [segOf, pickOps, pickOp]
    go_wp2_with fail
    obtain ⟨g4, hg⟩ : ∃ g, g = w6.heap.size := ⟨_, rfl⟩
    obtain ⟨w7, hw⟩ : ∃ W, W = w6.alloc (Obj.cells #[.string ⟨#[]⟩, .string ⟨#[]⟩, .bool false] 45) := ⟨_, rfl⟩
    have hb : Below w6.heap.size w6 w7 := by rw [hw]; exact (Below.refl _ _).alloc (Nat.le_refl _) _
    have HN7 : Hid (BlF w w3 w7 r z g3) := HN6.out.next hb
    have HZ4 : Hid (CbAt w7 g4 ⟨#[]⟩ ⟨#[]⟩ false) := by rw [hw, hg]; exact CbAt.new _ _ _ _ _
    have hl4 : w3.heap.size ≤ g4 := by rw [hg]; exact HN6.out.b3.size
    have hn45 : g4 ≠ g5 := by have := HZ5.out.lt; omega
    replace HZ5 : Hid (CbAt w7 g5 ⟨#[]⟩ ⟨#[]⟩ false) := HZ5.out.up hb
    rw [← hw, ← hg]
    clear hw hg hb
    refine MixPost.normal HN7.out ?_
    refine mix_run 1 (by kernel_rfl) ?_
    simp only [segOf, pickOps, pickOp]
    go_wp2_with fail
    refine (aCell_any z _ HN7.out.kz HN7.out.env).mono ?_
    rintro e w8 ⟨rfl, hb⟩
    rw [HCZ.out]
    have HN8 : Hid (BlF w w3 w8 r z g3) := HN7.out.next hb
    replace HZ4 : Hid (CbAt w8 g4 ⟨#[]⟩ ⟨#[]⟩ false) := HZ4.out.up hb
    replace HZ5 : Hid (CbAt w8 g5 ⟨#[]⟩ ⟨#[]⟩ false) := HZ5.out.up hb
    clear hb
    go_wp2_with fail
    refine MixPost.normal HN8.out ?_
    refine mix_run 3 (by kernel_rfl) ?_
    simp only [segOf, pickOps, pickOp]
    go_wp2_with fail
    refine (aCell_any r _ HN8.out.kr HN8.out.env).mono ?_
    rintro e w9 ⟨rfl, hb⟩
    rw [HCR.out]
    have HN9 : Hid (BlF w w3 w9 r z g3) := HN8.out.next hb
    replace HZ4 : Hid (CbAt w9 g4 ⟨#[]⟩ ⟨#[]⟩ false) := HZ4.out.up hb
    replace HZ5 : Hid (CbAt w9 g5 ⟨#[]⟩ ⟨#[]⟩ false) := HZ5.out.up hb
    clear hb
    go_wp2_with fail
    refine MixPost.normal HN9.out ?_
    refine mix_run 6 (by kernel_rfl) ?_
    simp only [segOf, pickOps, pickOp]
    obtain ⟨b0, b1, b2, ff⟩ := HZ4.out
    unfold OwnB at ff
    go_wp2_with fail
    obtain ⟨w10, hw⟩ : ∃ W, W = CbAt.put w9 g4 co cu cz := ⟨_, rfl⟩
    have HN10 : Hid (BlF w w3 w10 r z g3) := by rw [hw]; exact HN9.out.put hl4 co cu cz
    have HA4 : Hid (CbAt w10 g4 co cu cz) := by rw [hw]; exact HZ4.out.put_at co cu cz
    have HZ5b : Hid (CbAt w10 g5 ⟨#[]⟩ ⟨#[]⟩ false) := by rw [hw]; exact HZ5.out.beside hn45.symm co cu cz
    dsimp only [CbAt.put] at hw
    rw [← hw]
    clear hw ff HZ4 b0 b1 b2
    refine MixPost.normal HN10.out ?_
    refine mix_run 7 (by kernel_rfl) ?_
    simp only [segOf, pickOps, pickOp]
    obtain ⟨b0, b1, b2, ff⟩ := HZ5b.out
    unfold OwnB at ff
    go_wp2_with fail
    obtain ⟨w11, hw⟩ : ∃ W, W = CbAt.put w10 g5 co cu cr := ⟨_, rfl⟩
    have HN11 : Hid (BlF w w3 w11 r z g3) := by rw [hw]; exact HN10.out.put hl5 co cu cr
    have HA4b : Hid (CbAt w11 g4 co cu cz) := by rw [hw]; exact HA4.out.beside hn45 co cu cr
    have HA5 : Hid (CbAt w11 g5 co cu cr) := by rw [hw]; exact HZ5b.out.put_at co cu cr
    dsimp only [CbAt.put] at hw
    rw [← hw]
    clear hw ff b0 b1 b2
    refine MixPost.normal HN11.out ?_
    refine mix_done (by kernel_rfl) ?_
    go_wp2_with fail
    go_meet
    exact ⟨g4, g5, rfl, rfl, ⟨HN11.out, HA4b.out, HA5.out⟩⟩
  case rest =>
  obtain ⟨g4, g5, rfl, rfl, hk⟩ := hcut
  have HN0 : Hid (BcF w wc wc r z g3 g4 g5 co cu cz cr) := ⟨hk.k.re, hk.x, hk.y⟩
  clear hk HN3 HN4
  have HGT := Lib.hid (pre_get HOK.out)
  have HZH : Hid (z.xs.map hd = hdsF (wantQ r.q)) := congrArg Rq.hs HPQ.out
  have HCF : Hid (z.cr = false) := congrArg Rq.cr HPQ.out
  obtain ⟨nn, hnn⟩ : ∃ n, n = (namesQ r.q).length := ⟨_, rfl⟩
  have HNN := Lib.hid hnn
  obtain ⟨bn, hbn⟩ : ∃ b, decide (0 < nn) = b := ⟨_, rfl⟩
  have HBN : Hid (decide (0 < (namesQ r.q).length) = bn) := by show _ = _; rw [← hnn]; exact hbn
  clear hnn
  have HX := Lib.hid HN0.out.k.kz.row
  have HL := Lib.hid HN0.out.k.kz.len
  obtain ⟨s5, s4⟩ : wc.cell? ⟨g3, 5, none⟩ = some (.slice z.A z.n z.c) ∧ wc.cell? ⟨g3, 4, none⟩ = some (.bool z.cr) := ⟨HN0.out.k.az.c5, HN0.out.k.az.c4⟩
  go_wp2_with fail
  refine (Get_any z.A z.n z.c _ z.xs _ _ HL.out (Nat.le_refl _) HX.out HN0.out.k.kz.sm (by unfold maxLen; decide)).mono ?_
  rintro e w1 ⟨rfl, hb⟩
  rw [HZH.out, show (ByteArray.mk #[65, 99, 99, 101, 115, 115, 45, 67, 111, 110, 116, 114, 111, 108, 45, 82, 101, 113, 117, 101, 115, 116, 45, 77, 101, 116, 104, 111, 100]).data.toList = rmC from rfl, HGT.out.1, HGT.out.2.1, ← HWM.out]
  have HN1 : Hid (BcF w wc w1 r z g3 g4 g5 co cu cz cr) := HN0.out.next hb
  clear hb s5 s4
  obtain ⟨s5, s4⟩ : w1.cell? ⟨g3, 5, none⟩ = some (.slice z.A z.n z.c) ∧ w1.cell? ⟨g3, 4, none⟩ = some (.bool z.cr) := ⟨HN1.out.k.az.c5, HN1.out.k.az.c4⟩
  go_wp2_with fail
  refine (Get_any z.A z.n z.c _ z.xs _ _ HL.out (Nat.le_refl _) HN1.out.k.kz.row HN1.out.k.kz.sm (by unfold maxLen; decide)).mono ?_
  rintro e w2 ⟨rfl, hb⟩
  rw [HZH.out, show (ByteArray.mk #[97, 99, 99, 101, 115, 115, 45, 99, 111, 110, 116, 114, 111, 108, 45, 114, 101, 113, 117, 101, 115, 116, 45, 104, 101, 97, 100, 101, 114, 115]).data.toList = rhL from rfl, HGT.out.2.2.1, HGT.out.2.2.2, ← HWN.out, HBN.out]
  have HN2 : Hid (BcF w wc w2 r z g3 g4 g5 co cu cz cr) := HN1.out.next hb
  clear hb s5 s4 HN0 HN1
  go_upto_region 9 with fail
  refine mix_start (fun W => BcF w wc W r z g3 g4 g5 co cu cz cr) (by kernel_rfl) ?_
  have hne : Nonempty (Held (fun W => BcF w wc W r z g3 g4 g5 co cu cz cr)) := ⟨⟨_, HN2.out⟩⟩
  have zz0 : ∀ pp : Held (fun W => BcF w wc W r z g3 g4 g5 co cu cz cr), pp.w.cell? ⟨w.heap.size, 0, none⟩ = some (.string r.m) := fun pp => pp.h.k.ar.c0
  have zz1 : ∀ pp : Held (fun W => BcF w wc W r z g3 g4 g5 co cu cz cr), pp.w.cell? ⟨w.heap.size, 1, none⟩ = some (.string r.u) := fun pp => pp.h.k.ar.c1
  have zz2 : ∀ pp : Held (fun W => BcF w wc W r z g3 g4 g5 co cu cz cr), pp.w.cell? ⟨w.heap.size, 2, none⟩ = some (.string r.o) := fun pp => pp.h.k.ar.c2
  have zz3 : ∀ pp : Held (fun W => BcF w wc W r z g3 g4 g5 co cu cz cr), pp.w.cell? ⟨w.heap.size, 3, none⟩ = some (.int .i64 r.mode) := fun pp => pp.h.k.ar.c3
  have zz4 : ∀ pp : Held (fun W => BcF w wc W r z g3 g4 g5 co cu cz cr), pp.w.cell? ⟨w.heap.size, 4, none⟩ = some (.bool r.cr) := fun pp => pp.h.k.ar.c4
  have zz5 : ∀ pp : Held (fun W => BcF w wc W r z g3 g4 g5 co cu cz cr), pp.w.cell? ⟨w.heap.size, 5, none⟩ = some (.slice r.A r.n r.c) := fun pp => pp.h.k.ar.c5
  have zz6 : ∀ pp : Held (fun W => BcF w wc W r z g3 g4 g5 co cu cz cr), pp.w.cell? ⟨w.heap.size, 6, none⟩ = some (.int .i64 r.cl) := fun pp => pp.h.k.ar.c6
  have zz7 : ∀ pp : Held (fun W => BcF w wc W r z g3 g4 g5 co cu cz cr), pp.w.cell? ⟨w.heap.size, 7, none⟩ = some (.int .u64 r.tm) := fun pp => pp.h.k.ar.c7
  have zz8 : ∀ pp : Held (fun W => BcF w wc W r z g3 g4 g5 co cu cz cr), pp.w.cell? ⟨w.heap.size, 8, none⟩ = some (.int .i64 r.gr) := fun pp => pp.h.k.ar.c8
  have zz9 : ∀ pp : Held (fun W => BcF w wc W r z g3 g4 g5 co cu cz cr), pp.w.cell? ⟨w.heap.size, 9, none⟩ = some (.int .i64 r.sg) := fun pp => pp.h.k.ar.c9
  have zz10 : ∀ pp : Held (fun W => BcF w wc W r z g3 g4 g5 co cu cz cr), pp.w.cell? ⟨g3, 0, none⟩ = some (.string z.m) := fun pp => pp.h.k.az.c0
  have zz11 : ∀ pp : Held (fun W => BcF w wc W r z g3 g4 g5 co cu cz cr), pp.w.cell? ⟨g3, 1, none⟩ = some (.string z.u) := fun pp => pp.h.k.az.c1
  have zz12 : ∀ pp : Held (fun W => BcF w wc W r z g3 g4 g5 co cu cz cr), pp.w.cell? ⟨g3, 2, none⟩ = some (.string z.o) := fun pp => pp.h.k.az.c2
  have zz13 : ∀ pp : Held (fun W => BcF w wc W r z g3 g4 g5 co cu cz cr), pp.w.cell? ⟨g3, 3, none⟩ = some (.int .i64 z.mode) := fun pp => pp.h.k.az.c3
  have zz14 : ∀ pp : Held (fun W => BcF w wc W r z g3 g4 g5 co cu cz cr), pp.w.cell? ⟨g3, 4, none⟩ = some (.bool z.cr) := fun pp => pp.h.k.az.c4
  have zz15 : ∀ pp : Held (fun W => BcF w wc W r z g3 g4 g5 co cu cz cr), pp.w.cell? ⟨g3, 5, none⟩ = some (.slice z.A z.n z.c) := fun pp => pp.h.k.az.c5
  have zz16 : ∀ pp : Held (fun W => BcF w wc W r z g3 g4 g5 co cu cz cr), pp.w.cell? ⟨g3, 6, none⟩ = some (.int .i64 z.cl) := fun pp => pp.h.k.az.c6
  have zz17 : ∀ pp : Held (fun W => BcF w wc W r z g3 g4 g5 co cu cz cr), pp.w.cell? ⟨g3, 7, none⟩ = some (.int .u64 z.tm) := fun pp => pp.h.k.az.c7
  have zz18 : ∀ pp : Held (fun W => BcF w wc W r z g3 g4 g5 co cu cz cr), pp.w.cell? ⟨g3, 8, none⟩ = some (.int .i64 z.gr) := fun pp => pp.h.k.az.c8
  have zz19 : ∀ pp : Held (fun W => BcF w wc W r z g3 g4 g5 co cu cz cr), pp.w.cell? ⟨g3, 9, none⟩ = some (.int .i64 z.sg) := fun pp => pp.h.k.az.c9
  have zz20 : ∀ pp : Held (fun W => BcF w wc W r z g3 g4 g5 co cu cz cr), pp.w.cell? ⟨g4, 0, none⟩ = some (.string co) := fun pp => pp.h.x.c0
  have zz21 : ∀ pp : Held (fun W => BcF w wc W r z g3 g4 g5 co cu cz cr), pp.w.cell? ⟨g4, 1, none⟩ = some (.string cu) := fun pp => pp.h.x.c1
  have zz22 : ∀ pp : Held (fun W => BcF w wc W r z g3 g4 g5 co cu cz cr), pp.w.cell? ⟨g5, 0, none⟩ = some (.string co) := fun pp => pp.h.y.c0
  have zz23 : ∀ pp : Held (fun W => BcF w wc W r z g3 g4 g5 co cu cz cr), pp.w.cell? ⟨g5, 1, none⟩ = some (.string cu) := fun pp => pp.h.y.c1
  obtain ⟨w3, hwd⟩ : ∃ W, W = w2.drew := ⟨_, rfl⟩
  rw [← hwd]
  have hb : Below w2.heap.size w2 w3 := by rw [hwd]; exact (Below.refl _ _).drew
  have HN3 : Hid (BcF w wc w3 r z g3 g4 g5 co cu cz cr) := HN2.out.next hb
  clear hb hwd
  refine mix_seg [0] (by kernel_rfl) HN3.out ?_
  simp only [segOf, pickOps, pickOp]
  repeat (go_big_quiet_step (fail))
  refine wpQuiet_nil ?_
  refine mix_run 1 (by kernel_rfl) ?_
  simp only [segOf, pickOps, pickOp]
  go_wp2_with fail
  refine (aCheck_any z _ HN3.out.k.kz HN3.out.k.env).mono ?_
  rintro e w4 ⟨rfl, hb⟩
  rw [HCK.out]
  have HN4 : Hid (BcF w wc w4 r z g3 g4 g5 co cu cz cr) := HN3.out.next hb
  clear hb
  go_wp2_with fail
  refine MixPost.normal HN4.out ?_
  have hcf := HCF.out
  refine mix_seg [2, 3, 4, 5, 6, 7, 8, 9, 10, 11, 12, 13, 14, 15, 16, 17, 18, 19, 20, 21, 22, 23, 24, 25, 26, 27] (by kernel_rfl) HN4.out ?_
  simp only [segOf, pickOps, pickOp]
  repeat (go_big_quiet_step (fail))
  refine wpQuiet_nil ?_
  clear hcf
  refine mix_run 28 (by kernel_rfl) ?_
  simp only [segOf, pickOps, pickOp]
  go_wp2_with fail
  refine (aNorm_any r _ HN4.out.k.kr HN4.out.k.env).mono ?_
  rintro e w5 ⟨y, rfl, hyq, _, hb⟩
  have hym : y.m = wm := by rw [HWM.out, ← mk_eq y.m]; exact congrArg mk ((congrArg Rq.m hyq).trans (by rw [want_0 HOK.out]))
  simp only [Rv.v]
  rw [hym]
  have hfd := fun W => field_req0 wm y.u y.o y.mode y.cr y.A y.n y.c y.cl y.tm y.gr y.sg W
  clear hym hyq
  have HN5 : Hid (BcF w wc w5 r z g3 g4 g5 co cu cz cr) := HN4.out.next hb
  clear hb
  go_wp2_with fail
  refine MixPost.normal HN5.out ?_
  refine mix_seg [29, 30, 31, 32, 33, 34] (by kernel_rfl) HN5.out ?_
  simp only [segOf, pickOps, pickOp]
  repeat (go_big_quiet_step (fail))
  refine wpQuiet_nil ?_
  refine mix_run 35 (by kernel_rfl) ?_
  simp only [segOf, pickOps, pickOp]
  go_wp2_with fail
  refine (aNames_any r _ HN5.out.k.kr HN5.out.k.env).mono ?_
  rintro e w6 ⟨v, rfl, hs, hb⟩
  obtain ⟨A9, c9, rfl, _, _⟩ := trow_of hs
  rw [← HNN.out]
  clear hs
  have HN6 : Hid (BcF w wc w6 r z g3 g4 g5 co cu cz cr) := HN5.out.next hb
  clear hb
  go_wp2_with fail
  refine MixPost.normal HN6.out ?_
  refine mix_seg [36, 37, 38, 39, 40, 41, 42] (by kernel_rfl) HN6.out ?_
  simp only [segOf, pickOps, pickOp]
  repeat (go_big_quiet_step (fail))
  refine wpQuiet_nil ?_
  refine mix_run 43 (by kernel_rfl) ?_
  simp only [segOf, pickOps, pickOp]
  go_wp2_with fail
  refine (aWant_any r _ HN6.out.k.kr HN6.out.k.env).mono ?_
  rintro e w7 ⟨rfl, hb⟩
  rw [HWV.out]
  have HN7 : Hid (BcF w wc w7 r z g3 g4 g5 co cu cz cr) := HN6.out.next hb
  have hfw := fun W => field_want2 co cu cr wm wn W
  clear hb
  go_wp2_with fail
  refine MixPost.normal HN7.out ?_
  refine mix_seg [44, 45, 46, 47, 48, 50] (by kernel_rfl) HN7.out ?_
  simp only [segOf, pickOps, pickOp]
  repeat (go_big_quiet_step (fail))
  refine wpQuiet_nil ?_
  refine mix_run 49 (by kernel_rfl) ?_
  simp only [segOf, pickOps, pickOp]
  go_wp2_with fail
  refine (aKey_any z _ HN7.out.k.kz HN7.out.k.env).mono ?_
  rintro e w8 ⟨rfl, hb⟩
  rw [← HKZ.out]
  have HN8 : Hid (BcF w wc w8 r z g3 g4 g5 co cu cz cr) := HN7.out.next hb
  clear hb
  go_wp2_with fail
  refine MixPost.normal HN8.out ?_
  refine mix_run 51 (by kernel_rfl) ?_
  simp only [segOf, pickOps, pickOp]
  go_wp2_with fail
  refine (aKey_any r _ HN8.out.k.kr HN8.out.k.env).mono ?_
  rintro e w9 ⟨rfl, hb⟩
  rw [← HKR.out]
  have HN9 : Hid (BcF w wc w9 r z g3 g4 g5 co cu cz cr) := HN8.out.next hb
  clear hb
  go_wp2_with fail
  refine MixPost.normal HN9.out ?_
  refine mix_seg [52, 53, 54] (by kernel_rfl) HN9.out ?_
  simp only [segOf, pickOps, pickOp]
  repeat (go_big_quiet_step (fail))
  refine wpQuiet_nil ?_
  refine mix_run 55 (by kernel_rfl) ?_
  simp only [segOf, pickOps, pickOp]
  go_wp2_with fail
  refine (awake17_any _ HN9.out.k.env).mono ?_
  rintro e w10 ⟨rfl, hb⟩
  have HN10 : Hid (BcF w wc w10 r z g3 g4 g5 co cu cz cr) := HN9.out.next hb
  clear hb
  go_wp2_with fail
  refine MixPost.normal HN10.out ?_
  refine mix_seg [56, 57] (by kernel_rfl) HN10.out ?_
  simp only [segOf, pickOps, pickOp]
  repeat (go_big_quiet_step (fail))
  refine wpQuiet_nil ?_
  refine mix_done (by kernel_rfl) ?_
  go_wp2
  go_ret
  exact ⟨rfl, HN10.out.k.all⟩
end Go.Proofs.YtlkneapidmdpbaaGreatDoor
