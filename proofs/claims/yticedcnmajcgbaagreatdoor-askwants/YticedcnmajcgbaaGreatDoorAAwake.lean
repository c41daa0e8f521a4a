/-
  Contracts over this seat's program: layer 8's own awake, the statements' helpers GreatReq and Req (of two requests that are alike). Conditions: those of each statement.
-/
import Derived.Test.YticedcnmajcgbaaGreatDoorANorm
namespace Go.Proofs.YticedcnmajcgbaaGreatDoor
open Go.RowKit

def awR : Rv := ⟨⟨#[80, 85, 84]⟩, ⟨#[104, 116, 116, 112, 58, 47, 47, 98, 47]⟩, ⟨#[104, 116, 116, 112, 58, 47, 47, 97]⟩, 3, false, none, 0, 0, [], 1, 0, 0, 0⟩
def awX : Rv := ⟨⟨#[80, 85, 84]⟩, ⟨#[104, 116, 116, 112, 58, 47, 47, 98, 47]⟩, ⟨#[104, 116, 116, 112, 58, 47, 47, 97]⟩, 2, false, none, 0, 0, [], 1, 0, 0, 0⟩
theorem RqOk.none_ {r : Rv} (w : World) (h1 : r.n = 0) (h2 : r.xs = []) (hm : r.m.size ≤ maxLen) (hu : r.u.size ≤ maxLen) (ho : r.o.size ≤ maxLen) : RqOk w r :=
  ⟨by rw [h2]; exact PRow.nil _ _ _, by rw [h1, h2]; rfl, by rw [h2]; exact ⟨by simp, by simp⟩, hm, hu, ho⟩
theorem awR_ok (w : World) : RqOk w awR := RqOk.none_ w rfl rfl (by decide) (by decide) (by decide)
theorem awX_ok (w : World) : RqOk w awX := RqOk.none_ w rfl rfl (by decide) (by decide) (by decide)
theorem aw8_1 : askI awR.q = 0 := by kernel_rfl
theorem aw8_2 : needsQ awR.q = true := by kernel_rfl
theorem aw8_3 : crossQ awR.q = true := by kernel_rfl
theorem aw8_4 : mk (keyQ awR.q) = ⟨#[104, 116, 116, 112, 58, 47, 47, 98, 58, 56, 48]⟩ := by kernel_rfl
theorem aw8_5 : askI awX.q = 7 := by kernel_rfl

set_option maxHeartbeats 2000000 in
theorem awake8_any (w : World) (he : Env8 w) : Calls Tryz.prog 9 #[] w fun e w' => e = .returned (.bool true) ∧ Below w.heap.size w w' := by
  have HE := Lib.hid he
  obtain ⟨W, hW⟩ : ∃ W, W = (w.alloc (Obj.cells #[.string ⟨#[80, 85, 84]⟩, .string ⟨#[104, 116, 116, 112, 58, 47, 47, 98, 47]⟩, .string ⟨#[104, 116, 116, 112, 58, 47, 47, 97]⟩, .int .i64 3, .bool false, .slice none 0 0, .int .i64 1, .int .u64 0, .int .i64 0, .int .i64 0] 25)).alloc (Obj.cells #[.string ⟨#[80, 85, 84]⟩, .string ⟨#[104, 116, 116, 112, 58, 47, 47, 98, 47]⟩, .string ⟨#[104, 116, 116, 112, 58, 47, 47, 97]⟩, .int .i64 2, .bool false, .slice none 0 0, .int .i64 1, .int .u64 0, .int .i64 0, .int .i64 0] 25) := ⟨_, rfl⟩
  have e : (w.alloc (Obj.cells #[.string ⟨#[80, 85, 84]⟩, .string ⟨#[104, 116, 116, 112, 58, 47, 47, 98, 47]⟩, .string ⟨#[104, 116, 116, 112, 58, 47, 47, 97]⟩, .int .i64 3, .bool false, .slice none 0 0, .int .i64 1, .int .u64 0, .int .i64 0, .int .i64 0] 25)).heap.size = w.heap.size + 1 := by simp
  have HB0 : Hid (Below w.heap.size w W) := by rw [hW]; exact ((Below.refl _ _).alloc (Nat.le_refl _) _).alloc (by rw [e]; omega) _
  have HR0 : Hid (RqAt W w.heap.size awR) := by rw [hW]; exact (RqAt.new w awR _).below ((Below.refl _ _).alloc (Nat.le_refl _) _) (RqAt.new w awR _).lt
  have HX0 : Hid (RqAt W (w.heap.size + 1) awX) := by rw [hW, ← e]; exact RqAt.new _ awX _
  clear he e
  go_enter Tryz.func9, Tryz.ntmps9
  go_wp2_with fail
  rw [← hW]
  clear hW
  refine (aCheck_any awR _ (awR_ok _) (HE.out.below HB0.out)).mono ?_
  rintro e w1 ⟨rfl, hb⟩
  rw [aw8_1]
  have HB1 : Hid (Below w.heap.size w w1) := HB0.out.trans (hb.mono HB0.out.size)
  have HR1 : Hid (RqAt w1 w.heap.size awR) := HR0.out.below hb HR0.out.lt
  have HX1 : Hid (RqAt w1 (w.heap.size + 1) awX) := HX0.out.below hb HX0.out.lt
  clear hb
  obtain ⟨r0, r1, r2, r3, r4, r5, r6, r7, r8, r9⟩ := HR1.out
  dsimp only [awR, awX] at r0 r1 r2 r3 r4 r5 r6 r7 r8 r9
  go_wp2_with fail
  refine (aNeeds_any awR _ (awR_ok _) (HE.out.below HB1.out)).mono ?_
  rintro e w2 ⟨rfl, hb⟩
  rw [aw8_2]
  have HB2 : Hid (Below w.heap.size w w2) := HB1.out.trans (hb.mono HB1.out.size)
  have HR2 : Hid (RqAt w2 w.heap.size awR) := HR1.out.below hb HR1.out.lt
  have HX2 : Hid (RqAt w2 (w.heap.size + 1) awX) := HX1.out.below hb HX1.out.lt
  clear hb r0 r1 r2 r3 r4 r5 r6 r7 r8 r9
  obtain ⟨r0, r1, r2, r3, r4, r5, r6, r7, r8, r9⟩ := HR2.out
  dsimp only [awR, awX] at r0 r1 r2 r3 r4 r5 r6 r7 r8 r9
  go_wp2_with fail
  refine (aCross_any awR _ (awR_ok _) (HE.out.below HB2.out)).mono ?_
  rintro e w3 ⟨rfl, hb⟩
  rw [aw8_3]
  have HB3 : Hid (Below w.heap.size w w3) := HB2.out.trans (hb.mono HB2.out.size)
  have HR3 : Hid (RqAt w3 w.heap.size awR) := HR2.out.below hb HR2.out.lt
  have HX3 : Hid (RqAt w3 (w.heap.size + 1) awX) := HX2.out.below hb HX2.out.lt
  clear hb r0 r1 r2 r3 r4 r5 r6 r7 r8 r9
  obtain ⟨r0, r1, r2, r3, r4, r5, r6, r7, r8, r9⟩ := HR3.out
  dsimp only [awR, awX] at r0 r1 r2 r3 r4 r5 r6 r7 r8 r9
  go_wp2_with fail
  refine (aKey_any awR _ (awR_ok _) (HE.out.below HB3.out)).mono ?_
  rintro e w4 ⟨rfl, hb⟩
  rw [aw8_4]
  have HB4 : Hid (Below w.heap.size w w4) := HB3.out.trans (hb.mono HB3.out.size)
  have HR4 : Hid (RqAt w4 w.heap.size awR) := HR3.out.below hb HR3.out.lt
  have HX4 : Hid (RqAt w4 (w.heap.size + 1) awX) := HX3.out.below hb HX3.out.lt
  clear hb r0 r1 r2 r3 r4 r5 r6 r7 r8 r9
  obtain ⟨r0, r1, r2, r3, r4, r5, r6, r7, r8, r9⟩ := HX4.out
  dsimp only [awR, awX] at r0 r1 r2 r3 r4 r5 r6 r7 r8 r9
  go_wp2_with fail
  refine (aCheck_any awX _ (awX_ok _) (HE.out.below HB4.out)).mono ?_
  rintro e w5 ⟨rfl, hb⟩
  rw [aw8_5]
  have HB5 : Hid (Below w.heap.size w w5) := HB4.out.trans (hb.mono HB4.out.size)
  clear hb r0 r1 r2 r3 r4 r5 r6 r7 r8 r9
  go_wp2
  go_ret
  exact ⟨rfl, HB5.out⟩

def greatR (r : Rv) : Bool := decide (60 < r.m.size) || decide (700 < r.u.size) || decide (700 < r.o.size) || greatB r.xs
theorem greatR_no {r : Rv} (h : greatR r = false) : r.m.size ≤ 60 ∧ r.u.size ≤ 700 ∧ r.o.size ≤ 700 ∧ greatB r.xs = false := by
  unfold greatR at h
  simp only [Bool.or_eq_false_iff, decide_eq_false_iff_not] at h
  obtain ⟨⟨⟨h1, h2⟩, h3⟩, h4⟩ := h
  exact ⟨by omega, by omega, by omega, h4⟩
set_option maxHeartbeats 2000000 in
theorem GreatReq_any (r : Rv) (w : World) (B : Nat) (hx : PRow w B r.A r.xs) (hB : B ≤ w.heap.size) (hn : r.n = r.xs.length) (hl : r.xs.length ≤ maxLen) (hs : ∀ x ∈ r.xs, x.1.size ≤ maxLen ∧ x.2.size ≤ maxLen) :
    Calls Tryz.prog 8 #[r.v] w fun e w' => e = .returned (.bool (greatR r)) ∧ Below w.heap.size w w' := by
  unfold Rv.v
  have HX := Lib.hid (hx.mono hB)
  have HN := Lib.hid hn
  have HL := Lib.hid hl
  have HS := Lib.hid hs
  obtain ⟨W, hW⟩ : ∃ W, W = w.alloc (Obj.cells #[.string r.m, .string r.u, .string r.o, .int .i64 r.mode, .bool r.cr, .slice r.A r.n r.c, .int .i64 r.cl, .int .u64 r.tm, .int .i64 r.gr, .int .i64 r.sg] 25) := ⟨_, rfl⟩
  have HB0 : Hid (Below w.heap.size w W) := by rw [hW]; exact (Below.refl _ _).alloc (Nat.le_refl _) _
  have HA := Lib.hid ((Below.refl w.heap.size w).alloc (Nat.le_refl _) (Obj.cells #[.string r.m, .string r.u, .string r.o, .int .i64 r.mode, .bool r.cr, .slice r.A r.n r.c, .int .i64 r.cl, .int .u64 r.tm, .int .i64 r.gr, .int .i64 r.sg] 25))
  clear hx hn hl hs hB
  by_cases h1 : 60 < r.m.size
  case pos =>
    have HV : Hid (greatR r = true) := by show _ = _; unfold greatR; simp [h1]
    go_enter Tryz.func8, Tryz.ntmps8
    go_wp2
    go_ret
    exact ⟨ret_bool HV.out.symm, HA.out⟩
  by_cases h2 : 700 < r.u.size
  case pos =>
    have HV : Hid (greatR r = true) := by show _ = _; unfold greatR; simp [h2]
    go_enter Tryz.func8, Tryz.ntmps8
    go_wp2
    go_ret
    exact ⟨ret_bool HV.out.symm, HA.out⟩
  by_cases h3 : 700 < r.o.size
  case pos =>
    have HV : Hid (greatR r = true) := by show _ = _; unfold greatR; simp [h3]
    go_enter Tryz.func8, Tryz.ntmps8
    go_wp2
    go_ret
    exact ⟨ret_bool HV.out.symm, HA.out⟩
  have HV : Hid (greatR r = greatB r.xs) := by show _ = _; unfold greatR; simp [h1, h2, h3]
  go_enter Tryz.func8, Tryz.ntmps8
  go_wp2_with fail
  rw [← hW]
  clear hW
  refine (Great_any r.A r.n r.c w.heap.size r.xs _ HN.out (HX.out.below HB0.out) HL.out HS.out).mono ?_
  rintro e w' ⟨rfl, rfl⟩
  go_wp2
  go_ret
  exact ⟨ret_bool (by rw [HV.out]; simp [show ¬ ((60 : Int) < (r.m.size : Int)) by omega, show ¬ ((700 : Int) < (r.u.size : Int)) by omega, show ¬ ((700 : Int) < (r.o.size : Int)) by omega, greatB]), HB0.out⟩

theorem Rv.alike {a c : Rv} (h : a.q = c.q) : a.m = c.m ∧ a.u = c.u ∧ a.o = c.o ∧ a.mode = c.mode ∧ a.cr = c.cr ∧ a.xs = c.xs ∧ a.cl = c.cl ∧ a.tm = c.tm ∧ a.gr = c.gr ∧ a.sg = c.sg := by
  unfold Rv.q at h
  injection h with h1 h2 h3 h4 h5 h6 h7 h8 h9 h10
  have ba : ∀ {x y : ByteArray}, x.data.toList = y.data.toList → x = y := fun {x y} e => by rw [← mk_eq x, e, mk_eq]
  exact ⟨ba h1, ba h2, ba h3, h4, h5, row_alike h6, h7, h8, h9, h10⟩

set_option maxHeartbeats 4000000 in
theorem Req_as (r : Rv) (A2 : Option Addr) (n2 c2 : Nat) (w : World) (hr : RqOk w r) (hn2 : n2 = r.xs.length) (h2 : PRow w w.heap.size A2 r.xs) :
    Calls Tryz.prog 12 #[.agg #[.string r.m, .string r.u, .string r.o, .int .i64 r.mode, .bool r.cr, .slice r.A r.n r.c, .int .i64 r.cl, .int .u64 r.tm, .int .i64 r.gr, .int .i64 r.sg], .agg #[.string r.m, .string r.u, .string r.o, .int .i64 r.mode, .bool r.cr, .slice A2 n2 c2, .int .i64 r.cl, .int .u64 r.tm, .int .i64 r.gr, .int .i64 r.sg]] w fun e w' => e = .returned (.bool true) ∧ Below w.heap.size w w' := by
  obtain ⟨W, hW⟩ : ∃ W, W = (w.alloc (Obj.cells #[.string r.m, .string r.u, .string r.o, .int .i64 r.mode, .bool r.cr, .slice r.A r.n r.c, .int .i64 r.cl, .int .u64 r.tm, .int .i64 r.gr, .int .i64 r.sg] 25)).alloc (Obj.cells #[.string r.m, .string r.u, .string r.o, .int .i64 r.mode, .bool r.cr, .slice A2 n2 c2, .int .i64 r.cl, .int .u64 r.tm, .int .i64 r.gr, .int .i64 r.sg] 25) := ⟨_, rfl⟩
  have e : (w.alloc (Obj.cells #[.string r.m, .string r.u, .string r.o, .int .i64 r.mode, .bool r.cr, .slice r.A r.n r.c, .int .i64 r.cl, .int .u64 r.tm, .int .i64 r.gr, .int .i64 r.sg] 25)).heap.size = w.heap.size + 1 := by simp
  have HB0 : Hid (Below w.heap.size w W) := by rw [hW]; exact ((Below.refl _ _).alloc (Nat.le_refl _) _).alloc (by rw [e]; omega) _
  have HR0 : Hid (RqAt W w.heap.size r) := by rw [hW]; exact (RqAt.new w r _).below ((Below.refl _ _).alloc (Nat.le_refl _) _) (RqAt.new w r _).lt
  have HX0 : Hid (RqAt W (w.heap.size + 1) { r with A := A2, n := n2, c := c2 }) := by rw [hW, ← e]; exact RqAt.new _ { r with A := A2, n := n2, c := c2 } _
  have HK := Lib.hid hr
  have HN := Lib.hid hn2
  have H2 := Lib.hid h2
  clear hr hn2 h2 e
  go_enter Tryz.func12, Tryz.ntmps12
  go_wp2_with fail
  rw [← hW]
  clear hW
  refine (Headers_same r.A A2 r.n n2 r.c c2 w.heap.size w.heap.size r.xs _ HK.out.len HN.out (by have := HK.out.sm.1; simp at this; unfold maxLen; omega) (HK.out.row.below HB0.out) (H2.out.below HB0.out)).mono ?_
  rintro e w1 ⟨rfl, nn, hw⟩
  have hb : Below W.heap.size W w1 := by rw [hw]; exact below_drewN (Below.refl _ _) _
  have HB1 : Hid (Below w.heap.size w w1) := HB0.out.trans (hb.mono HB0.out.size)
  have hr1 := HR0.out.below hb HR0.out.lt
  have hx1 := HX0.out.below hb HX0.out.lt
  clear hb hw
  obtain ⟨r0, r1, r2, r3, r4, r5, r6, r7, r8, r9⟩ := hr1
  obtain ⟨s0, s1, s2, s3, s4, s5, s6, s7, s8, s9⟩ := hx1
  dsimp only at s0 s1 s2 s3 s4 s5 s6 s7 s8 s9
  go_wp2
  go_ret
  exact ⟨rfl, HB1.out⟩
theorem Req_same (a c : Rv) (w : World) (ha : RqOk w a) (hc : RqOk w c) (h : a.q = c.q) :
    Calls Tryz.prog 12 #[a.v, c.v] w fun e w' => e = .returned (.bool true) ∧ Below w.heap.size w w' := by
  obtain ⟨e1, e2, e3, e4, e5, e6, e7, e8, e9, e10⟩ := Rv.alike h
  have ec : c.v = .agg #[.string a.m, .string a.u, .string a.o, .int .i64 a.mode, .bool a.cr, .slice c.A c.n c.c, .int .i64 a.cl, .int .u64 a.tm, .int .i64 a.gr, .int .i64 a.sg] := by unfold Rv.v; rw [← e1, ← e2, ← e3, ← e4, ← e5, ← e7, ← e8, ← e9, ← e10]
  rw [ec]
  exact Req_as a c.A c.n c.c w ha (by rw [e6]; exact hc.len) (by rw [e6]; exact hc.row)
end Go.Proofs.YticedcnmajcgbaaGreatDoor
