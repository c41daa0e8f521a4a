/-
  Layer 8's own words on requests that came in, and the statements' own helpers, over this seat's program. Conditions: those of each statement.
-/
import Derived.Test.YtlkneapidmdpbaaGreatDoorLAsk
import Derived.ProofKit
import Derived.Lib.SmallJoins
import Derived.Deep.SlicePairs
namespace Go.Proofs.YtlkneapidmdpbaaGreatDoor
open Go.RowKit

def awR : Rv := ⟨⟨#[80, 85, 84]⟩, ⟨#[104, 116, 116, 112, 58, 47, 47, 98, 47]⟩, ⟨#[104, 116, 116, 112, 58, 47, 47, 97]⟩, 3, false, none, 0, 0, [], 1, 0, 0, 0⟩
def awX : Rv := ⟨⟨#[80, 85, 84]⟩, ⟨#[104, 116, 116, 112, 58, 47, 47, 98, 47]⟩, ⟨#[104, 116, 116, 112, 58, 47, 47, 97]⟩, 2, false, none, 0, 0, [], 1, 0, 0, 0⟩
theorem RqOk.none_ {r : Rv} (w : World) (h1 : r.n = 0) (h2 : r.xs = []) (hm : r.m.size ≤ maxLen) (hu : r.u.size ≤ maxLen) (ho : r.o.size ≤ maxLen) : RqOk w r :=
  ⟨by rw [h2]; exact PRow.nil _ _ _, by rw [h1, h2]; rfl, by rw [h2]; exact ⟨by simp, by simp⟩, hm, hu, ho⟩
theorem awR_ok (w : World) : RqOk w awR := RqOk.none_ w rfl rfl (by decide) (by decide) (by decide)
theorem awX_ok (w : World) : RqOk w awX := RqOk.none_ w rfl rfl (by decide) (by decide) (by decide)
theorem aw8_1 : askI awR.q = 0 := by kernel_rfl
theorem aw8_2 : needsQ awR.q = true := by kernel_rfl
theorem aw8_3 : crossQ awR.q = true := by kernel_rfl
theorem aw8_4 : mk (keyQ awR.q) = ⟨#[104, 116, 116, 112, 58, 47, 47, 98, 58, 56, 48]⟩ := by kernel_rfl
theorem aw8_5 : askI awX.q = 7 := by kernel_rfl

def greatR (r : Rv) : Bool := decide (60 < r.m.size) || decide (700 < r.u.size) || decide (700 < r.o.size) || greatB r.xs
theorem greatR_no {r : Rv} (h : greatR r = false) : r.m.size ≤ 60 ∧ r.u.size ≤ 700 ∧ r.o.size ≤ 700 ∧ greatB r.xs = false := by
  unfold greatR at h
  simp only [Bool.or_eq_false_iff, decide_eq_false_iff_not] at h
  obtain ⟨⟨⟨h1, h2⟩, h3⟩, h4⟩ := h
  exact ⟨by omega, by omega, by omega, h4⟩
set_option maxHeartbeats 2000000 in
theorem GreatReq_any (r : Rv) (w : World) (B : Nat) (hx : PRow w B r.A r.xs) (hB : B ≤ w.heap.size) (hn : r.n = r.xs.length) (hl : r.xs.length ≤ maxLen) (hs : ∀ x ∈ r.xs, x.1.size ≤ maxLen ∧ x.2.size ≤ maxLen) :
    Calls Tryz.prog 8 #[r.v] w fun e w' => e = .returned (.bool (greatR r)) ∧ Below w.heap.size w w' := by
  unfold Rv.v
  have HX := Lib.hid (hx.mono hB)
  have HN := Lib.hid hn
  have HL := Lib.hid hl
  have HS := Lib.hid hs
  obtain ⟨W, hW⟩ : ∃ W, W = w.alloc (Obj.cells #[.string r.m, .string r.u, .string r.o, .int .i64 r.mode, .bool r.cr, .slice r.A r.n r.c, .int .i64 r.cl, .int .u64 r.tm, .int .i64 r.gr, .int .i64 r.sg] 25) := ⟨_, rfl⟩
  have HB0 : Hid (Below w.heap.size w W) := by rw [hW]; exact (Below.refl _ _).alloc (Nat.le_refl _) _
  have HA := Lib.hid ((Below.refl w.heap.size w).alloc (Nat.le_refl _) (Obj.cells #[.string r.m, .string r.u, .string r.o, .int .i64 r.mode, .bool r.cr, .slice r.A r.n r.c, .int .i64 r.cl, .int .u64 r.tm, .int .i64 r.gr, .int .i64 r.sg] 25))
  clear hx hn hl hs hB
  by_cases h1 : 60 < r.m.size
  case pos =>
    have HV : Hid (greatR r = true) := by show _ = _; unfold greatR; simp [h1]
    go_enter Tryz.func8, Tryz.ntmps8
    go_wp2
    go_ret
    exact ⟨ret_bool HV.out.symm, HA.out⟩
  by_cases h2 : 700 < r.u.size
  case pos =>
    have HV : Hid (greatR r = true) := by show _ = _; unfold greatR; simp [h2]
    go_enter Tryz.func8, Tryz.ntmps8
    go_wp2
    go_ret
    exact ⟨ret_bool HV.out.symm, HA.out⟩
  by_cases h3 : 700 < r.o.size
  case pos =>
    have HV : Hid (greatR r = true) := by show _ = _; unfold greatR; simp [h3]
    go_enter Tryz.func8, Tryz.ntmps8
    go_wp2
    go_ret
    exact ⟨ret_bool HV.out.symm, HA.out⟩
  have HV : Hid (greatR r = greatB r.xs) := by show _ = _; unfold greatR; simp [h1, h2, h3]
  go_enter Tryz.func8, Tryz.ntmps8
  go_wp2_with fail
  rw [← hW]
  clear hW
  refine (Great_any r.A r.n r.c w.heap.size r.xs _ HN.out (HX.out.below HB0.out) HL.out HS.out).mono ?_
  rintro e w' ⟨rfl, rfl⟩
  go_wp2
  go_ret
  exact ⟨ret_bool (by rw [HV.out]; simp [show ¬ ((60 : Int) < (r.m.size : Int)) by omega, show ¬ ((700 : Int) < (r.u.size : Int)) by omega, show ¬ ((700 : Int) < (r.o.size : Int)) by omega, greatB]), HB0.out⟩

theorem Rv.alike {a c : Rv} (h : a.q = c.q) : a.m = c.m ∧ a.u = c.u ∧ a.o = c.o ∧ a.mode = c.mode ∧ a.cr = c.cr ∧ a.xs = c.xs ∧ a.cl = c.cl ∧ a.tm = c.tm ∧ a.gr = c.gr ∧ a.sg = c.sg := by
  unfold Rv.q at h
  injection h with h1 h2 h3 h4 h5 h6 h7 h8 h9 h10
  have ba : ∀ {x y : ByteArray}, x.data.toList = y.data.toList → x = y := fun {x y} e => by rw [← mk_eq x, e, mk_eq]
  exact ⟨ba h1, ba h2, ba h3, h4, h5, row_alike h6, h7, h8, h9, h10⟩

set_option maxHeartbeats 4000000 in
theorem Req_as (r : Rv) (A2 : Option Addr) (n2 c2 : Nat) (w : World) (hr : RqOk w r) (hn2 : n2 = r.xs.length) (h2 : PRow w w.heap.size A2 r.xs) :
    Calls Tryz.prog 14 #[.agg #[.string r.m, .string r.u, .string r.o, .int .i64 r.mode, .bool r.cr, .slice r.A r.n r.c, .int .i64 r.cl, .int .u64 r.tm, .int .i64 r.gr, .int .i64 r.sg], .agg #[.string r.m, .string r.u, .string r.o, .int .i64 r.mode, .bool r.cr, .slice A2 n2 c2, .int .i64 r.cl, .int .u64 r.tm, .int .i64 r.gr, .int .i64 r.sg]] w fun e w' => e = .returned (.bool true) ∧ Below w.heap.size w w' := by
  obtain ⟨W, hW⟩ : ∃ W, W = (w.alloc (Obj.cells #[.string r.m, .string r.u, .string r.o, .int .i64 r.mode, .bool r.cr, .slice r.A r.n r.c, .int .i64 r.cl, .int .u64 r.tm, .int .i64 r.gr, .int .i64 r.sg] 25)).alloc (Obj.cells #[.string r.m, .string r.u, .string r.o, .int .i64 r.mode, .bool r.cr, .slice A2 n2 c2, .int .i64 r.cl, .int .u64 r.tm, .int .i64 r.gr, .int .i64 r.sg] 25) := ⟨_, rfl⟩
  have e : (w.alloc (Obj.cells #[.string r.m, .string r.u, .string r.o, .int .i64 r.mode, .bool r.cr, .slice r.A r.n r.c, .int .i64 r.cl, .int .u64 r.tm, .int .i64 r.gr, .int .i64 r.sg] 25)).heap.size = w.heap.size + 1 := by simp
  have HB0 : Hid (Below w.heap.size w W) := by rw [hW]; exact ((Below.refl _ _).alloc (Nat.le_refl _) _).alloc (by rw [e]; omega) _
  have HR0 : Hid (RqAt W w.heap.size r) := by rw [hW]; exact (RqAt.new w r _).below ((Below.refl _ _).alloc (Nat.le_refl _) _) (RqAt.new w r _).lt
  have HX0 : Hid (RqAt W (w.heap.size + 1) { r with A := A2, n := n2, c := c2 }) := by rw [hW, ← e]; exact RqAt.new _ { r with A := A2, n := n2, c := c2 } _
  have HK := Lib.hid hr
  have HN := Lib.hid hn2
  have H2 := Lib.hid h2
  clear hr hn2 h2 e
  go_enter Tryz.func14, Tryz.ntmps14
  go_wp2_with fail
  rw [← hW]
  clear hW
  refine (Headers_same r.A A2 r.n n2 r.c c2 w.heap.size w.heap.size r.xs _ HK.out.len HN.out (by have := HK.out.sm.1; simp at this; unfold maxLen; omega) (HK.out.row.below HB0.out) (H2.out.below HB0.out)).mono ?_
  rintro e w1 ⟨rfl, nn, hw⟩
  have hb : Below W.heap.size W w1 := by rw [hw]; exact below_drewN (Below.refl _ _) _
  have HB1 : Hid (Below w.heap.size w w1) := HB0.out.trans (hb.mono HB0.out.size)
  have hr1 := HR0.out.below hb HR0.out.lt
  have hx1 := HX0.out.below hb HX0.out.lt
  clear hb hw
  obtain ⟨r0, r1, r2, r3, r4, r5, r6, r7, r8, r9⟩ := hr1
  obtain ⟨s0, s1, s2, s3, s4, s5, s6, s7, s8, s9⟩ := hx1
  dsimp only at s0 s1 s2 s3 s4 s5 s6 s7 s8 s9
  go_wp2
  go_ret
  exact ⟨rfl, HB1.out⟩
theorem Req_same (a c : Rv) (w : World) (ha : RqOk w a) (hc : RqOk w c) (h : a.q = c.q) :
    Calls Tryz.prog 14 #[a.v, c.v] w fun e w' => e = .returned (.bool true) ∧ Below w.heap.size w w' := by
  obtain ⟨e1, e2, e3, e4, e5, e6, e7, e8, e9, e10⟩ := Rv.alike h
  have ec : c.v = .agg #[.string a.m, .string a.u, .string a.o, .int .i64 a.mode, .bool a.cr, .slice c.A c.n c.c, .int .i64 a.cl, .int .u64 a.tm, .int .i64 a.gr, .int .i64 a.sg] := by unfold Rv.v; rw [← e1, ← e2, ← e3, ← e4, ← e5, ← e7, ← e8, ← e9, ← e10]
  rw [ec]
  exact Req_as a c.A c.n c.c w ha (by rw [e6]; exact hc.len) (by rw [e6]; exact hc.row)
end Go.Proofs.YtlkneapidmdpbaaGreatDoor

namespace Go.Proofs.YtlkneapidmdpbaaGreatDoor
open Go.ChangeShapes Go.WideShapes Go.ChangeAt Go.RowKit Go.Deep

/-- a request that came in -/
structure RArg (w : World) (r : Rv) : Prop where
  len : r.n = r.xs.length
  row : HArg w r.A r.c r.xs
  hm : r.m.size ≤ maxLen
  hu : r.u.size ≤ maxLen
  ho : r.o.size ≤ maxLen
theorem array10 {α : Type} {cs : Array α} (h : cs.size = 10) : ∃ c0 c1 c2 c3 c4 c5 c6 c7 c8 c9, cs = #[c0, c1, c2, c3, c4, c5, c6, c7, c8, c9] := by
  obtain ⟨l⟩ := cs
  match l, h with
  | [c0, c1, c2, c3, c4, c5, c6, c7, c8, c9], _ => exact ⟨c0, c1, c2, c3, c4, c5, c6, c7, c8, c9, rfl⟩
theorem rcellsReq : Tryz.prog.cellsOf 25 = 10 := by kernel_rfl
theorem rcellsStr : Tryz.prog.cellsOf 9 = 1 := by kernel_rfl
theorem rcellsInt : Tryz.prog.cellsOf 3 = 1 := by kernel_rfl
theorem rcellsU64 : Tryz.prog.cellsOf 23 = 1 := by kernel_rfl
theorem rcellsBool : Tryz.prog.cellsOf 4 = 1 := by kernel_rfl
theorem rcellsHs : Tryz.prog.cellsOf 22 = 1 := by kernel_rfl
theorem trod_field {H : Type} {enc : TypeId × Value → H} {P : Program} {w : World} {base : Nat} {spare : Nat → Bool} {held : Bool} {fuel : Nat} {t : TypeId} {cs : List Value} {x : DataW H × List MemPlace} {fs : Array Field}
    (ht : P.underlying t = some (.struct fs)) (h : DataW.trod enc P w base spare held fuel t cs = some x) :
    ∃ n, ∀ (i : Nat) (f : Field), fs[i]? = some f → ∃ y, DataW.trod enc P w base spare held n f.type ((cs.drop f.offset).take (P.cellsOf f.type)) = some y := by
  obtain ⟨xs, n, _, _, _, hlen, hf⟩ := DataW.trod_struct ht h
  refine ⟨n, fun i f hi => ?_⟩
  have hlt : i < xs.length := by
    have := (Array.getElem?_eq_some_iff.1 hi).1
    omega
  exact ⟨xs[i], by rw [hf i f hi, List.getElem?_eq_getElem hlt]⟩
theorem field_at {H : Type} {enc : TypeId × Value → H} {P : Program} {w : World} {base : Nat} {spare : Nat → Bool} {held : Bool} {n t o k : Nat} {cs : List Value} {c : Value} {y : DataW H × List MemPlace}
    (h : DataW.trod enc P w base spare held n t ((cs.drop o).take k) = some y) (hk : k = 1) (hc : cs[o]? = some c) : DataW.trod enc P w base spare held n t [c] = some y := by
  subst hk
  have : (cs.drop o).take 1 = [c] := by
    obtain ⟨h1, h2⟩ := List.getElem?_eq_some_iff.1 hc
    rw [List.drop_eq_getElem_cons h1, h2]; rfl
  rwa [this] at h
set_option maxRecDepth 100000 in
theorem open_req {H : Type} {enc : TypeId × Value → H} {W : World} {r : Reach} {b0 : Nat} {v : Value} {d : DataW H} {p : List MemPlace}
    (hv : Value.okWide Tryz.prog W r b0 25 v) (h : DataW.Trod enc Tryz.prog W 0 (fun _ => true) true 25 v d p) :
    ∃ z : Rv, v = z.v ∧ RArg W z := by
  obtain ⟨cs, rfl, hsz⟩ := okWide_struct Tryz.underlying25 hv
  obtain ⟨c0, c1, c2, c3, c4, c5, c6, c7, c8, c9, rfl⟩ := array10 (hsz.trans rcellsReq)
  obtain ⟨fuel, hf⟩ := h
  obtain ⟨n, hg⟩ := trod_field Tryz.underlying25 hf
  obtain ⟨y0, h0⟩ := hg 0 _ rfl
  obtain ⟨y1, h1⟩ := hg 1 _ rfl
  obtain ⟨y2, h2⟩ := hg 2 _ rfl
  obtain ⟨y3, h3⟩ := hg 3 _ rfl
  obtain ⟨y4, h4⟩ := hg 4 _ rfl
  obtain ⟨y5, h5⟩ := hg 5 _ rfl
  obtain ⟨y6, h6⟩ := hg 6 _ rfl
  obtain ⟨y7, h7⟩ := hg 7 _ rfl
  obtain ⟨y8, h8⟩ := hg 8 _ rfl
  obtain ⟨y9, h9⟩ := hg 9 _ rfl
  have h0 := field_at h0 rcellsStr (c := c0) rfl
  have h1 := field_at h1 rcellsStr (c := c1) rfl
  have h2 := field_at h2 rcellsStr (c := c2) rfl
  have h3 := field_at h3 rcellsInt (c := c3) rfl
  have h4 := field_at h4 rcellsBool (c := c4) rfl
  have h5 := field_at h5 rcellsHs (c := c5) rfl
  have h6 := field_at h6 rcellsInt (c := c6) rfl
  have h7 := field_at h7 rcellsU64 (c := c7) rfl
  have h8 := field_at h8 rcellsInt (c := c8) rfl
  have h9 := field_at h9 rcellsInt (c := c9) rfl
  obtain ⟨m, e0, _, b0⟩ := DataW.trod_string Tryz.underlying9 h0
  obtain ⟨u, e1, _, b1⟩ := DataW.trod_string Tryz.underlying9 h1
  obtain ⟨o, e2, _, b2⟩ := DataW.trod_string Tryz.underlying9 h2
  obtain ⟨mode, e3, _, _⟩ := DataW.trod_int Tryz.underlying3 h3
  obtain ⟨cr, e4, _⟩ := DataW.trod_bool Tryz.underlying4 h4
  obtain ⟨cl, e6, _, _⟩ := DataW.trod_int Tryz.underlying3 h6
  obtain ⟨tm, e7, _, _⟩ := DataW.trod_int Tryz.underlying23 h7
  obtain ⟨gr, e8, _, _⟩ := DataW.trod_int Tryz.underlying3 h8
  obtain ⟨sg, e9, _, _⟩ := DataW.trod_int Tryz.underlying3 h9
  obtain ⟨A, len, cap, rfl⟩ : ∃ A len cap, c5 = .slice A len cap := by
    rcases Go.Deep.open_slice_pairs Tryz.underlying22 (Tryz.underlying57) (by kernel_rfl) rfl rfl (by kernel_rfl) (by kernel_rfl) h5 with ⟨hcs, _⟩ | ⟨x, l, c, _, _, _, _, _, _, _, _, hcs, _⟩
    · exact ⟨_, _, _, by simpa using hcs⟩
    · exact ⟨_, _, _, by simpa using hcs⟩
  obtain ⟨xs, hx, ha⟩ := open_heads ⟨n, h5⟩
  simp only [List.cons.injEq, and_true] at e0 e1 e2 e3 e4 e6 e7 e8 e9
  subst e0 e1 e2 e3 e4 e6 e7 e8 e9
  exact ⟨⟨m, u, o, mode, cr, A, len, cap, xs, cl, tm, gr, sg⟩, rfl, ⟨hx, ha, b0, b1, b2⟩⟩
end Go.Proofs.YtlkneapidmdpbaaGreatDoor

namespace Go.Proofs.YtlkneapidmdpbaaGreatDoor
open Go.RowKit

theorem RArg.ok {w : World} {r : Rv} (h : RArg w r) (hg : greatR r = false) : RqOk w r := by
  obtain ⟨h1, h2, h3, h4⟩ := greatR_no hg
  exact ⟨h.row.1, h.len, (great_bd h4).sm (by omega) (by omega) (by omega), h.hm, h.hu, h.ho⟩
theorem needs_no {q : Rq} (h : ¬ askI q = 0) : needsQ q = false := by unfold needsQ crossQ; rw [if_neg h]; simp
theorem key_no {q : Rq} (h : ¬ askI q = 0) : keyQ q = [] := by unfold keyQ; rw [if_neg h]
theorem texts_len {q : Rq} {r : Rv} {w : World} (h : RqOk w r) (e : namesQ q = namesQ r.q) : ((namesQ q).map mk).length ≤ maxLen := by
  rw [e, List.length_map]; have := (namesQ_small h).2; unfold maxLen; omega
/-- what holds all through: two requests, that were normed, in their blocks -/
structure NmF (w W : World) (r z : Rv) (g3 : Nat) : Prop where
  bel : Below w.heap.size w W
  env0 : Env8 w
  kr : RqOk W r
  kz : RqOk W z
  ar : RqAt W w.heap.size r
  az : RqAt W g3 z
theorem NmF.next {w W W' : World} {r z : Rv} {g3 : Nat} (h : NmF w W r z g3) (hb : Below W.heap.size W W') : NmF w W' r z g3 :=
  ⟨h.bel.trans (hb.mono h.bel.size), h.env0, h.kr.below hb, h.kz.below hb, h.ar.below hb h.ar.lt, h.az.below hb h.az.lt⟩
theorem NmF.env {w W : World} {r z : Rv} {g3 : Nat} (h : NmF w W r z g3) : Env8 W := h.env0.below h.bel

end Go.Proofs.YtlkneapidmdpbaaGreatDoor
