/-
  The walk of the law FlightLets: whatever the input, it returns true, and nothing that was there has turned. Conditions: the arguments are such as any that come in; the library's variables and the tables of methods are as they are laid.
-/
import Derived.Test.YtlkneapidmdpbaaGreatDoorFAwake
import Derived.Test.YtlkneapidmdpbaaGreatDoorFMath3
import Derived.Test.YtlkneapidmdpbaaGreatDoorLAskW
import Derived.Test.YtlkneapidmdpbaaGreatDoorLTexts
import Derived.Deep.Cut
import Derived.Deep.CutBlock
namespace Go.Proofs.YtlkneapidmdpbaaGreatDoor
open Go.RowKit

/-- the four headers of an answer -/
def xs4 (z : Wq) : List (ByteArray × ByteArray) := [(⟨#[97, 99, 99, 101, 115, 115, 45, 99, 111, 110, 116, 114, 111, 108, 45, 97, 108, 108, 111, 119, 45, 111, 114, 105, 103, 105, 110]⟩, mk z.o), (⟨#[97, 99, 99, 101, 115, 115, 45, 99, 111, 110, 116, 114, 111, 108, 45, 97, 108, 108, 111, 119, 45, 99, 114, 101, 100, 101, 110, 116, 105, 97, 108, 115]⟩, ⟨#[116, 114, 117, 101]⟩), (⟨#[97, 99, 99, 101, 115, 115, 45, 99, 111, 110, 116, 114, 111, 108, 45, 97, 108, 108, 111, 119, 45, 109, 101, 116, 104, 111, 100, 115]⟩, mk z.m), (⟨#[97, 99, 99, 101, 115, 115, 45, 99, 111, 110, 116, 114, 111, 108, 45, 97, 108, 108, 111, 119, 45, 104, 101, 97, 100, 101, 114, 115]⟩, mk z.n)]
theorem xs4_hd (z : Wq) : (xs4 z).map hd = ansH z true true true true := by
  simp only [xs4, List.map_cons, List.map_nil, hd, mk_data]; rfl
theorem xs4_cut (z : Wq) {k : Nat} (hk : k < 4) : ((xs4 z).take k ++ (xs4 z).drop (k + 1)).map hd = ansH z (decide (k ≠ 0)) (decide (k ≠ 1)) (decide (k ≠ 2)) (decide (k ≠ 3)) := by
  match k, hk with
  | 0, _ => simp only [xs4, List.take, List.drop, List.nil_append, List.map_cons, List.map_nil, hd, mk_data]; rfl
  | 1, _ => simp only [xs4, List.take, List.drop, List.cons_append, List.nil_append, List.map_cons, List.map_nil, hd, mk_data]; rfl
  | 2, _ => simp only [xs4, List.take, List.drop, List.cons_append, List.nil_append, List.map_cons, List.map_nil, hd, mk_data]; rfl
  | 3, _ => simp only [xs4, List.take, List.drop, List.append_nil, List.map_cons, List.map_nil, hd, mk_data]; rfl
theorem xs4_sm {q : Rq} (h : askI q = 0) : Sm ((xs4 (wantQ q)).map hd) := by
  have h1 := (want_o_vis h).2.1
  have h2 := (want_tok h).2
  have h3 := coml_len (q := q)
  rw [← want_nq h] at h3
  rw [xs4_hd]
  refine ⟨by simp [ansH, optH], fun x hx => ?_⟩
  simp only [ansH, optH, if_true, List.cons_append, List.nil_append, List.mem_cons, List.not_mem_nil, or_false] at hx
  rcases hx with rfl | rfl | rfl | rfl
  · exact ⟨by show orgN.length ≤ _; decide, by show (wantQ q).o.length ≤ _; omega⟩
  · exact ⟨by show crdN.length ≤ _; decide, by show truL.length ≤ _; decide⟩
  · exact ⟨by show metN.length ≤ _; decide, by show (wantQ q).m.length ≤ _; omega⟩
  · exact ⟨by show hdrN.length ≤ _; decide, by show (wantQ q).n.length ≤ _; omega⟩
theorem xs4_sm2 {q : Rq} (h : askI q = 0) (k j : Nat) : Sm (((xs4 (wantQ q)).take k ++ (xs4 (wantQ q)).drop j).map hd) := by
  have h0 := xs4_sm h
  refine ⟨?_, fun x hx => ?_⟩
  · have e : (xs4 (wantQ q)).length = 4 := rfl
    simp only [List.length_map, List.length_append, List.length_take, List.length_drop, e]
    omega
  · obtain ⟨y, hy, rfl⟩ := List.mem_map.1 hx
    rcases List.mem_append.1 hy with hy | hy
    · exact h0.2 _ (List.mem_map_of_mem (List.mem_of_mem_take hy))
    · exact h0.2 _ (List.mem_map_of_mem (List.mem_of_mem_drop hy))
def outK (q : Rq) (k : Nat) : Int := if k = 0 ∨ (k = 1 ∧ q.cr = true) then 15 else if k = 2 ∧ Lk.safeL (wantQ q).m = false then 5 else if k = 3 ∧ 0 < (namesQ q).length then 6 else 0
theorem judge_out {q : Rq} (h : needsQ q = true) {k : Nat} (hk : k < 4) {st : Int} (hs : ¬ (st < 200 ∨ 299 < st)) : judgeI q st (((xs4 (wantQ q)).take k ++ (xs4 (wantQ q)).drop (k + 1)).map hd) = outK q k := by
  rw [xs4_cut _ hk, ans_judge h _ _ _ _ hs]
  unfold outK
  match k, hk with
  | 0, _ => simp
  | 1, _ => simp
  | 2, _ => simp
  | 3, _ => simp
theorem judge_in {q : Rq} (h : needsQ q = true) {st : Int} (hs : ¬ (st < 200 ∨ 299 < st)) : judgeI q st ((xs4 (wantQ q)).map hd) = 0 ∧ judgeA q st ((xs4 (wantQ q)).map hd) = ⟨[(wantQ q).m], namesQ q, 5⟩ := by
  have e : judgeI q st ((xs4 (wantQ q)).map hd) = 0 := by rw [xs4_hd, ans_judge h _ _ _ _ hs]; simp
  refine ⟨e, ?_⟩
  rw [judgeA_yes e, xs4_hd, (ans_read (needs_ok h) true true true true).2]
  simp
theorem judge_far {q : Rq} (h : needsQ q = true) {st : Int} (hs : st < 200 ∨ 299 < st) : judgeI q st ((xs4 (wantQ q)).map hd) = 14 := by rw [xs4_hd]; exact ans_late h hs
theorem four_row (w : World) (a1 b1 a2 b2 a3 b3 a4 b4 : ByteArray) (t : TypeId) (g : Nat) (hg : g = w.heap.size) : PRow (w.alloc (.cells #[.string a1, .string b1, .string a2, .string b2, .string a3, .string b3, .string a4, .string b4] t)) (g + 1) (some ⟨g, 0, none⟩) [(a1, b1), (a2, b2), (a3, b3), (a4, b4)] := by
  subst hg
  intro j x hj
  match j, hj with
  | 0, hj => simp at hj; subst hj; exact ⟨_, rfl, by simp, by simp [Addr.add], by simp [Addr.add]⟩
  | 1, hj => simp at hj; subst hj; exact ⟨_, rfl, by simp, by simp [Addr.add], by simp [Addr.add]⟩
  | 2, hj => simp at hj; subst hj; exact ⟨_, rfl, by simp, by simp [Addr.add], by simp [Addr.add]⟩
  | 3, hj => simp at hj; subst hj; exact ⟨_, rfl, by simp, by simp [Addr.add], by simp [Addr.add]⟩
theorem LtRow.take {w : World} {B : Nat} {A : Option Addr} {xs : List (ByteArray × ByteArray)} (h : PRow w B A xs) (k : Nat) : PRow w B A (xs.take k) := by
  intro j x hj
  rw [List.getElem?_take] at hj
  split at hj
  · exact h j x hj
  · cases hj
theorem AlAt.grown {W W' : World} {g : Nat} {a : Av} {row : Option Nat} (o : AlAt W g a) (h : W.grownBy W' row) (hn : ∀ j, row = some j → j ≠ g) : AlAt W' g a := by
  have e := h.block g o.lt (by intro e; exact hn g e.symm rfl)
  exact ⟨(World.cell?_of_block (w := W) e).trans o.c0, (World.cell?_of_block (w := W) e).trans o.c1, (World.cell?_of_block (w := W) e).trans o.c2, fun i => (World.frozen?_of_block (w := W) e).trans (o.own i)⟩
theorem field_lets2 (a b : ByteArray) (c : Bool) (d e : ByteArray) (w : World) : (Instr.field 52 (.agg #[.string a, .string b, .bool c, .string d, .string e]) 2).run Tryz.prog w = .ok (.string e) w := by kernel_rfl
/-- what holds all through: the request in its block, its normal form's method and origin in another -/
structure LtF (w W : World) (r : Rv) (g : Nat) (wm co : ByteArray) : Prop where
  bel : Below w.heap.size w W
  env0 : Env8 w
  ok0 : RqOk w r
  ar : RqAt W w.heap.size r
  om : W.cell? ⟨g, 0, none⟩ = some (.string wm)
  oo : W.cell? ⟨g, 2, none⟩ = some (.string co)
section
variable {w W W' : World} {r : Rv} {g : Nat} {wm co : ByteArray}
theorem LtF.next (h : LtF w W r g wm co) (hb : Below W.heap.size W W') : LtF w W' r g wm co :=
  ⟨h.bel.trans (hb.mono h.bel.size), h.env0, h.ok0, h.ar.below hb h.ar.lt, (hb.cell (block_of_cell h.om)).trans h.om, (hb.cell (block_of_cell h.oo)).trans h.oo⟩
theorem LtF.env (h : LtF w W r g wm co) : Env8 W := h.env0.below h.bel
theorem LtF.ok (h : LtF w W r g wm co) : RqOk W r := h.ok0.below h.bel
end
/-- and the four headers' row -/
structure LlF (w W : World) (r : Rv) (g : Nat) (wm co : ByteArray) (A : Option Addr) (xs : List (ByteArray × ByteArray)) : Prop where
  k : LtF w W r g wm co
  row : PRow W W.heap.size A xs
theorem LlF.next {w W W' : World} {r : Rv} {g : Nat} {wm co : ByteArray} {A : Option Addr} {xs : List (ByteArray × ByteArray)} (h : LlF w W r g wm co A xs) (hb : Below W.heap.size W W') : LlF w W' r g wm co A xs :=
  ⟨h.k.next hb, (h.row.below hb).mono hb.size⟩
/-- and what was let, in its box -/
structure LjF (w W : World) (r : Rv) (g : Nat) (wm co : ByteArray) (A : Option Addr) (xs : List (ByteArray × ByteArray)) (g6 : Nat) (a : Av) (z : Al) : Prop where
  l : LlF w W r g wm co A xs
  al : AlAt W g6 a
  av : AvIs W a z
theorem LjF.next {w W W' : World} {r : Rv} {g g6 : Nat} {wm co : ByteArray} {A : Option Addr} {xs : List (ByteArray × ByteArray)} {a : Av} {z : Al} (h : LjF w W r g wm co A xs g6 a z) (hb : Below W.heap.size W W') : LjF w W' r g wm co A xs g6 a z :=
  ⟨h.l.next hb, h.al.up hb, h.av.below hb⟩

set_option maxRecDepth 100000 in
set_option maxHeartbeats 16000000 in
theorem walk_FlightLets (r : Rv) (st out : Int) (w : World) (h0 : RArg w r) (_h1 : (Lit.int .i64 st).wf = true) (_h2 : (Lit.int .i64 out).wf = true) (he : Env8 w) :
    Calls Tryz.prog 5 #[r.v, .int .i64 st, .int .i64 out] w fun e w' => e = .returned (.bool true) ∧ Below w.heap.size w w' := by
  clear _h1 _h2
  unfold Rv.v
  obtain ⟨W, hW⟩ : ∃ W, W = w.alloc (Obj.cells #[.string r.m, .string r.u, .string r.o, .int .i64 r.mode, .bool r.cr, .slice r.A r.n r.c, .int .i64 r.cl, .int .u64 r.tm, .int .i64 r.gr, .int .i64 r.sg] 25) := ⟨_, rfl⟩
  have HB0 : Hid (Below w.heap.size w W) := by show Below _ _ _; rw [hW]; exact (Below.refl _ _).alloc (Nat.le_refl _) _
  have HR0 : Hid (RqAt W w.heap.size r) := by show RqAt _ _ _; rw [hW]; exact RqAt.new w r _
  have HE := Lib.hid he
  have H0 := Lib.hid h0
  obtain ⟨gr, hgr⟩ : ∃ b, b = greatR r := ⟨_, rfl⟩
  have HG := Lib.hid hgr
  clear he h0 hgr
  go_enter Tryz.func5, Tryz.ntmps5
  go_wp2_with fail
  rw [← hW]
  clear hW
  refine (GreatReq_any r _ w.heap.size (H0.out.row.1.below HB0.out) HB0.out.size H0.out.len (Nat.le_trans H0.out.row.2.2.1 H0.out.row.2.2.2.1) H0.out.row.2.1).mono ?_
  rintro e w1 ⟨rfl, hb⟩
  rw [← HG.out]
  have HB1 : Hid (Below w.heap.size w w1) := HB0.out.trans (hb.mono HB0.out.size)
  have HR1 : Hid (RqAt w1 w.heap.size r) := HR0.out.below hb HR0.out.lt
  clear hb
  cases gr
  case true =>
    go_wp2_with fail
    refine (awake17_any _ (HE.out.below HB1.out)).mono ?_
    rintro e w2 ⟨rfl, hb⟩
    go_wp2
    go_ret
    exact ⟨rfl, HB1.out.trans (hb.mono HB1.out.size)⟩
  case false =>
  have HK := Lib.hid (H0.out.ok HG.out.symm)
  obtain ⟨r0, r1, r2, r3, r4, r5, r6, r7, r8, r9⟩ := HR1.out
  go_wp2_with fail
  clear r0 r1 r2 r3 r4 r5 r6 r7 r8 r9
  refine (aNeeds_any r _ (HK.out.below HB1.out) (HE.out.below HB1.out)).mono ?_
  rintro e w2 ⟨rfl, hb⟩
  have HB2 : Hid (Below w.heap.size w w2) := HB1.out.trans (hb.mono HB1.out.size)
  have HR2 : Hid (RqAt w2 w.heap.size r) := HR1.out.below hb HR1.out.lt
  clear hb HB0 HB1 HR0 HR1
  obtain ⟨nd, hnd⟩ : ∃ b, b = needsQ r.q := ⟨_, rfl⟩
  rw [← hnd]
  have HND := Lib.hid hnd
  clear hnd
  cases nd
  case false =>
    go_wp2_with fail
    refine (awake17_any _ (HE.out.below HB2.out)).mono ?_
    rintro e w3 ⟨rfl, hb⟩
    go_wp2
    go_ret
    exact ⟨rfl, HB2.out.trans (hb.mono HB2.out.size)⟩
  case true =>
  have HNT : Hid (needsQ r.q = true) := HND.out.symm
  have HOK := Lib.hid (needs_ok HNT.out)
  obtain ⟨co, hco⟩ : ∃ b, b = mk (wantQ r.q).o := ⟨_, rfl⟩
  obtain ⟨cu, hcu⟩ : ∃ b, b = mk (wantQ r.q).u := ⟨_, rfl⟩
  obtain ⟨cr, hcr⟩ : ∃ b, b = (wantQ r.q).cr := ⟨_, rfl⟩
  obtain ⟨wm, hwm⟩ : ∃ b, b = mk (wantQ r.q).m := ⟨_, rfl⟩
  obtain ⟨wn, hwn⟩ : ∃ b, b = mk (wantQ r.q).n := ⟨_, rfl⟩
  have HWV : Hid ((wvOf (wantQ r.q)).v = .agg #[.string co, .string cu, .bool cr, .string wm, .string wn]) := by show _ = _; rw [hco, hcu, hcr, hwm, hwn]; rfl
  have HX4 : Hid ([(⟨#[97, 99, 99, 101, 115, 115, 45, 99, 111, 110, 116, 114, 111, 108, 45, 97, 108, 108, 111, 119, 45, 111, 114, 105, 103, 105, 110]⟩, co), (⟨#[97, 99, 99, 101, 115, 115, 45, 99, 111, 110, 116, 114, 111, 108, 45, 97, 108, 108, 111, 119, 45, 99, 114, 101, 100, 101, 110, 116, 105, 97, 108, 115]⟩, ⟨#[116, 114, 117, 101]⟩), (⟨#[97, 99, 99, 101, 115, 115, 45, 99, 111, 110, 116, 114, 111, 108, 45, 97, 108, 108, 111, 119, 45, 109, 101, 116, 104, 111, 100, 115]⟩, wm), (⟨#[97, 99, 99, 101, 115, 115, 45, 99, 111, 110, 116, 114, 111, 108, 45, 97, 108, 108, 111, 119, 45, 104, 101, 97, 100, 101, 114, 115]⟩, wn)] = xs4 (wantQ r.q)) := by show _ = _; rw [hco, hwm, hwn]; rfl
  have HCO := Lib.hid hco
  have HWM := Lib.hid hwm
  clear hco hcu hcr hwm hwn
  obtain ⟨r0, r1, r2, r3, r4, r5, r6, r7, r8, r9⟩ := HR2.out
  go_wp2_with fail
  clear r0 r1 r2 r3 r4 r5 r6 r7 r8 r9
  refine (aNorm_any r _ (HK.out.below HB2.out) (HE.out.below HB2.out)).mono ?_
  rintro e w3 ⟨y, rfl, hyq, _, hb⟩
  have hym : y.m = wm := by rw [HWM.out, ← mk_eq y.m]; exact congrArg mk ((congrArg Rq.m hyq).trans (by rw [want_0 HOK.out]))
  have hyo : y.o = co := by rw [HCO.out, ← mk_eq y.o]; exact congrArg mk ((congrArg Rq.o hyq).trans (by rw [want_0 HOK.out]))
  obtain ⟨w4, hw4⟩ : ∃ W, W = w3.alloc (Obj.cells #[.string y.m, .string y.u, .string y.o, .int .i64 y.mode, .bool y.cr, .slice y.A y.n y.c, .int .i64 y.cl, .int .u64 y.tm, .int .i64 y.gr, .int .i64 y.sg] 25) := ⟨_, rfl⟩
  obtain ⟨g3, hg3⟩ : ∃ g, g = w3.heap.size := ⟨_, rfl⟩
  have hb3 : Below w3.heap.size w3 w4 := by rw [hw4]; exact (Below.refl _ _).alloc (Nat.le_refl _) _
  have hy4 : RqAt w4 g3 y := by rw [hw4, hg3]; exact RqAt.new w3 y _
  have HB3 : Hid (Below w.heap.size w w3) := HB2.out.trans (hb.mono HB2.out.size)
  have HR3 : Hid (RqAt w3 w.heap.size r) := HR2.out.below hb HR2.out.lt
  have HN4 : Hid (LtF w w4 r g3 wm co) := ⟨HB3.out.trans (hb3.mono HB3.out.size), HE.out, HK.out, HR3.out.below hb3 HR3.out.lt, by rw [← hym]; exact hy4.c0, by rw [← hyo]; exact hy4.c2⟩
  clear hb hb3 hyq hym hyo hy4
  simp only [Rv.v]
  go_upto_region 4 with fail
  rw [← hw4, ← hg3]
  clear hw4 hg3 HB2 HB3 HR2 HR3
  obtain ⟨sl, hsl⟩ : ∃ x, x = lowV st 100 := ⟨_, rfl⟩
  have hsb := lowV_bd st (n := 100) (by decide)
  rw [← hsl] at hsb
  go_wp2_with fail
  refine (Low_any st 100 _ (by decide) (by decide)).mono ?_
  rintro e w' ⟨rfl, rfl⟩
  rw [← hsl]
  clear hsl
  have HSB := Lib.hid hsb
  have hw64 : wrap64 (200 + sl) = 200 + sl := by unfold wrap64; omega
  go_upto_region 5 with fail
  obtain ⟨s, hs⟩ : ∃ s, s = 200 + sl := ⟨_, rfl⟩
  rw [← hs]
  have HS : Hid (¬ (s < 200 ∨ 299 < s)) := by show ¬ _; have := HSB.out; omega
  have HS2 : Hid (s + 100 < 200 ∨ 299 < s + 100) := by show _ ∨ _; have := HSB.out; omega
  have hsw : wrap64 (s + 100) = s + 100 := by have := HSB.out; unfold wrap64; omega
  clear hs hsb hw64
  refine mix_start (fun W => LtF w W r g3 wm co) (by kernel_rfl) ?_
  have hne : Nonempty (Held (fun W => LtF w W r g3 wm co)) := ⟨⟨_, HN4.out⟩⟩
  have zz0 : ∀ pp : Held (fun W => LtF w W r g3 wm co), pp.w.cell? ⟨w.heap.size, 0, none⟩ = some (.string r.m) := fun pp => pp.h.ar.c0
  have zz1 : ∀ pp : Held (fun W => LtF w W r g3 wm co), pp.w.cell? ⟨w.heap.size, 1, none⟩ = some (.string r.u) := fun pp => pp.h.ar.c1
  have zz2 : ∀ pp : Held (fun W => LtF w W r g3 wm co), pp.w.cell? ⟨w.heap.size, 2, none⟩ = some (.string r.o) := fun pp => pp.h.ar.c2
  have zz3 : ∀ pp : Held (fun W => LtF w W r g3 wm co), pp.w.cell? ⟨w.heap.size, 3, none⟩ = some (.int .i64 r.mode) := fun pp => pp.h.ar.c3
  have zz4 : ∀ pp : Held (fun W => LtF w W r g3 wm co), pp.w.cell? ⟨w.heap.size, 4, none⟩ = some (.bool r.cr) := fun pp => pp.h.ar.c4
  have zz5 : ∀ pp : Held (fun W => LtF w W r g3 wm co), pp.w.cell? ⟨w.heap.size, 5, none⟩ = some (.slice r.A r.n r.c) := fun pp => pp.h.ar.c5
  have zz6 : ∀ pp : Held (fun W => LtF w W r g3 wm co), pp.w.cell? ⟨w.heap.size, 6, none⟩ = some (.int .i64 r.cl) := fun pp => pp.h.ar.c6
  have zz7 : ∀ pp : Held (fun W => LtF w W r g3 wm co), pp.w.cell? ⟨w.heap.size, 7, none⟩ = some (.int .u64 r.tm) := fun pp => pp.h.ar.c7
  have zz8 : ∀ pp : Held (fun W => LtF w W r g3 wm co), pp.w.cell? ⟨w.heap.size, 8, none⟩ = some (.int .i64 r.gr) := fun pp => pp.h.ar.c8
  have zz9 : ∀ pp : Held (fun W => LtF w W r g3 wm co), pp.w.cell? ⟨w.heap.size, 9, none⟩ = some (.int .i64 r.sg) := fun pp => pp.h.ar.c9
  have zz10 : ∀ pp : Held (fun W => LtF w W r g3 wm co), pp.w.cell? ⟨g3, 0, none⟩ = some (.string wm) := fun pp => pp.h.om
  have zz11 : ∀ pp : Held (fun W => LtF w W r g3 wm co), pp.w.cell? ⟨g3, 2, none⟩ = some (.string co) := fun pp => pp.h.oo
  obtain ⟨w5, hwd⟩ : ∃ W, W = w4.drew := ⟨_, rfl⟩
  rw [← hwd]
  have hb : Below w4.heap.size w4 w5 := by rw [hwd]; exact (Below.refl _ _).drew
  have HN5 : Hid (LtF w w5 r g3 wm co) := HN4.out.next hb
  clear hb hwd
  refine mix_seg [0, 1, 2, 3, 4, 5, 6, 7] (by kernel_rfl) HN5.out ?_
  simp only [segOf, pickOps, pickOp]
  repeat (go_big_quiet_step (fail))
  refine wpQuiet_nil ?_
  refine mix_run 8 (by kernel_rfl) ?_
  simp only [segOf, pickOps, pickOp]
  go_wp2_with fail
  refine (aWant_any r _ HN5.out.ok HN5.out.env).mono ?_
  rintro e w6 ⟨rfl, hb⟩
  rw [HWV.out]
  have HN6 : Hid (LtF w w6 r g3 wm co) := HN5.out.next hb
  have hfw := fun W => field_lets2 co cu cr wm wn W
  clear hb
  go_wp2_with fail
  refine MixPost.normal HN6.out ?_
  refine mix_seg [9, 10] (by kernel_rfl) HN6.out ?_
  simp only [segOf, pickOps, pickOp]
  repeat (go_big_quiet_step (fail))
  refine wpQuiet_nil ?_
  refine mix_run 11 (by kernel_rfl) ?_
  simp only [segOf, pickOps, pickOp]
  obtain ⟨w7, hw⟩ : ∃ W, W = w6.alloc (Obj.cells #[.string ⟨#[97, 99, 99, 101, 115, 115, 45, 99, 111, 110, 116, 114, 111, 108, 45, 97, 108, 108, 111, 119, 45, 111, 114, 105, 103, 105, 110]⟩, .string co, .string ⟨#[97, 99, 99, 101, 115, 115, 45, 99, 111, 110, 116, 114, 111, 108, 45, 97, 108, 108, 111, 119, 45, 99, 114, 101, 100, 101, 110, 116, 105, 97, 108, 115]⟩, .string ⟨#[116, 114, 117, 101]⟩, .string ⟨#[97, 99, 99, 101, 115, 115, 45, 99, 111, 110, 116, 114, 111, 108, 45, 97, 108, 108, 111, 119, 45, 109, 101, 116, 104, 111, 100, 115]⟩, .string wm, .string ⟨#[97, 99, 99, 101, 115, 115, 45, 99, 111, 110, 116, 114, 111, 108, 45, 97, 108, 108, 111, 119, 45, 104, 101, 97, 100, 101, 114, 115]⟩, .string wn] 57) := ⟨_, rfl⟩
  obtain ⟨g8, hg8⟩ : ∃ g, g = w6.heap.size := ⟨_, rfl⟩
  obtain ⟨A8, hA8⟩ : ∃ A : Option Addr, A = some ⟨g8, 0, none⟩ := ⟨_, rfl⟩
  have hb : Below w6.heap.size w6 w7 := by rw [hw]; exact (Below.refl _ _).alloc (Nat.le_refl _) _
  have hrow : PRow w7 (g8 + 1) (some ⟨g8, 0, none⟩) [(⟨#[97, 99, 99, 101, 115, 115, 45, 99, 111, 110, 116, 114, 111, 108, 45, 97, 108, 108, 111, 119, 45, 111, 114, 105, 103, 105, 110]⟩, co), (⟨#[97, 99, 99, 101, 115, 115, 45, 99, 111, 110, 116, 114, 111, 108, 45, 97, 108, 108, 111, 119, 45, 99, 114, 101, 100, 101, 110, 116, 105, 97, 108, 115]⟩, ⟨#[116, 114, 117, 101]⟩), (⟨#[97, 99, 99, 101, 115, 115, 45, 99, 111, 110, 116, 114, 111, 108, 45, 97, 108, 108, 111, 119, 45, 109, 101, 116, 104, 111, 100, 115]⟩, wm), (⟨#[97, 99, 99, 101, 115, 115, 45, 99, 111, 110, 116, 114, 111, 108, 45, 97, 108, 108, 111, 119, 45, 104, 101, 97, 100, 101, 114, 115]⟩, wn)] := by rw [hw, hg8]; exact four_row _ _ _ _ _ _ _ _ _ _ _ rfl
  have hsz : g8 + 1 ≤ w7.heap.size := by rw [hw, hg8]; simp
  have HN7 : Hid (LtF w w7 r g3 wm co) := HN6.out.next hb
  have HP7 : Hid (PRow w7 w7.heap.size A8 (xs4 (wantQ r.q))) := by show PRow _ _ _ _; rw [hA8, ← HX4.out]; exact hrow.mono hsz
  have HAN : Hid (A8 = none → 4 = 0) := by show _ → _; rw [hA8]; intro h; cases h
  go_wp2_with fail
  rw [← hw, ← hg8, ← hA8]
  clear hw hg8 hA8 hb hrow hsz hfw
  refine MixPost.normal HN7.out ?_
  refine mix_seg [12] (by kernel_rfl) HN7.out ?_
  simp only [segOf, pickOps, pickOp]
  repeat (go_big_quiet_step (fail))
  refine wpQuiet_nil ?_
  refine mix_done (by kernel_rfl) ?_
  have HL8 : Hid (LlF w w7 r g3 wm co A8 (xs4 (wantQ r.q))) := ⟨HN7.out, HP7.out⟩
  have HSM := Lib.hid (xs4_sm HOK.out)
  have HJ0 := Lib.hid (judge_in HNT.out HS.out)
  have HJ1 := Lib.hid (judge_far HNT.out HS2.out)
  clear HN4 HN5 HP7 HX4
  obtain ⟨r0, r1, r2, r3, r4, r5, r6, r7, r8, r9⟩ := HL8.out.k.ar
  go_wp2_with fail
  clear r0 r1 r2 r3 r4 r5 r6 r7 r8 r9
  refine (fJudge_any r s A8 4 4 _ (xs4 (wantQ r.q)) _ HL8.out.k.ok HL8.out.k.env rfl (Nat.le_refl _) HL8.out.row HSM.out).mono ?_
  rintro e w20 ⟨a, rfl, ha, hb⟩
  rw [HJ0.out.1]
  rw [HJ0.out.2] at ha
  have HL20 : Hid (LlF w w20 r g3 wm co A8 (xs4 (wantQ r.q))) := HL8.out.next hb
  clear hb
  obtain ⟨A1, n1, c1, A2, n2, c2, ag⟩ := a
  obtain rfl : n1 = 1 := ha.e1
  obtain rfl : ag = 5 := ha.g
  obtain ⟨nn, hnn⟩ : ∃ n, n = (namesQ r.q).length := ⟨_, rfl⟩
  obtain rfl : n2 = nn := by rw [hnn]; exact ha.e2
  have HNN := Lib.hid hnn
  have HTX : Hid (((namesQ r.q).map mk).length ≤ maxLen) := by show _ ≤ _; rw [List.length_map]; have := (namesQ_small HK.out).2; unfold maxLen; omega
  obtain ⟨w21, hw21⟩ : ∃ W, W = w20.alloc (Obj.cells #[.slice A1 1 c1, .slice A2 n2 c2, .int .u64 5] 28) := ⟨_, rfl⟩
  obtain ⟨g6, hg6⟩ : ∃ g, g = w20.heap.size := ⟨_, rfl⟩
  have hb : Below w20.heap.size w20 w21 := by rw [hw21]; exact (Below.refl _ _).alloc (Nat.le_refl _) _
  have HN21 : Hid (LjF w w21 r g3 wm co A8 (xs4 (wantQ r.q)) g6 ⟨A1, 1, c1, A2, n2, c2, 5⟩ ⟨[(wantQ r.q).m], namesQ r.q, 5⟩) := ⟨HL20.out.next hb, by rw [hw21, hg6]; exact AlAt.new w20 ⟨A1, 1, c1, A2, n2, c2, 5⟩ _, ha.below hb⟩
  clear hb ha hnn HL8 HL20
  simp only [Av.v]
  go_upto_region 7 with fail
  rw [← hw21, ← hg6]
  clear hw21 hg6
  refine mix_start (fun W => LjF w W r g3 wm co A8 (xs4 (wantQ r.q)) g6 ⟨A1, 1, c1, A2, n2, c2, 5⟩ ⟨[(wantQ r.q).m], namesQ r.q, 5⟩) (by kernel_rfl) ?_
  have hne : Nonempty (Held (fun W => LjF w W r g3 wm co A8 (xs4 (wantQ r.q)) g6 ⟨A1, 1, c1, A2, n2, c2, 5⟩ ⟨[(wantQ r.q).m], namesQ r.q, 5⟩)) := ⟨⟨_, HN21.out⟩⟩
  have zz0 : ∀ pp : Held (fun W => LjF w W r g3 wm co A8 (xs4 (wantQ r.q)) g6 ⟨A1, 1, c1, A2, n2, c2, 5⟩ ⟨[(wantQ r.q).m], namesQ r.q, 5⟩), pp.w.cell? ⟨w.heap.size, 0, none⟩ = some (.string r.m) := fun pp => pp.h.l.k.ar.c0
  have zz1 : ∀ pp : Held (fun W => LjF w W r g3 wm co A8 (xs4 (wantQ r.q)) g6 ⟨A1, 1, c1, A2, n2, c2, 5⟩ ⟨[(wantQ r.q).m], namesQ r.q, 5⟩), pp.w.cell? ⟨w.heap.size, 1, none⟩ = some (.string r.u) := fun pp => pp.h.l.k.ar.c1
  have zz2 : ∀ pp : Held (fun W => LjF w W r g3 wm co A8 (xs4 (wantQ r.q)) g6 ⟨A1, 1, c1, A2, n2, c2, 5⟩ ⟨[(wantQ r.q).m], namesQ r.q, 5⟩), pp.w.cell? ⟨w.heap.size, 2, none⟩ = some (.string r.o) := fun pp => pp.h.l.k.ar.c2
  have zz3 : ∀ pp : Held (fun W => LjF w W r g3 wm co A8 (xs4 (wantQ r.q)) g6 ⟨A1, 1, c1, A2, n2, c2, 5⟩ ⟨[(wantQ r.q).m], namesQ r.q, 5⟩), pp.w.cell? ⟨w.heap.size, 3, none⟩ = some (.int .i64 r.mode) := fun pp => pp.h.l.k.ar.c3
  have zz4 : ∀ pp : Held (fun W => LjF w W r g3 wm co A8 (xs4 (wantQ r.q)) g6 ⟨A1, 1, c1, A2, n2, c2, 5⟩ ⟨[(wantQ r.q).m], namesQ r.q, 5⟩), pp.w.cell? ⟨w.heap.size, 4, none⟩ = some (.bool r.cr) := fun pp => pp.h.l.k.ar.c4
  have zz5 : ∀ pp : Held (fun W => LjF w W r g3 wm co A8 (xs4 (wantQ r.q)) g6 ⟨A1, 1, c1, A2, n2, c2, 5⟩ ⟨[(wantQ r.q).m], namesQ r.q, 5⟩), pp.w.cell? ⟨w.heap.size, 5, none⟩ = some (.slice r.A r.n r.c) := fun pp => pp.h.l.k.ar.c5
  have zz6 : ∀ pp : Held (fun W => LjF w W r g3 wm co A8 (xs4 (wantQ r.q)) g6 ⟨A1, 1, c1, A2, n2, c2, 5⟩ ⟨[(wantQ r.q).m], namesQ r.q, 5⟩), pp.w.cell? ⟨w.heap.size, 6, none⟩ = some (.int .i64 r.cl) := fun pp => pp.h.l.k.ar.c6
  have zz7 : ∀ pp : Held (fun W => LjF w W r g3 wm co A8 (xs4 (wantQ r.q)) g6 ⟨A1, 1, c1, A2, n2, c2, 5⟩ ⟨[(wantQ r.q).m], namesQ r.q, 5⟩), pp.w.cell? ⟨w.heap.size, 7, none⟩ = some (.int .u64 r.tm) := fun pp => pp.h.l.k.ar.c7
  have zz8 : ∀ pp : Held (fun W => LjF w W r g3 wm co A8 (xs4 (wantQ r.q)) g6 ⟨A1, 1, c1, A2, n2, c2, 5⟩ ⟨[(wantQ r.q).m], namesQ r.q, 5⟩), pp.w.cell? ⟨w.heap.size, 8, none⟩ = some (.int .i64 r.gr) := fun pp => pp.h.l.k.ar.c8
  have zz9 : ∀ pp : Held (fun W => LjF w W r g3 wm co A8 (xs4 (wantQ r.q)) g6 ⟨A1, 1, c1, A2, n2, c2, 5⟩ ⟨[(wantQ r.q).m], namesQ r.q, 5⟩), pp.w.cell? ⟨w.heap.size, 9, none⟩ = some (.int .i64 r.sg) := fun pp => pp.h.l.k.ar.c9
  have zz10 : ∀ pp : Held (fun W => LjF w W r g3 wm co A8 (xs4 (wantQ r.q)) g6 ⟨A1, 1, c1, A2, n2, c2, 5⟩ ⟨[(wantQ r.q).m], namesQ r.q, 5⟩), pp.w.cell? ⟨g6, 0, none⟩ = some (.slice A1 1 c1) := fun pp => pp.h.al.c0
  have zz11 : ∀ pp : Held (fun W => LjF w W r g3 wm co A8 (xs4 (wantQ r.q)) g6 ⟨A1, 1, c1, A2, n2, c2, 5⟩ ⟨[(wantQ r.q).m], namesQ r.q, 5⟩), pp.w.cell? ⟨g6, 1, none⟩ = some (.slice A2 n2 c2) := fun pp => pp.h.al.c1
  have zz12 : ∀ pp : Held (fun W => LjF w W r g3 wm co A8 (xs4 (wantQ r.q)) g6 ⟨A1, 1, c1, A2, n2, c2, 5⟩ ⟨[(wantQ r.q).m], namesQ r.q, 5⟩), pp.w.cell? ⟨g6, 2, none⟩ = some (.int .u64 5) := fun pp => pp.h.al.c2
  obtain ⟨w22, hwd⟩ : ∃ W, W = w21.drew := ⟨_, rfl⟩
  rw [← hwd]
  have hb : Below w21.heap.size w21 w22 := by rw [hwd]; exact (Below.refl _ _).drew
  have HN22 : Hid (LjF w w22 r g3 wm co A8 (xs4 (wantQ r.q)) g6 ⟨A1, 1, c1, A2, n2, c2, 5⟩ ⟨[(wantQ r.q).m], namesQ r.q, 5⟩) := HN21.out.next hb
  clear hb hwd
  refine mix_seg [0, 1, 2, 3, 4, 5, 6, 7, 8, 9, 10, 11, 12, 13, 14, 15, 16] (by kernel_rfl) HN22.out ?_
  simp only [segOf, pickOps, pickOp]
  repeat (go_big_quiet_step (fail))
  refine wpQuiet_nil ?_
  refine mix_run 17 (by kernel_rfl) ?_
  simp only [segOf, pickOps, pickOp]
  go_wp2_with fail
  refine (aNames_any r _ HN22.out.l.k.ok HN22.out.l.k.env).mono ?_
  rintro e w23 ⟨v, rfl, hs, hb⟩
  obtain ⟨A9, c9, rfl, _, hs9⟩ := trow_of hs
  have HS9 := Lib.hid hs9
  rw [← HNN.out]
  clear hs hs9
  have HN23 : Hid (LjF w w23 r g3 wm co A8 (xs4 (wantQ r.q)) g6 ⟨A1, 1, c1, A2, n2, c2, 5⟩ ⟨[(wantQ r.q).m], namesQ r.q, 5⟩) := HN22.out.next hb
  clear hb
  go_wp2_with fail
  refine MixPost.normal HN23.out ?_
  refine mix_run 18 (by kernel_rfl) ?_
  simp only [segOf, pickOps, pickOp]
  go_wp2_with fail
  refine (Texts_any A2 A9 n2 n2 c2 c9 _ _ ((namesQ r.q).map mk) ((namesQ r.q).map mk) true _ (by rw [List.length_map]; exact HNN.out) (by rw [List.length_map]; exact HNN.out) HTX.out HN23.out.av.r2 HS9.out (by simp)).mono ?_
  rintro e w24 ⟨rfl, qn, hwn⟩
  have hb : Below w23.heap.size w23 w24 := by rw [hwn]; exact below_drewN (Below.refl _ _) _
  have HN24 : Hid (LjF w w24 r g3 wm co A8 (xs4 (wantQ r.q)) g6 ⟨A1, 1, c1, A2, n2, c2, 5⟩ ⟨[(wantQ r.q).m], namesQ r.q, 5⟩) := HN23.out.next hb
  clear hb hwn
  go_wp2_with fail
  refine MixPost.normal HN24.out ?_
  refine mix_seg [19, 20] (by kernel_rfl) HN24.out ?_
  simp only [segOf, pickOps, pickOp]
  repeat (go_big_quiet_step (fail))
  refine wpQuiet_nil ?_
  refine mix_done (by kernel_rfl) ?_
  have HL9 : Hid (LlF w w24 r g3 wm co A8 (xs4 (wantQ r.q))) := HN24.out.l
  clear HN21 HN22 HN23 HN24 HS9
  go_wp2_with fail
  refine (Low_any out 4 _ (by decide) (by decide)).mono ?_
  rintro e w' ⟨rfl, rfl⟩
  obtain ⟨k, hk⟩ : ∃ k : Nat, lowV out 4 = (k : Int) := ⟨(lowV out 4).toNat, by have := lowV_bd out (n := 4) (by decide); omega⟩
  have hk4 : k < 4 := by have := lowV_bd out (n := 4) (by decide); omega
  rw [hk]
  clear hk
  obtain ⟨K, hK⟩ : ∃ K, outK r.q k = K := ⟨_, rfl⟩
  have HJK := Lib.hid ((judge_out HNT.out hk4 HS.out).trans hK)
  have HK2 := Lib.hid hK
  clear hK
  obtain ⟨w9, hw9⟩ : ∃ W, W = w24 := ⟨_, rfl⟩
  rw [← hw9] at HL9 ⊢
  clear hw9
  go_wp2_with fail
  go_cut [13, 14] from 18 (fun _ s14 W => s14 = .int .i64 K ∧ LlF w W r g3 wm co A8 (xs4 (wantQ r.q)))
  case first =>
    obtain ⟨A2b, hA2⟩ : ∃ A2b, (if k = 3 then A8 else Option.map (fun x => x.add ((k + 1) * 2)) A8) = A2b := ⟨_, rfl⟩
    have HPD : Hid (∀ W B, PRow W B A8 (xs4 (wantQ r.q)) → PRow W B A2b ((xs4 (wantQ r.q)).drop (k + 1))) := by
      show ∀ _ _, _
      intro W B h
      rw [← hA2]
      split
      · rename_i hc
        rw [List.drop_eq_nil_of_le (by show 4 ≤ _; omega)]
        exact PRow.nil _ _ _
      · intro j x hj
        rw [List.getElem?_drop] at hj
        obtain ⟨ad, rfl, hb, hc1, hc2⟩ := h _ _ hj
        have hbl : (ad.add ((k + 1) * 2)).block = ad.block := by unfold Addr.add; split <;> rfl
        refine ⟨ad.add ((k + 1) * 2), rfl, by rw [hbl]; exact hb, ?_, ?_⟩
        · rw [Addr.add_add, show (k + 1) * 2 + j * 2 = (k + 1 + j) * 2 by omega]; exact hc1
        · rw [Addr.add_add, show (k + 1) * 2 + j * 2 = (k + 1 + j) * 2 by omega]; exact hc2
    have HND2 : Hid (A2b = none → 4 - (k + 1) = 0) := by
      show _ → _
      intro h
      have h1 : A8 = none := by
        rw [← hA2] at h
        split at h
        · exact h
        · simpa using h
      have := HAN.out h1
      omega
    obtain ⟨F, hF⟩ : ∃ F : World → Prop, ∀ W, F W ↔ LlF w W r g3 wm co A8 (xs4 (wantQ r.q)) := ⟨_, fun _ => Iff.rfl⟩
    have yy0 : ∀ p : Held F, p.w.cell? ⟨w.heap.size, 0, none⟩ = some (.string r.m) := fun p => ((hF _).1 p.h).k.ar.c0
    have yy1 : ∀ p : Held F, p.w.cell? ⟨w.heap.size, 1, none⟩ = some (.string r.u) := fun p => ((hF _).1 p.h).k.ar.c1
    have yy2 : ∀ p : Held F, p.w.cell? ⟨w.heap.size, 2, none⟩ = some (.string r.o) := fun p => ((hF _).1 p.h).k.ar.c2
    have yy3 : ∀ p : Held F, p.w.cell? ⟨w.heap.size, 3, none⟩ = some (.int .i64 r.mode) := fun p => ((hF _).1 p.h).k.ar.c3
    have yy4 : ∀ p : Held F, p.w.cell? ⟨w.heap.size, 4, none⟩ = some (.bool r.cr) := fun p => ((hF _).1 p.h).k.ar.c4
    have yy5 : ∀ p : Held F, p.w.cell? ⟨w.heap.size, 5, none⟩ = some (.slice r.A r.n r.c) := fun p => ((hF _).1 p.h).k.ar.c5
    have yy6 : ∀ p : Held F, p.w.cell? ⟨w.heap.size, 6, none⟩ = some (.int .i64 r.cl) := fun p => ((hF _).1 p.h).k.ar.c6
    have yy7 : ∀ p : Held F, p.w.cell? ⟨w.heap.size, 7, none⟩ = some (.int .u64 r.tm) := fun p => ((hF _).1 p.h).k.ar.c7
    have yy8 : ∀ p : Held F, p.w.cell? ⟨w.heap.size, 8, none⟩ = some (.int .i64 r.gr) := fun p => ((hF _).1 p.h).k.ar.c8
    have yy9 : ∀ p : Held F, p.w.cell? ⟨w.heap.size, 9, none⟩ = some (.int .i64 r.sg) := fun p => ((hF _).1 p.h).k.ar.c9
    have HFW : Hid (∀ W, Below w9.heap.size w9 W → F W) := fun W h => (hF W).2 (HL9.out.next h)
    clear hF
    obtain ⟨wd, hwd⟩ : ∃ wd, wd = w9.drew := ⟨_, rfl⟩
    have HBD : Hid (Below w9.heap.size w9 wd) := by show Below _ _ _; rw [hwd]; exact (Below.refl _ _).drew
    have hne : Nonempty (Held F) := ⟨⟨wd, HFW.out _ HBD.out⟩⟩
    refine mix_start F (by kernel_rfl) ?_
    rw [← hwd]
    clear hwd
    refine mix_seg [0, 1, 2, 3, 4, 6, 7, 8, 9] (by kernel_rfl) (HFW.out _ HBD.out) ?_
    simp only [segOf, pickOps, pickOp]
    repeat (go_big_quiet_step (fail))
    refine wpQuiet_nil ?_
    refine mix_several [5, 15] (by kernel_rfl) ?_
    intro i1 hi1
    simp only [List.mem_cons, List.not_mem_nil, or_false] at hi1
    rcases hi1 with rfl | rfl
    · simp only [segOf, pickOps, pickOp]
      obtain ⟨B4, hB4⟩ : ∃ b, b = wd.heap.size := ⟨_, rfl⟩
      have HB4 : Hid (w9.heap.size ≤ B4) := by show _ ≤ _; rw [hB4]; exact HBD.out.size
      refine wpList_append_heads rfl (.const (.slice none 0 0)) (.tmp 78) rfl B4 (.slice none 0 0) [] rfl (HdRow.nil _ _) A8 4 wd.heap.size ((xs4 (wantQ r.q)).take k) (by simp [Act.eval, xs4, Nat.min_eq_left (Nat.le_of_lt hk4)]) (LtRow.take (HL9.out.next HBD.out).row k) HAN.out (by rw [List.length_take]; simp; omega) (by rw [hB4]; exact Nat.le_refl _) ?_
      intro v4 wa1 hr4 hg4
      have HR4 : Hid (HdRow wa1 B4 v4 (((xs4 (wantQ r.q)).take k).map hd)) := by rw [List.nil_append] at hr4; exact hr4
      have hbx : Below wd.heap.size wd wa1 := (Below.refl _ _).grown hg4 (Nat.le_refl _) (by intro j hj; cases hj)
      have HBa1 : Hid (Below w9.heap.size w9 wa1) := HBD.out.trans (hbx.mono HBD.out.size)
      have HBS : Hid (B4 ≤ wa1.heap.size) := by show _ ≤ _; rw [hB4]; exact hbx.size
      clear hr4 hg4 hbx hB4
      go_wp2_with fail
      refine MixPost.normal (HFW.out _ HBa1.out) ?_
      refine mix_several [10, 15] (by kernel_rfl) ?_
      intro i1 hi1
      simp only [List.mem_cons, List.not_mem_nil, or_false] at hi1
      rcases hi1 with rfl | rfl
      · simp only [segOf, pickOps, pickOp]
        refine wpList_append_heads rfl (.tmp 79) (.tmp 83) rfl B4 v4 (((xs4 (wantQ r.q)).take k).map hd) rfl HR4.out A2b (4 - (k + 1)) wa1.heap.size ((xs4 (wantQ r.q)).drop (k + 1)) (by simp [Act.eval, xs4]) (HPD.out _ _ (HL9.out.next HBa1.out).row) HND2.out (by rw [List.length_map, List.length_take, List.length_drop]; simp [xs4]; omega) HBS.out ?_
        intro v6 wa2 hr6 hg6
        have HR6 : Hid (HdRow wa2 B4 v6 (((xs4 (wantQ r.q)).take k).map hd ++ ((xs4 (wantQ r.q)).drop (k + 1)).map hd)) := hr6
        have HBa2 : Hid (Below w9.heap.size w9 wa2) := HBa1.out.grown hg6 HBa1.out.size (fun j hj => Nat.le_trans HB4.out (World.ownsRow.lt HR4.out j hj).1)
        clear hr6 hg6
        go_wp2_with fail
        refine MixPost.normal (HFW.out _ HBa2.out) ?_
        refine mix_several [11, 15] (by kernel_rfl) ?_
        intro i1 hi1
        simp only [List.mem_cons, List.not_mem_nil, or_false] at hi1
        rcases hi1 with rfl | rfl
        · simp only [segOf, pickOps, pickOp]
          obtain ⟨A9, n9, c9, ys, rfl, rfl, hys, _, hp9⟩ := HR6.out.row
          have HP9 := Lib.hid hp9
          have HSM9 : Hid (Sm (ys.map hd)) := by show Sm _; rw [hys, ← List.map_append]; exact xs4_sm2 HOK.out k (k + 1)
          have HJ9 : Hid (judgeI r.q s (ys.map hd) = K) := by show _ = _; rw [hys, ← List.map_append]; exact HJK.out
          clear hys hp9
          go_wp2_with fail
          refine (fJudge_any r s A9 _ c9 _ ys _ (HL9.out.next HBa2.out).k.ok (HL9.out.next HBa2.out).k.env rfl (Nat.le_refl _) HP9.out HSM9.out).mono ?_
          rintro e wa3 ⟨a, rfl, _, hb⟩
          rw [HJ9.out]
          obtain ⟨a1, a2, a3, a4, a5, a6, a7⟩ := a
          simp only [Av.v]
          have HBa3 : Hid (Below w9.heap.size w9 wa3) := HBa2.out.trans (hb.mono HBa2.out.size)
          clear hb HP9 HSM9 HJ9
          go_wp2_with fail
          refine MixPost.normal (HFW.out _ HBa3.out) ?_
          refine mix_seg [12, 13, 14] (by kernel_rfl) (HFW.out _ HBa3.out) ?_
          simp only [segOf, pickOps, pickOp]
          repeat (go_big_quiet_step (fail))
          refine wpQuiet_nil ?_
          refine mix_run 15 (by kernel_rfl) ?_
          simp only [segOf, pickOps, pickOp]
          obtain ⟨wa4, hwa⟩ : ∃ W, W = wa3.alloc (Obj.cells #[.slice none 0 0, .slice none 0 0, .int .u64 0] 28) := ⟨_, rfl⟩
          obtain ⟨gb, hgb⟩ : ∃ g, g = wa3.heap.size := ⟨_, rfl⟩
          have hbx : Below wa3.heap.size wa3 wa4 := by rw [hwa]; exact (Below.refl _ _).alloc (Nat.le_refl _) _
          have HBX : Hid (AlAt wa4 gb Av.zero) := by show AlAt _ _ _; rw [hwa, hgb]; exact AlAt.new _ Av.zero _
          have HGB : Hid (w9.heap.size ≤ gb) := by show _ ≤ _; rw [hgb]; exact HBa3.out.size
          have HBa4 : Hid (Below w9.heap.size w9 wa4) := HBa3.out.trans (hbx.mono HBa3.out.size)
          clear hbx
          go_wp2_with fail
          rw [← hwa, ← hgb]
          clear hwa hgb
          refine MixPost.normal (HFW.out _ HBa4.out) ?_
          refine mix_run 16 (by kernel_rfl) ?_
          simp only [segOf, pickOps, pickOp]
          obtain ⟨b0, b1, b2, ff⟩ := HBX.out
          dsimp only [Av.zero] at b0 b1 b2
          go_wp2_with fail
          obtain ⟨wa5, hwa⟩ : ∃ W, W = AlAt.put wa4 gb ⟨a1, a2, a3, a4, a5, a6, a7⟩ := ⟨_, rfl⟩
          have HBa5 : Hid (Below w9.heap.size w9 wa5) := by show Below _ _ _; rw [hwa]; exact AlAt.put_below HBa4.out HGB.out _
          dsimp only [AlAt.put] at hwa
          rw [← hwa]
          clear hwa b0 b1 b2 ff
          refine MixPost.normal (HFW.out _ HBa5.out) ?_
          refine mix_seg [17] (by kernel_rfl) (HFW.out _ HBa5.out) ?_
          simp only [segOf, pickOps, pickOp]
          repeat (go_big_quiet_step (fail))
          refine wpQuiet_nil ?_
          refine mix_done (by kernel_rfl) ?_
          go_wp2_with fail
          go_meet
          exact ⟨rfl, HL9.out.next HBa5.out⟩
        · simp only [segOf, pickOps, pickOp]
          obtain ⟨wa3, hwa⟩ : ∃ W, W = wa2.alloc (Obj.cells #[.slice none 0 0, .slice none 0 0, .int .u64 0] 28) := ⟨_, rfl⟩
          obtain ⟨gb, hgb⟩ : ∃ g, g = wa2.heap.size := ⟨_, rfl⟩
          have hbx : Below wa2.heap.size wa2 wa3 := by rw [hwa]; exact (Below.refl _ _).alloc (Nat.le_refl _) _
          have HBX : Hid (AlAt wa3 gb Av.zero) := by show AlAt _ _ _; rw [hwa, hgb]; exact AlAt.new _ Av.zero _
          have HGB : Hid (w9.heap.size ≤ gb) := by show _ ≤ _; rw [hgb]; exact HBa2.out.size
          have HBa3 : Hid (Below w9.heap.size w9 wa3) := HBa2.out.trans (hbx.mono HBa2.out.size)
          replace HR6 : Hid (HdRow wa3 B4 v6 (((xs4 (wantQ r.q)).take k).map hd ++ ((xs4 (wantQ r.q)).drop (k + 1)).map hd)) := HR6.out.below hbx
          clear hbx
          go_wp2_with fail
          rw [← hwa, ← hgb]
          clear hwa hgb
          refine MixPost.normal (HFW.out _ HBa3.out) ?_
          refine mix_run 11 (by kernel_rfl) ?_
          simp only [segOf, pickOps, pickOp]
          obtain ⟨A9, n9, c9, ys, rfl, rfl, hys, _, hp9⟩ := HR6.out.row
          have HP9 := Lib.hid hp9
          have HSM9 : Hid (Sm (ys.map hd)) := by show Sm _; rw [hys, ← List.map_append]; exact xs4_sm2 HOK.out k (k + 1)
          have HJ9 : Hid (judgeI r.q s (ys.map hd) = K) := by show _ = _; rw [hys, ← List.map_append]; exact HJK.out
          clear hys hp9
          go_wp2_with fail
          refine (fJudge_any r s A9 _ c9 _ ys _ (HL9.out.next HBa3.out).k.ok (HL9.out.next HBa3.out).k.env rfl (Nat.le_refl _) HP9.out HSM9.out).mono ?_
          rintro e wa4 ⟨a, rfl, _, hb⟩
          rw [HJ9.out]
          obtain ⟨a1, a2, a3, a4, a5, a6, a7⟩ := a
          simp only [Av.v]
          have HBa4 : Hid (Below w9.heap.size w9 wa4) := HBa3.out.trans (hb.mono HBa3.out.size)
          replace HBX : Hid (AlAt wa4 gb Av.zero) := HBX.out.up hb
          clear hb HP9 HSM9 HJ9
          go_wp2_with fail
          refine MixPost.normal (HFW.out _ HBa4.out) ?_
          refine mix_seg [12, 13, 14] (by kernel_rfl) (HFW.out _ HBa4.out) ?_
          simp only [segOf, pickOps, pickOp]
          repeat (go_big_quiet_step (fail))
          refine wpQuiet_nil ?_
          refine mix_run 16 (by kernel_rfl) ?_
          simp only [segOf, pickOps, pickOp]
          obtain ⟨b0, b1, b2, ff⟩ := HBX.out
          dsimp only [Av.zero] at b0 b1 b2
          go_wp2_with fail
          obtain ⟨wa5, hwa⟩ : ∃ W, W = AlAt.put wa4 gb ⟨a1, a2, a3, a4, a5, a6, a7⟩ := ⟨_, rfl⟩
          have HBa5 : Hid (Below w9.heap.size w9 wa5) := by show Below _ _ _; rw [hwa]; exact AlAt.put_below HBa4.out HGB.out _
          dsimp only [AlAt.put] at hwa
          rw [← hwa]
          clear hwa b0 b1 b2 ff
          refine MixPost.normal (HFW.out _ HBa5.out) ?_
          refine mix_seg [17] (by kernel_rfl) (HFW.out _ HBa5.out) ?_
          simp only [segOf, pickOps, pickOp]
          repeat (go_big_quiet_step (fail))
          refine wpQuiet_nil ?_
          refine mix_done (by kernel_rfl) ?_
          go_wp2_with fail
          go_meet
          exact ⟨rfl, HL9.out.next HBa5.out⟩
      · simp only [segOf, pickOps, pickOp]
        obtain ⟨wa2, hwa⟩ : ∃ W, W = wa1.alloc (Obj.cells #[.slice none 0 0, .slice none 0 0, .int .u64 0] 28) := ⟨_, rfl⟩
        obtain ⟨gb, hgb⟩ : ∃ g, g = wa1.heap.size := ⟨_, rfl⟩
        have hbx : Below wa1.heap.size wa1 wa2 := by rw [hwa]; exact (Below.refl _ _).alloc (Nat.le_refl _) _
        have HBX : Hid (AlAt wa2 gb Av.zero) := by show AlAt _ _ _; rw [hwa, hgb]; exact AlAt.new _ Av.zero _
        have HGB : Hid (w9.heap.size ≤ gb) := by show _ ≤ _; rw [hgb]; exact HBa1.out.size
        have HBa2 : Hid (Below w9.heap.size w9 wa2) := HBa1.out.trans (hbx.mono HBa1.out.size)
        have HOB : Hid (∀ j, v4.ownBlock = some j → j ≠ gb) := by
          show ∀ _, _ → _
          intro j hj
          have h1 := (World.ownsRow.lt HR4.out j hj).2
          rw [hgb]
          omega
        replace HR4 : Hid (HdRow wa2 B4 v4 (((xs4 (wantQ r.q)).take k).map hd)) := HR4.out.below hbx
        replace HBS : Hid (B4 ≤ wa2.heap.size) := Nat.le_trans HBS.out hbx.size
        clear hbx
        go_wp2_with fail
        rw [← hwa, ← hgb]
        clear hwa hgb
        refine MixPost.normal (HFW.out _ HBa2.out) ?_
        refine mix_run 10 (by kernel_rfl) ?_
        simp only [segOf, pickOps, pickOp]
        refine wpList_append_heads rfl (.tmp 79) (.tmp 83) rfl B4 v4 (((xs4 (wantQ r.q)).take k).map hd) rfl HR4.out A2b (4 - (k + 1)) wa2.heap.size ((xs4 (wantQ r.q)).drop (k + 1)) (by simp [Act.eval, xs4]) (HPD.out _ _ (HL9.out.next HBa2.out).row) HND2.out (by rw [List.length_map, List.length_take, List.length_drop]; simp [xs4]; omega) HBS.out ?_
        intro v6 wa3 hr6 hg6
        have HR6 : Hid (HdRow wa3 B4 v6 (((xs4 (wantQ r.q)).take k).map hd ++ ((xs4 (wantQ r.q)).drop (k + 1)).map hd)) := hr6
        have HBa3 : Hid (Below w9.heap.size w9 wa3) := HBa2.out.grown hg6 HBa2.out.size (fun j hj => Nat.le_trans HB4.out (World.ownsRow.lt HR4.out j hj).1)
        replace HBX : Hid (AlAt wa3 gb Av.zero) := HBX.out.grown hg6 HOB.out
        clear hr6 hg6
        go_wp2_with fail
        refine MixPost.normal (HFW.out _ HBa3.out) ?_
        refine mix_run 11 (by kernel_rfl) ?_
        simp only [segOf, pickOps, pickOp]
        obtain ⟨A9, n9, c9, ys, rfl, rfl, hys, _, hp9⟩ := HR6.out.row
        have HP9 := Lib.hid hp9
        have HSM9 : Hid (Sm (ys.map hd)) := by show Sm _; rw [hys, ← List.map_append]; exact xs4_sm2 HOK.out k (k + 1)
        have HJ9 : Hid (judgeI r.q s (ys.map hd) = K) := by show _ = _; rw [hys, ← List.map_append]; exact HJK.out
        clear hys hp9
        go_wp2_with fail
        refine (fJudge_any r s A9 _ c9 _ ys _ (HL9.out.next HBa3.out).k.ok (HL9.out.next HBa3.out).k.env rfl (Nat.le_refl _) HP9.out HSM9.out).mono ?_
        rintro e wa4 ⟨a, rfl, _, hb⟩
        rw [HJ9.out]
        obtain ⟨a1, a2, a3, a4, a5, a6, a7⟩ := a
        simp only [Av.v]
        have HBa4 : Hid (Below w9.heap.size w9 wa4) := HBa3.out.trans (hb.mono HBa3.out.size)
        replace HBX : Hid (AlAt wa4 gb Av.zero) := HBX.out.up hb
        clear hb HP9 HSM9 HJ9
        go_wp2_with fail
        refine MixPost.normal (HFW.out _ HBa4.out) ?_
        refine mix_seg [12, 13, 14] (by kernel_rfl) (HFW.out _ HBa4.out) ?_
        simp only [segOf, pickOps, pickOp]
        repeat (go_big_quiet_step (fail))
        refine wpQuiet_nil ?_
        refine mix_run 16 (by kernel_rfl) ?_
        simp only [segOf, pickOps, pickOp]
        obtain ⟨b0, b1, b2, ff⟩ := HBX.out
        dsimp only [Av.zero] at b0 b1 b2
        go_wp2_with fail
        obtain ⟨wa5, hwa⟩ : ∃ W, W = AlAt.put wa4 gb ⟨a1, a2, a3, a4, a5, a6, a7⟩ := ⟨_, rfl⟩
        have HBa5 : Hid (Below w9.heap.size w9 wa5) := by show Below _ _ _; rw [hwa]; exact AlAt.put_below HBa4.out HGB.out _
        dsimp only [AlAt.put] at hwa
        rw [← hwa]
        clear hwa b0 b1 b2 ff
        refine MixPost.normal (HFW.out _ HBa5.out) ?_
        refine mix_seg [17] (by kernel_rfl) (HFW.out _ HBa5.out) ?_
        simp only [segOf, pickOps, pickOp]
        repeat (go_big_quiet_step (fail))
        refine wpQuiet_nil ?_
        refine mix_done (by kernel_rfl) ?_
        go_wp2_with fail
        go_meet
        exact ⟨rfl, HL9.out.next HBa5.out⟩
    · simp only [segOf, pickOps, pickOp]
      obtain ⟨wa1, hwa⟩ : ∃ W, W = wd.alloc (Obj.cells #[.slice none 0 0, .slice none 0 0, .int .u64 0] 28) := ⟨_, rfl⟩
      obtain ⟨gb, hgb⟩ : ∃ g, g = wd.heap.size := ⟨_, rfl⟩
      have hbx : Below wd.heap.size wd wa1 := by rw [hwa]; exact (Below.refl _ _).alloc (Nat.le_refl _) _
      have HBX : Hid (AlAt wa1 gb Av.zero) := by show AlAt _ _ _; rw [hwa, hgb]; exact AlAt.new _ Av.zero _
      have HGB : Hid (w9.heap.size ≤ gb) := by show _ ≤ _; rw [hgb]; exact HBD.out.size
      have HBa1 : Hid (Below w9.heap.size w9 wa1) := HBD.out.trans (hbx.mono HBD.out.size)
      clear hbx
      go_wp2_with fail
      rw [← hwa, ← hgb]
      clear hwa hgb
      refine MixPost.normal (HFW.out _ HBa1.out) ?_
      refine mix_run 5 (by kernel_rfl) ?_
      simp only [segOf, pickOps, pickOp]
      obtain ⟨B4, hB4⟩ : ∃ b, b = wa1.heap.size := ⟨_, rfl⟩
      have HB4 : Hid (w9.heap.size ≤ B4) := by show _ ≤ _; rw [hB4]; exact HBa1.out.size
      refine wpList_append_heads rfl (.const (.slice none 0 0)) (.tmp 78) rfl B4 (.slice none 0 0) [] rfl (HdRow.nil _ _) A8 4 wa1.heap.size ((xs4 (wantQ r.q)).take k) (by simp [Act.eval, xs4, Nat.min_eq_left (Nat.le_of_lt hk4)]) (LtRow.take (HL9.out.next HBa1.out).row k) HAN.out (by rw [List.length_take]; simp; omega) (by rw [hB4]; exact Nat.le_refl _) ?_
      intro v4 wa2 hr4 hg4
      have HR4 : Hid (HdRow wa2 B4 v4 (((xs4 (wantQ r.q)).take k).map hd)) := by rw [List.nil_append] at hr4; exact hr4
      have hbx : Below wa1.heap.size wa1 wa2 := (Below.refl _ _).grown hg4 (Nat.le_refl _) (by intro j hj; cases hj)
      have HBa2 : Hid (Below w9.heap.size w9 wa2) := HBa1.out.trans (hbx.mono HBa1.out.size)
      have HBS : Hid (B4 ≤ wa2.heap.size) := by show _ ≤ _; rw [hB4]; exact hbx.size
      have HOB : Hid (∀ j, v4.ownBlock = some j → j ≠ gb) := by
        show ∀ _, _ → _
        intro j hj
        have h1 := (World.ownsRow.lt HR4.out j hj).1
        have h2 := HBX.out.lt
        rw [← hB4] at h2
        omega
      replace HBX : Hid (AlAt wa2 gb Av.zero) := HBX.out.up hbx
      clear hr4 hg4 hbx hB4
      go_wp2_with fail
      refine MixPost.normal (HFW.out _ HBa2.out) ?_
      refine mix_run 10 (by kernel_rfl) ?_
      simp only [segOf, pickOps, pickOp]
      refine wpList_append_heads rfl (.tmp 79) (.tmp 83) rfl B4 v4 (((xs4 (wantQ r.q)).take k).map hd) rfl HR4.out A2b (4 - (k + 1)) wa2.heap.size ((xs4 (wantQ r.q)).drop (k + 1)) (by simp [Act.eval, xs4]) (HPD.out _ _ (HL9.out.next HBa2.out).row) HND2.out (by rw [List.length_map, List.length_take, List.length_drop]; simp [xs4]; omega) HBS.out ?_
      intro v6 wa3 hr6 hg6
      have HR6 : Hid (HdRow wa3 B4 v6 (((xs4 (wantQ r.q)).take k).map hd ++ ((xs4 (wantQ r.q)).drop (k + 1)).map hd)) := hr6
      have HBa3 : Hid (Below w9.heap.size w9 wa3) := HBa2.out.grown hg6 HBa2.out.size (fun j hj => Nat.le_trans HB4.out (World.ownsRow.lt HR4.out j hj).1)
      replace HBX : Hid (AlAt wa3 gb Av.zero) := HBX.out.grown hg6 HOB.out
      clear hr6 hg6
      go_wp2_with fail
      refine MixPost.normal (HFW.out _ HBa3.out) ?_
      refine mix_run 11 (by kernel_rfl) ?_
      simp only [segOf, pickOps, pickOp]
      obtain ⟨A9, n9, c9, ys, rfl, rfl, hys, _, hp9⟩ := HR6.out.row
      have HP9 := Lib.hid hp9
      have HSM9 : Hid (Sm (ys.map hd)) := by show Sm _; rw [hys, ← List.map_append]; exact xs4_sm2 HOK.out k (k + 1)
      have HJ9 : Hid (judgeI r.q s (ys.map hd) = K) := by show _ = _; rw [hys, ← List.map_append]; exact HJK.out
      clear hys hp9
      go_wp2_with fail
      refine (fJudge_any r s A9 _ c9 _ ys _ (HL9.out.next HBa3.out).k.ok (HL9.out.next HBa3.out).k.env rfl (Nat.le_refl _) HP9.out HSM9.out).mono ?_
      rintro e wa4 ⟨a, rfl, _, hb⟩
      rw [HJ9.out]
      obtain ⟨a1, a2, a3, a4, a5, a6, a7⟩ := a
      simp only [Av.v]
      have HBa4 : Hid (Below w9.heap.size w9 wa4) := HBa3.out.trans (hb.mono HBa3.out.size)
      replace HBX : Hid (AlAt wa4 gb Av.zero) := HBX.out.up hb
      clear hb HP9 HSM9 HJ9
      go_wp2_with fail
      refine MixPost.normal (HFW.out _ HBa4.out) ?_
      refine mix_seg [12, 13, 14] (by kernel_rfl) (HFW.out _ HBa4.out) ?_
      simp only [segOf, pickOps, pickOp]
      repeat (go_big_quiet_step (fail))
      refine wpQuiet_nil ?_
      refine mix_run 16 (by kernel_rfl) ?_
      simp only [segOf, pickOps, pickOp]
      obtain ⟨b0, b1, b2, ff⟩ := HBX.out
      dsimp only [Av.zero] at b0 b1 b2
      go_wp2_with fail
      obtain ⟨wa5, hwa⟩ : ∃ W, W = AlAt.put wa4 gb ⟨a1, a2, a3, a4, a5, a6, a7⟩ := ⟨_, rfl⟩
      have HBa5 : Hid (Below w9.heap.size w9 wa5) := by show Below _ _ _; rw [hwa]; exact AlAt.put_below HBa4.out HGB.out _
      dsimp only [AlAt.put] at hwa
      rw [← hwa]
      clear hwa b0 b1 b2 ff
      refine MixPost.normal (HFW.out _ HBa5.out) ?_
      refine mix_seg [17] (by kernel_rfl) (HFW.out _ HBa5.out) ?_
      simp only [segOf, pickOps, pickOp]
      repeat (go_big_quiet_step (fail))
      refine wpQuiet_nil ?_
      refine mix_done (by kernel_rfl) ?_
      go_wp2_with fail
      go_meet
      exact ⟨rfl, HL9.out.next HBa5.out⟩
  case rest =>
  obtain ⟨rfl, hk9⟩ := hcut
  have HL0 : Hid (LlF w wc r g3 wm co A8 (xs4 (wantQ r.q))) := hk9
  clear hk9 HL9 HJK
  go_upto_block 0 with fail
  go_cut [15] from 88 to 117 (fun s15 W => s15 = .int .i64 K ∧ LlF w W r g3 wm co A8 (xs4 (wantQ r.q)))
  case first =>
    have hk03 : k = 0 ∨ k = 1 ∨ k = 2 ∨ k = 3 := by omega
    rcases hk03 with rfl | rfl | rfl | rfl
    · obtain rfl : 15 = K := by rw [← HK2.out]; rfl
      go_wp2_with fail
      go_meet
      exact ⟨rfl, HL0.out⟩
    · have hcr4 := HL0.out.k.ar.c4
      obtain ⟨cb, hcb⟩ : ∃ b, b = r.cr := ⟨_, rfl⟩
      have hcq : r.q.cr = cb := hcb.symm
      rw [← hcb] at hcr4
      have hk2 := HK2.out
      unfold outK at hk2
      rw [hcq] at hk2
      clear hcb hcq
      cases cb
      · obtain rfl : 0 = K := by rw [← hk2]; simp
        clear hk2
        go_wp2_with fail
        go_meet
        exact ⟨rfl, HL0.out⟩
      · obtain rfl : 15 = K := by rw [← hk2]; simp
        clear hk2
        go_wp2_with fail
        go_meet
        exact ⟨rfl, HL0.out⟩
    · have hom := HL0.out.k.om
      obtain ⟨sb, hsb⟩ : ∃ b, b = Lk.safeL (wantQ r.q).m := ⟨_, rfl⟩
      have hsb2 : Lk.safeL wm.data.toList = sb := by rw [HWM.out, mk_data]; exact hsb.symm
      have hk2 := HK2.out
      unfold outK at hk2
      rw [← hsb] at hk2
      have hwz : wm.size ≤ maxLen := by rw [HWM.out]; exact (want_sizes HOK.out).2
      have HWZ := Lib.hid hwz
      have HS3 := Lib.hid hsb2
      clear hsb hsb2 hwz
      go_wp2_with fail
      refine (Safe_any wm _ HWZ.out HL0.out.k.env.m).mono ?_
      rintro e w2 ⟨rfl, q2, hw2⟩
      rw [HS3.out]
      have HL2 : Hid (LlF w w2 r g3 wm co A8 (xs4 (wantQ r.q))) := HL0.out.next (by rw [hw2]; exact below_drewN (Below.refl _ _) _)
      clear hw2 hom
      cases sb
      · obtain rfl : 5 = K := by rw [← hk2]; simp
        clear hk2
        go_wp2_with fail
        go_meet
        exact ⟨rfl, HL2.out⟩
      · obtain rfl : 0 = K := by rw [← hk2]; simp
        clear hk2
        go_wp2_with fail
        go_meet
        exact ⟨rfl, HL2.out⟩
    · obtain ⟨r0, r1, r2, r3, r4, r5, r6, r7, r8, r9⟩ := HL0.out.k.ar
      have hk2 := HK2.out
      unfold outK at hk2
      rw [← HNN.out] at hk2
      go_wp2_with fail
      clear r0 r1 r2 r3 r4 r5 r6 r7 r8 r9
      refine (aNames_any r _ HL0.out.k.ok HL0.out.k.env).mono ?_
      rintro e w2 ⟨v, rfl, hs, hb⟩
      obtain ⟨A9, c9, rfl, _, _⟩ := trow_of hs
      rw [← HNN.out]
      have HL2 : Hid (LlF w w2 r g3 wm co A8 (xs4 (wantQ r.q))) := HL0.out.next hb
      clear hs hb
      by_cases hp : 0 < n2
      · obtain rfl : 6 = K := by rw [← hk2]; simp [hp]
        clear hk2
        have hdp : decide ((0 : Int) < (n2 : Int)) = true := decide_eq_true (by omega)
        go_wp2_with fail
        go_meet
        exact ⟨rfl, HL2.out⟩
      · obtain rfl : 0 = K := by rw [← hk2]; simp [hp]
        clear hk2
        have hdp : decide ((0 : Int) < (n2 : Int)) = false := decide_eq_false (by omega)
        go_wp2_with fail
        go_meet
        exact ⟨rfl, HL2.out⟩
  case rest =>
    obtain ⟨rfl, hk9⟩ := hcut
    have HL3 : Hid (LlF w wc r g3 wm co A8 (xs4 (wantQ r.q))) := hk9
    clear hk9 HL0
    obtain ⟨r0, r1, r2, r3, r4, r5, r6, r7, r8, r9⟩ := HL3.out.k.ar
    go_wp2_with fail
    clear r0 r1 r2 r3 r4 r5 r6 r7 r8 r9
    refine (fJudge_any r (s + 100) A8 4 4 _ (xs4 (wantQ r.q)) _ HL3.out.k.ok HL3.out.k.env rfl (Nat.le_refl _) HL3.out.row HSM.out).mono ?_
    rintro e w11 ⟨a, rfl, _, hb⟩
    rw [HJ1.out]
    have HL11 : Hid (LlF w w11 r g3 wm co A8 (xs4 (wantQ r.q))) := HL3.out.next hb
    clear hb
    obtain ⟨a1, a2, a3, a4, a5, a6, a7⟩ := a
    simp only [Av.v]
    obtain ⟨w12, hw12⟩ : ∃ W, W = w11.alloc (Obj.cells #[.slice a1 a2 a3, .slice a4 a5 a6, .int .u64 a7] 28) := ⟨_, rfl⟩
    have HL12 : Hid (LlF w w12 r g3 wm co A8 (xs4 (wantQ r.q))) := HL11.out.next (by rw [hw12]; exact (Below.refl _ _).alloc (Nat.le_refl _) _)
    go_wp2_with fail
    rw [← hw12]
    clear hw12
    refine (awake17_any _ HL12.out.k.env).mono ?_
    rintro e w13 ⟨rfl, hb⟩
    have HBZ : Hid (Below w.heap.size w w13) := HL12.out.k.bel.trans (hb.mono HL12.out.k.bel.size)
    clear hb
    go_wp2
    go_ret
    exact ⟨rfl, HBZ.out⟩
end Go.Proofs.YtlkneapidmdpbaaGreatDoor
