/-
  The plain mathematics and the contracts of ask over this seat's program. Conditions: those of each statement.
-/
import Derived.Test.YtlkneapidmdpbaaGreatDoorLMeth
import Derived.Test.YtlkneapidmdpbaaGreatDoorLSafe
import Derived.Test.YtlkneapidmdpbaaGreatDoorLTgt
import Derived.Test.YtlkneapidmdpbaaGreatDoorLRef7
import Derived.WalkMore
namespace Go.Proofs.YtlkneapidmdpbaaGreatDoor

structure Rq where
  m : List UInt8
  u : List UInt8
  o : List UInt8
  mode : Int
  cr : Bool
  hs : List Hd
  cl : Int
  tm : Int
  gr : Int
  sg : Int
def Rq.zero : Rq := ⟨[], [], [], 0, false, [], 0, 0, 0, 0⟩
def orgI (l : List UInt8) : Int := if 512 < l.length then 4 else match parseL l with | some _ => 0 | none => 3
def orgO (l : List UInt8) : List UInt8 × List UInt8 × Int := if 512 < l.length then ([], [], 0) else (parseL l).getD ([], [], 0)
def modeOk (k : Int) : Bool := k == 1 || k == 2 || k == 3
/-- the numbers of a request, behind its texts -/
def numsI (r : Rq) : Int := if r.cl < 1 ∨ 6 < r.cl then 8 else if 600 < r.tm then 9 else if r.gr < 0 ∨ r.sg < 0 then 2 else 0
def fieldsI (r : Rq) : Int :=
  if Lk.methI r.m ≠ 0 then Lk.methI r.m else if modeOk r.mode = false then 7 else if checkH r.hs ≠ 0 then checkH r.hs else numsI r
def crossB (r : Rq) : Bool := !((tgtL r.u).1.sc == (orgO r.o).1 && (tgtL r.u).1.h == (orgO r.o).2.1 && (tgtL r.u).1.p == (orgO r.o).2.2)
def plainB (r : Rq) : Bool := Lk.safeL r.m && decide ((safeNames r.hs).length = 0)
def suitB (mode : Int) (c p : Bool) : Bool := if mode = 1 then !c else if mode = 2 then p else true
def askI (r : Rq) : Int :=
  if (tgtL r.u).2 ≠ 0 then (tgtL r.u).2 else if orgI r.o ≠ 0 then orgI r.o else if fieldsI r ≠ 0 then fieldsI r
  else if suitB r.mode (crossB r) (plainB r) = true then 0 else 7
def normQ (r : Rq) : Rq :=
  if askI r = 0 then { r with m := Lk.normL r.m, u := (tgtL r.u).1.show_, o := showL (orgO r.o).1 (orgO r.o).2.1 (orgO r.o).2.2, hs := normL r.hs } else Rq.zero
def urlQ (r : Rq) : Url := if askI r = 0 then (tgtL r.u).1 else Url.zero
def fromQ (r : Rq) : List UInt8 × List UInt8 × Int := if askI r = 0 then orgO r.o else ([], [], 0)
def crossQ (r : Rq) : Bool := if askI r = 0 then crossB r else false
def plainQ (r : Rq) : Bool := if askI r = 0 then plainB r else false
def namesQ (r : Rq) : List (List UInt8) := if askI r = 0 then safeNames r.hs else []
def needsQ (r : Rq) : Bool := (r.mode == 3) && crossQ r && !plainQ r
def keyQ (r : Rq) : List UInt8 := if askI r = 0 then keyL (tgtL r.u).1.sc (tgtL r.u).1.h (tgtL r.u).1.p else []
def comL : List (List UInt8) → List UInt8
  | [] => []
  | [x] => x
  | x :: y :: r => x ++ 44 :: comL (y :: r)
/-- what a preflight asks for: origin, URL, credentials, method, names -/
structure Wq where
  o : List UInt8
  u : List UInt8
  cr : Bool
  m : List UInt8
  n : List UInt8
def wantQ (r : Rq) : Wq := if askI r = 0 then ⟨(normQ r).o, (normQ r).u, r.cr, (normQ r).m, comL (safeNames r.hs)⟩ else ⟨[], [], false, [], []⟩

theorem org_cases (l : List UInt8) : (orgI l = 3 ∧ orgO l = ([], [], 0)) ∨ (orgI l = 4 ∧ orgO l = ([], [], 0)) ∨ (orgI l = 0 ∧ parseL l = some (orgO l) ∧ checkL (orgO l).1 (orgO l).2.1 (orgO l).2.2 = true) := by
  unfold orgI orgO
  by_cases h : 512 < l.length
  · simp [h]
  · simp only [h, if_false]
    cases hp : parseL l with
    | none => simp
    | some q => exact .inr (.inr ⟨rfl, rfl, parse_check hp⟩)
theorem org_show {sc h : List UInt8} {p : Int} (hc : checkL sc h p = true) : orgI (showL sc h p) = 0 ∧ orgO (showL sc h p) = (sc, h, p) := by
  have hl := show_len (sc := sc) (h := h) (p := p)
  unfold orgI orgO
  simp [show ¬ 512 < (showL sc h p).length by omega, parse_show hc]
theorem nums_0 {r : Rq} (h : numsI r = 0) : 1 ≤ r.cl ∧ r.cl ≤ 6 ∧ r.tm ≤ 600 ∧ 0 ≤ r.gr ∧ 0 ≤ r.sg := by
  unfold numsI at h
  repeat' split at h
  all_goals first | omega | (simp at h)
theorem fields_0 {r : Rq} (h : fieldsI r = 0) : Lk.methI r.m = 0 ∧ modeOk r.mode = true ∧ checkH r.hs = 0 ∧ numsI r = 0 := by
  unfold fieldsI at h
  split at h
  · contradiction
  rename_i h1
  split at h
  · simp at h
  rename_i h2
  split at h
  · contradiction
  rename_i h3
  exact ⟨by simpa using h1, by simpa using h2, by simpa using h3, h⟩
theorem ask_0 {r : Rq} (h : askI r = 0) : (tgtL r.u).2 = 0 ∧ orgI r.o = 0 ∧ fieldsI r = 0 ∧ suitB r.mode (crossB r) (plainB r) = true := by
  unfold askI at h
  split at h
  · contradiction
  rename_i h1
  split at h
  · contradiction
  rename_i h2
  split at h
  · contradiction
  rename_i h3
  split at h
  · rename_i h4; exact ⟨by simpa using h1, by simpa using h2, by simpa using h3, h4⟩
  · simp at h
theorem ask_of {r : Rq} (h1 : (tgtL r.u).2 = 0) (h2 : orgI r.o = 0) (h3 : fieldsI r = 0) (h4 : suitB r.mode (crossB r) (plainB r) = true) : askI r = 0 := by
  unfold askI; simp [h1, h2, h3, h4]
theorem tgt_ok {l : List UInt8} (h : (tgtL l).2 = 0) : (tgtL l).1.ok = true := by
  rcases tgt_cases l with e | e | ⟨_, e⟩
  · rw [e] at h; simp at h
  · rw [e] at h; simp at h
  · exact e
theorem org_ok {l : List UInt8} (h : orgI l = 0) : parseL l = some (orgO l) ∧ checkL (orgO l).1 (orgO l).2.1 (orgO l).2.2 = true := by
  rcases org_cases l with ⟨e, _⟩ | ⟨e, _⟩ | ⟨_, e⟩
  · omega
  · omega
  · exact e

/-! by Norm again -/
theorem safeH_norm (h : Hd) : safeH (normH h) = safeH h := by simp [safeH, normH, Lk.trim_trim, Lk.lower_lower]
theorem filter_norm (l : List Hd) (p : Hd → Bool) (hp : ∀ h, p (normH h) = p h) : (normL l).filter p = normL (l.filter p) := by
  unfold normL
  induction l with
  | nil => rfl
  | cons h r ih => rw [List.map_cons, List.filter_cons, List.filter_cons, hp, ih]; split <;> rfl
theorem safeNames_norm (l : List Hd) : safeNames (normL l) = safeNames l := by
  have e1 : safeSum (normL l) = safeSum l := by
    unfold safeSum
    rw [filter_norm l safeH safeH_norm]
    congr 1
    unfold normL
    rw [List.map_map]
    refine List.map_congr_left fun h _ => ?_
    simp [normH, Lk.trim_trim]
  have e2 : lowsL (normL l) = lowsL l := by
    unfold lowsL normL
    rw [List.map_map]
    refine List.map_congr_left fun h _ => ?_
    simp [normH, Lk.lower_lower]
  have e3 : askedL (normL l) = askedL l := by
    unfold askedL
    rw [filter_norm l (fun h => !safeH h) (fun h => by rw [safeH_norm])]
    unfold normL
    rw [List.map_map]
    refine List.map_congr_left fun h _ => ?_
    simp [normH, Lk.lower_lower]
  unfold safeNames
  rw [e1, e2, e3]
theorem norm_is {r : Rq} (h : askI r = 0) : normQ r = { r with m := Lk.normL r.m, u := (tgtL r.u).1.show_, o := showL (orgO r.o).1 (orgO r.o).2.1 (orgO r.o).2.2, hs := normL r.hs } := by rw [normQ, if_pos h]
theorem norm_u {r : Rq} (h : askI r = 0) : tgtL (normQ r).u = ((tgtL r.u).1, 0) := by
  rw [norm_is h]; exact tgt_show (tgt_ok (ask_0 h).1)
theorem norm_o {r : Rq} (h : askI r = 0) : orgI (normQ r).o = 0 ∧ orgO (normQ r).o = orgO r.o := by
  rw [norm_is h]
  exact org_show (org_ok (ask_0 h).2.1).2
theorem norm_cross {r : Rq} (h : askI r = 0) : crossB (normQ r) = crossB r := by
  unfold crossB
  rw [norm_u h, (norm_o h).2]
theorem norm_plain {r : Rq} (h : askI r = 0) : plainB (normQ r) = plainB r := by
  unfold plainB
  rw [norm_is h]
  simp only [Lk.safe_norm, safeNames_norm]
theorem norm_fields {r : Rq} (h : askI r = 0) : fieldsI (normQ r) = 0 := by
  have h3 := (ask_0 h).2.2.1
  rw [norm_is h]
  unfold fieldsI at h3 ⊢
  simp only [Lk.meth_norm, check_norm]
  exact h3
theorem norm_mode {r : Rq} (h : askI r = 0) : (normQ r).mode = r.mode ∧ (normQ r).cr = r.cr ∧ (normQ r).hs = normL r.hs ∧ (normQ r).m = Lk.normL r.m := by
  rw [norm_is h]; exact ⟨rfl, rfl, rfl, rfl⟩
theorem norm_ask {r : Rq} (h : askI r = 0) : askI (normQ r) = 0 :=
  ask_of (by rw [norm_u h]) (norm_o h).1 (norm_fields h) (by rw [norm_cross h, norm_plain h, (norm_mode h).1]; exact (ask_0 h).2.2.2)
theorem norm_again {r : Rq} (h : askI r = 0) : normQ (normQ r) = normQ r := by
  have h2 := norm_ask h
  rw [norm_is h2, norm_u h, (norm_o h).2]
  rw [norm_is h]
  simp only [Lk.norm_norm, norm_norm]
theorem norm_zero {r : Rq} (h : ¬ askI r = 0) : normQ r = Rq.zero := by rw [normQ, if_neg h]
theorem norm_crossQ {r : Rq} (h : askI r = 0) : crossQ (normQ r) = crossQ r := by unfold crossQ; rw [if_pos h, if_pos (norm_ask h), norm_cross h]
theorem norm_plainQ {r : Rq} (h : askI r = 0) : plainQ (normQ r) = plainQ r := by unfold plainQ; rw [if_pos h, if_pos (norm_ask h), norm_plain h]
theorem norm_needsQ {r : Rq} (h : askI r = 0) : needsQ (normQ r) = needsQ r := by unfold needsQ; rw [norm_crossQ h, norm_plainQ h, (norm_mode h).1]
theorem norm_keyQ {r : Rq} (h : askI r = 0) : keyQ (normQ r) = keyQ r := by unfold keyQ; rw [if_pos h, if_pos (norm_ask h), norm_u h]
theorem norm_namesQ {r : Rq} (h : askI r = 0) : namesQ (normQ r) = namesQ r := by unfold namesQ; rw [if_pos h, if_pos (norm_ask h), (norm_mode h).2.2.1, safeNames_norm]
theorem norm_wantQ {r : Rq} (h : askI r = 0) : wantQ (normQ r) = wantQ r := by
  unfold wantQ
  rw [if_pos h, if_pos (norm_ask h), norm_again h, (norm_mode h).2.1, (norm_mode h).2.2.1, safeNames_norm]

/-! what two want -/
theorem com_parts : ∀ l : List (List UInt8), l ≠ [] → (∀ x ∈ l, ∀ b ∈ x, b ≠ 44) → parts 44 (comL l) = l
  | [], h, _ => absurd rfl h
  | [x], _, h => by rw [comL, parts_none 44 x (h x (by simp))]
  | x :: y :: r, _, h => by
    rw [comL, parts_at 44 x _ (h x (by simp)), com_parts (y :: r) (by simp) (fun z hz => h z (List.mem_cons_of_mem _ hz))]
theorem com_inj {a b : List (List UInt8)} (ha : ∀ x ∈ a, (∀ c ∈ x, c ≠ 44) ∧ x ≠ []) (hb : ∀ x ∈ b, (∀ c ∈ x, c ≠ 44) ∧ x ≠ []) (h : comL a = comL b) : a = b := by
  have key : ∀ l : List (List UInt8), (∀ x ∈ l, (∀ c ∈ x, c ≠ 44) ∧ x ≠ []) → comL l = [] → l = [] := by
    intro l hl h0
    cases l with
    | nil => rfl
    | cons x r =>
      have h1 := com_parts (x :: r) (by simp) (fun z hz => (hl z hz).1)
      rw [h0] at h1
      have h2 : parts 44 [] = [[]] := rfl
      rw [h2] at h1
      injection h1 with h3 _
      exact absurd h3.symm (hl x (by simp)).2
  by_cases h1 : a = []
  · rw [h1] at h ⊢; exact (key b hb h.symm).symm
  by_cases h2 : b = []
  · rw [h2] at h ⊢; exact key a ha h
  rw [← com_parts a h1 (fun z hz => (ha z hz).1), ← com_parts b h2 (fun z hz => (hb z hz).1), h]
theorem tok_plain {l : List UInt8} (h : Lk.tokL l = true) : (∀ c ∈ l, c ≠ 44) ∧ l ≠ [] := by
  constructor
  · intro c hc e
    subst e
    unfold Lk.tokL at h
    simp only [Bool.and_eq_true, List.all_eq_true] at h
    exact absurd (h.1 44 hc) (by decide)
  · rintro rfl; exact absurd h (by decide)
theorem names_plain {r : Rq} (h : askI r = 0) : ∀ x ∈ safeNames r.hs, (∀ c ∈ x, c ≠ 44) ∧ x ≠ [] := by
  intro x hx
  have hc := (fields_0 (ask_0 h).2.2.1).2.2.1
  obtain ⟨g, hg, rfl⟩ := (names_mem r.hs x).1 (safeNames_lows hx)
  unfold checkH at hc
  split at hc
  · simp at hc
  split at hc
  · rename_i h2
    have h3 := List.all_eq_true.1 h2 g hg
    unfold okH nameOk at h3
    simp only [Bool.and_eq_true] at h3
    exact tok_plain (by rw [Lk.tokL_lower]; exact h3.1.2)
  · simp at hc
/-- two that may be want the same just if all parts are the same -/
theorem want_same {r q : Rq} (hr : askI r = 0) (hq : askI q = 0) : wantQ r = wantQ q ↔ ((normQ r).o = (normQ q).o ∧ (normQ r).u = (normQ q).u ∧ r.cr = q.cr ∧ (normQ r).m = (normQ q).m ∧ safeNames r.hs = safeNames q.hs) := by
  unfold wantQ
  rw [if_pos hr, if_pos hq]
  constructor
  · intro h
    injection h with h1 h2 h3 h4 h5
    exact ⟨h1, h2, h3, h4, com_inj (names_plain hr) (names_plain hq) h5⟩
  · rintro ⟨h1, h2, h3, h4, h5⟩
    rw [h1, h2, h3, h4, h5]
theorem key_same {r q : Rq} (hr : askI r = 0) (hq : askI q = 0) (h : (normQ r).u = (normQ q).u) : keyQ r = keyQ q := by
  have h1 := norm_u hr
  have h2 := norm_u hq
  rw [h, h2] at h1
  injection h1 with h3 _
  unfold keyQ
  rw [if_pos hr, if_pos hq, h3]
end Go.Proofs.YtlkneapidmdpbaaGreatDoor

namespace Go.Proofs.YtlkneapidmdpbaaGreatDoor
open Go.RowKit

/-- the library's variables and the tables of methods -/
structure Env8 (w : World) : Prop where
  e : Env w
  m : MEnv w
theorem Env8.below {w w' : World} (h : Env8 w) (hb : Below w.heap.size w w') : Env8 w' := ⟨h.e.below hb, h.m.below hb⟩

/-- no cell of block g is frozen -/
def OwnB (W : World) (g : Nat) : Prop := ∀ i, W.frozen? ⟨g, i, none⟩ = false
theorem OwnB.below {W W' : World} {g B : Nat} (o : OwnB W g) (hb : Below B W W') (hg : g < B) : OwnB W' g := fun i => (hb.frozen hg).trans (o i)
theorem OwnB.new (w : World) (cs : Array Value) (t : TypeId) : OwnB (w.alloc (.cells cs t)) w.heap.size := fun i => by simp
theorem OwnB.set {W : World} {g : Nat} (o : OwnB W g) (a : Addr) (v : Value) : OwnB (W.setCell a v) g := fun i => by rw [World.frozen?_setCell]; exact o i

/-- a request as a value -/
structure Rv where
  m : ByteArray
  u : ByteArray
  o : ByteArray
  mode : Int
  cr : Bool
  A : Option Addr
  n : Nat
  c : Nat
  xs : List (ByteArray × ByteArray)
  cl : Int
  tm : Int
  gr : Int
  sg : Int
def Rv.v (r : Rv) : Value := .agg #[.string r.m, .string r.u, .string r.o, .int .i64 r.mode, .bool r.cr, .slice r.A r.n r.c, .int .i64 r.cl, .int .u64 r.tm, .int .i64 r.gr, .int .i64 r.sg]
def Rv.q (r : Rv) : Rq := ⟨r.m.data.toList, r.u.data.toList, r.o.data.toList, r.mode, r.cr, r.xs.map hd, r.cl, r.tm, r.gr, r.sg⟩
def Rv.zero : Rv := ⟨⟨#[]⟩, ⟨#[]⟩, ⟨#[]⟩, 0, false, none, 0, 0, [], 0, 0, 0, 0⟩
theorem Rv.zero_q : Rv.zero.q = Rq.zero := rfl
/-- its headers lie where it says, and are not too many; its texts are such as any -/
structure RqOk (w : World) (r : Rv) : Prop where
  row : PRow w w.heap.size r.A r.xs
  len : r.n = r.xs.length
  sm : Sm (r.xs.map hd)
  hm : r.m.size ≤ maxLen
  hu : r.u.size ≤ maxLen
  ho : r.o.size ≤ maxLen
theorem RqOk.below {w w' : World} {r : Rv} (h : RqOk w r) (hb : Below w.heap.size w w') : RqOk w' r := ⟨(h.row.below hb).mono hb.size, h.len, h.sm, h.hm, h.hu, h.ho⟩
theorem RqOk.zero (w : World) : RqOk w Rv.zero := ⟨PRow.nil _ _ _, rfl, ⟨by simp [Rv.zero], by simp [Rv.zero]⟩, by decide, by decide, by decide⟩
/-- its parts as a value -/
structure Pv where
  a : ByteArray
  b : ByteArray
  n : Int
  c : ByteArray
  d : ByteArray
  s : ByteArray
  h : ByteArray
  k : Int
  N : Option Addr
  nn : Nat
  cn : Nat
  x : Bool
  y : Bool
def Pv.v (p : Pv) : Value := .agg #[.string p.a, .string p.b, .int .i64 p.n, .string p.c, .string p.d, .string p.s, .string p.h, .int .i64 p.k, .slice p.N p.nn p.cn, .bool p.x, .bool p.y]
def Pv.zero : Pv := ⟨⟨#[]⟩, ⟨#[]⟩, 0, ⟨#[]⟩, ⟨#[]⟩, ⟨#[]⟩, ⟨#[]⟩, 0, none, 0, 0, false, false⟩
structure PvIs (q : Rq) (p : Pv) : Prop where
  url : urlOf p.a p.b p.n p.c p.d = urlQ q
  org : (p.s.data.toList, p.h.data.toList, p.k) = fromQ q
  x : p.x = crossQ q
  y : p.y = plainQ q
  hb : p.b.size ≤ 512
  hc : p.c.size ≤ 512
  hd : p.d.size ≤ 512
  hh : p.h.size ≤ 512
theorem PvIs.zero {q : Rq} (h : ¬ askI q = 0) : PvIs q Pv.zero :=
  ⟨by rw [urlQ, if_neg h]; rfl, by rw [fromQ, if_neg h]; rfl, by rw [crossQ, if_neg h]; rfl, by rw [plainQ, if_neg h]; rfl, by decide, by decide, by decide, by decide⟩
/-- what a preflight wants, as a value -/
structure Wv where
  o : ByteArray
  u : ByteArray
  cr : Bool
  m : ByteArray
  n : ByteArray
def Wv.v (z : Wv) : Value := .agg #[.string z.o, .string z.u, .bool z.cr, .string z.m, .string z.n]
def Wv.zero : Wv := ⟨⟨#[]⟩, ⟨#[]⟩, false, ⟨#[]⟩, ⟨#[]⟩⟩
def wvOf (w : Wq) : Wv := ⟨mk w.o, mk w.u, w.cr, mk w.m, mk w.n⟩

structure RqAt (W : World) (g : Nat) (r : Rv) : Prop where
  c0 : W.cell? ⟨g, 0, none⟩ = some (.string r.m)
  c1 : W.cell? ⟨g, 1, none⟩ = some (.string r.u)
  c2 : W.cell? ⟨g, 2, none⟩ = some (.string r.o)
  c3 : W.cell? ⟨g, 3, none⟩ = some (.int .i64 r.mode)
  c4 : W.cell? ⟨g, 4, none⟩ = some (.bool r.cr)
  c5 : W.cell? ⟨g, 5, none⟩ = some (.slice r.A r.n r.c)
  c6 : W.cell? ⟨g, 6, none⟩ = some (.int .i64 r.cl)
  c7 : W.cell? ⟨g, 7, none⟩ = some (.int .u64 r.tm)
  c8 : W.cell? ⟨g, 8, none⟩ = some (.int .i64 r.gr)
  c9 : W.cell? ⟨g, 9, none⟩ = some (.int .i64 r.sg)
theorem RqAt.below {W W' : World} {g B : Nat} {r : Rv} (o : RqAt W g r) (hb : Below B W W') (hg : g < B) : RqAt W' g r :=
  ⟨(hb.cell hg).trans o.c0, (hb.cell hg).trans o.c1, (hb.cell hg).trans o.c2, (hb.cell hg).trans o.c3, (hb.cell hg).trans o.c4, (hb.cell hg).trans o.c5, (hb.cell hg).trans o.c6, (hb.cell hg).trans o.c7, (hb.cell hg).trans o.c8, (hb.cell hg).trans o.c9⟩
theorem RqAt.new (w : World) (r : Rv) (t : TypeId) : RqAt (w.alloc (.cells #[.string r.m, .string r.u, .string r.o, .int .i64 r.mode, .bool r.cr, .slice r.A r.n r.c, .int .i64 r.cl, .int .u64 r.tm, .int .i64 r.gr, .int .i64 r.sg] t)) w.heap.size r := ⟨by simp, by simp, by simp, by simp, by simp, by simp, by simp, by simp, by simp, by simp⟩
theorem RqAt.lt {W : World} {g : Nat} {r : Rv} (o : RqAt W g r) : g < W.heap.size := block_of_cell o.c0
theorem RqAt.other {W : World} {g g' j : Nat} {r : Rv} {v : Value} (o : RqAt W g r) (hg : g ≠ g') : RqAt (W.setCell ⟨g', j, none⟩ v) g r :=
  ⟨(cell_other hg).trans o.c0, (cell_other hg).trans o.c1, (cell_other hg).trans o.c2, (cell_other hg).trans o.c3, (cell_other hg).trans o.c4, (cell_other hg).trans o.c5, (cell_other hg).trans o.c6, (cell_other hg).trans o.c7, (cell_other hg).trans o.c8, (cell_other hg).trans o.c9⟩
def RqAt.put (W : World) (g : Nat) (r : Rv) : World :=
  ((((((((((W.setCell ⟨g, 0, none⟩ (.string r.m)).setCell ⟨g, 1, none⟩ (.string r.u)).setCell ⟨g, 2, none⟩ (.string r.o)).setCell ⟨g, 3, none⟩ (.int .i64 r.mode)).setCell ⟨g, 4, none⟩ (.bool r.cr)).setCell ⟨g, 5, none⟩ (.slice r.A r.n r.c)).setCell ⟨g, 6, none⟩ (.int .i64 r.cl)).setCell ⟨g, 7, none⟩ (.int .u64 r.tm)).setCell ⟨g, 8, none⟩ (.int .i64 r.gr)).setCell ⟨g, 9, none⟩ (.int .i64 r.sg))
theorem RqAt.put_at {W : World} {g : Nat} {z : Rv} (o : RqAt W g z) (r : Rv) : RqAt (RqAt.put W g r) g r := by
  obtain ⟨c0, c1, c2, c3, c4, c5, c6, c7, c8, c9⟩ := o
  have d0 := c0
  have d1 := cell_keep (v := .string r.m) (c1) (j := 0) (by decide)
  have d2 := cell_keep (v := .string r.u) (cell_keep (v := .string r.m) (c2) (j := 0) (by decide)) (j := 1) (by decide)
  have d3 := cell_keep (v := .string r.o) (cell_keep (v := .string r.u) (cell_keep (v := .string r.m) (c3) (j := 0) (by decide)) (j := 1) (by decide)) (j := 2) (by decide)
  have d4 := cell_keep (v := .int .i64 r.mode) (cell_keep (v := .string r.o) (cell_keep (v := .string r.u) (cell_keep (v := .string r.m) (c4) (j := 0) (by decide)) (j := 1) (by decide)) (j := 2) (by decide)) (j := 3) (by decide)
  have d5 := cell_keep (v := .bool r.cr) (cell_keep (v := .int .i64 r.mode) (cell_keep (v := .string r.o) (cell_keep (v := .string r.u) (cell_keep (v := .string r.m) (c5) (j := 0) (by decide)) (j := 1) (by decide)) (j := 2) (by decide)) (j := 3) (by decide)) (j := 4) (by decide)
  have d6 := cell_keep (v := .slice r.A r.n r.c) (cell_keep (v := .bool r.cr) (cell_keep (v := .int .i64 r.mode) (cell_keep (v := .string r.o) (cell_keep (v := .string r.u) (cell_keep (v := .string r.m) (c6) (j := 0) (by decide)) (j := 1) (by decide)) (j := 2) (by decide)) (j := 3) (by decide)) (j := 4) (by decide)) (j := 5) (by decide)
  have d7 := cell_keep (v := .int .i64 r.cl) (cell_keep (v := .slice r.A r.n r.c) (cell_keep (v := .bool r.cr) (cell_keep (v := .int .i64 r.mode) (cell_keep (v := .string r.o) (cell_keep (v := .string r.u) (cell_keep (v := .string r.m) (c7) (j := 0) (by decide)) (j := 1) (by decide)) (j := 2) (by decide)) (j := 3) (by decide)) (j := 4) (by decide)) (j := 5) (by decide)) (j := 6) (by decide)
  have d8 := cell_keep (v := .int .u64 r.tm) (cell_keep (v := .int .i64 r.cl) (cell_keep (v := .slice r.A r.n r.c) (cell_keep (v := .bool r.cr) (cell_keep (v := .int .i64 r.mode) (cell_keep (v := .string r.o) (cell_keep (v := .string r.u) (cell_keep (v := .string r.m) (c8) (j := 0) (by decide)) (j := 1) (by decide)) (j := 2) (by decide)) (j := 3) (by decide)) (j := 4) (by decide)) (j := 5) (by decide)) (j := 6) (by decide)) (j := 7) (by decide)
  have d9 := cell_keep (v := .int .i64 r.gr) (cell_keep (v := .int .u64 r.tm) (cell_keep (v := .int .i64 r.cl) (cell_keep (v := .slice r.A r.n r.c) (cell_keep (v := .bool r.cr) (cell_keep (v := .int .i64 r.mode) (cell_keep (v := .string r.o) (cell_keep (v := .string r.u) (cell_keep (v := .string r.m) (c9) (j := 0) (by decide)) (j := 1) (by decide)) (j := 2) (by decide)) (j := 3) (by decide)) (j := 4) (by decide)) (j := 5) (by decide)) (j := 6) (by decide)) (j := 7) (by decide)) (j := 8) (by decide)
  refine ⟨?_, ?_, ?_, ?_, ?_, ?_, ?_, ?_, ?_, ?_⟩
  · exact cell_keep (cell_keep (cell_keep (cell_keep (cell_keep (cell_keep (cell_keep (cell_keep (cell_keep (World.cell?_setCell_same _ _ _ d0) (by decide)) (by decide)) (by decide)) (by decide)) (by decide)) (by decide)) (by decide)) (by decide)) (by decide)
  · exact cell_keep (cell_keep (cell_keep (cell_keep (cell_keep (cell_keep (cell_keep (cell_keep (World.cell?_setCell_same _ _ _ d1) (by decide)) (by decide)) (by decide)) (by decide)) (by decide)) (by decide)) (by decide)) (by decide)
  · exact cell_keep (cell_keep (cell_keep (cell_keep (cell_keep (cell_keep (cell_keep (World.cell?_setCell_same _ _ _ d2) (by decide)) (by decide)) (by decide)) (by decide)) (by decide)) (by decide)) (by decide)
  · exact cell_keep (cell_keep (cell_keep (cell_keep (cell_keep (cell_keep (World.cell?_setCell_same _ _ _ d3) (by decide)) (by decide)) (by decide)) (by decide)) (by decide)) (by decide)
  · exact cell_keep (cell_keep (cell_keep (cell_keep (cell_keep (World.cell?_setCell_same _ _ _ d4) (by decide)) (by decide)) (by decide)) (by decide)) (by decide)
  · exact cell_keep (cell_keep (cell_keep (cell_keep (World.cell?_setCell_same _ _ _ d5) (by decide)) (by decide)) (by decide)) (by decide)
  · exact cell_keep (cell_keep (cell_keep (World.cell?_setCell_same _ _ _ d6) (by decide)) (by decide)) (by decide)
  · exact cell_keep (cell_keep (World.cell?_setCell_same _ _ _ d7) (by decide)) (by decide)
  · exact cell_keep (World.cell?_setCell_same _ _ _ d8) (by decide)
  · exact World.cell?_setCell_same _ _ _ d9
theorem RqAt.put_below {B : Nat} {w W : World} {g : Nat} (h : Below B w W) (hg : B ≤ g) (r : Rv) : Below B w (RqAt.put W g r) :=
  ((((((((((h.setCell hg _).setCell hg _).setCell hg _).setCell hg _).setCell hg _).setCell hg _).setCell hg _).setCell hg _).setCell hg _).setCell hg _)
theorem RqAt.besideRqAt {W : World} {g g' : Nat} {q : Rv} (o : RqAt W g q) (hg : g ≠ g') (r : Rv) : RqAt (RqAt.put W g' r) g q :=
  ((((((((((o.other hg).other hg).other hg).other hg).other hg).other hg).other hg).other hg).other hg).other hg)
structure PtAt (W : World) (g : Nat) (p : Pv) : Prop where
  c0 : W.cell? ⟨g, 0, none⟩ = some (.string p.a)
  c1 : W.cell? ⟨g, 1, none⟩ = some (.string p.b)
  c2 : W.cell? ⟨g, 2, none⟩ = some (.int .i64 p.n)
  c3 : W.cell? ⟨g, 3, none⟩ = some (.string p.c)
  c4 : W.cell? ⟨g, 4, none⟩ = some (.string p.d)
  c5 : W.cell? ⟨g, 5, none⟩ = some (.string p.s)
  c6 : W.cell? ⟨g, 6, none⟩ = some (.string p.h)
  c7 : W.cell? ⟨g, 7, none⟩ = some (.int .i64 p.k)
  c8 : W.cell? ⟨g, 8, none⟩ = some (.slice p.N p.nn p.cn)
  c9 : W.cell? ⟨g, 9, none⟩ = some (.bool p.x)
  c10 : W.cell? ⟨g, 10, none⟩ = some (.bool p.y)
theorem PtAt.below {W W' : World} {g B : Nat} {p : Pv} (o : PtAt W g p) (hb : Below B W W') (hg : g < B) : PtAt W' g p :=
  ⟨(hb.cell hg).trans o.c0, (hb.cell hg).trans o.c1, (hb.cell hg).trans o.c2, (hb.cell hg).trans o.c3, (hb.cell hg).trans o.c4, (hb.cell hg).trans o.c5, (hb.cell hg).trans o.c6, (hb.cell hg).trans o.c7, (hb.cell hg).trans o.c8, (hb.cell hg).trans o.c9, (hb.cell hg).trans o.c10⟩
theorem PtAt.new (w : World) (p : Pv) (t : TypeId) : PtAt (w.alloc (.cells #[.string p.a, .string p.b, .int .i64 p.n, .string p.c, .string p.d, .string p.s, .string p.h, .int .i64 p.k, .slice p.N p.nn p.cn, .bool p.x, .bool p.y] t)) w.heap.size p := ⟨by simp, by simp, by simp, by simp, by simp, by simp, by simp, by simp, by simp, by simp, by simp⟩
theorem PtAt.lt {W : World} {g : Nat} {p : Pv} (o : PtAt W g p) : g < W.heap.size := block_of_cell o.c0
theorem PtAt.other {W : World} {g g' j : Nat} {p : Pv} {v : Value} (o : PtAt W g p) (hg : g ≠ g') : PtAt (W.setCell ⟨g', j, none⟩ v) g p :=
  ⟨(cell_other hg).trans o.c0, (cell_other hg).trans o.c1, (cell_other hg).trans o.c2, (cell_other hg).trans o.c3, (cell_other hg).trans o.c4, (cell_other hg).trans o.c5, (cell_other hg).trans o.c6, (cell_other hg).trans o.c7, (cell_other hg).trans o.c8, (cell_other hg).trans o.c9, (cell_other hg).trans o.c10⟩
def PtAt.put (W : World) (g : Nat) (p : Pv) : World :=
  (((((((((((W.setCell ⟨g, 0, none⟩ (.string p.a)).setCell ⟨g, 1, none⟩ (.string p.b)).setCell ⟨g, 2, none⟩ (.int .i64 p.n)).setCell ⟨g, 3, none⟩ (.string p.c)).setCell ⟨g, 4, none⟩ (.string p.d)).setCell ⟨g, 5, none⟩ (.string p.s)).setCell ⟨g, 6, none⟩ (.string p.h)).setCell ⟨g, 7, none⟩ (.int .i64 p.k)).setCell ⟨g, 8, none⟩ (.slice p.N p.nn p.cn)).setCell ⟨g, 9, none⟩ (.bool p.x)).setCell ⟨g, 10, none⟩ (.bool p.y))
theorem PtAt.put_at {W : World} {g : Nat} {z : Pv} (o : PtAt W g z) (p : Pv) : PtAt (PtAt.put W g p) g p := by
  obtain ⟨c0, c1, c2, c3, c4, c5, c6, c7, c8, c9, c10⟩ := o
  have d0 := c0
  have d1 := cell_keep (v := .string p.a) (c1) (j := 0) (by decide)
  have d2 := cell_keep (v := .string p.b) (cell_keep (v := .string p.a) (c2) (j := 0) (by decide)) (j := 1) (by decide)
  have d3 := cell_keep (v := .int .i64 p.n) (cell_keep (v := .string p.b) (cell_keep (v := .string p.a) (c3) (j := 0) (by decide)) (j := 1) (by decide)) (j := 2) (by decide)
  have d4 := cell_keep (v := .string p.c) (cell_keep (v := .int .i64 p.n) (cell_keep (v := .string p.b) (cell_keep (v := .string p.a) (c4) (j := 0) (by decide)) (j := 1) (by decide)) (j := 2) (by decide)) (j := 3) (by decide)
  have d5 := cell_keep (v := .string p.d) (cell_keep (v := .string p.c) (cell_keep (v := .int .i64 p.n) (cell_keep (v := .string p.b) (cell_keep (v := .string p.a) (c5) (j := 0) (by decide)) (j := 1) (by decide)) (j := 2) (by decide)) (j := 3) (by decide)) (j := 4) (by decide)
  have d6 := cell_keep (v := .string p.s) (cell_keep (v := .string p.d) (cell_keep (v := .string p.c) (cell_keep (v := .int .i64 p.n) (cell_keep (v := .string p.b) (cell_keep (v := .string p.a) (c6) (j := 0) (by decide)) (j := 1) (by decide)) (j := 2) (by decide)) (j := 3) (by decide)) (j := 4) (by decide)) (j := 5) (by decide)
  have d7 := cell_keep (v := .string p.h) (cell_keep (v := .string p.s) (cell_keep (v := .string p.d) (cell_keep (v := .string p.c) (cell_keep (v := .int .i64 p.n) (cell_keep (v := .string p.b) (cell_keep (v := .string p.a) (c7) (j := 0) (by decide)) (j := 1) (by decide)) (j := 2) (by decide)) (j := 3) (by decide)) (j := 4) (by decide)) (j := 5) (by decide)) (j := 6) (by decide)
  have d8 := cell_keep (v := .int .i64 p.k) (cell_keep (v := .string p.h) (cell_keep (v := .string p.s) (cell_keep (v := .string p.d) (cell_keep (v := .string p.c) (cell_keep (v := .int .i64 p.n) (cell_keep (v := .string p.b) (cell_keep (v := .string p.a) (c8) (j := 0) (by decide)) (j := 1) (by decide)) (j := 2) (by decide)) (j := 3) (by decide)) (j := 4) (by decide)) (j := 5) (by decide)) (j := 6) (by decide)) (j := 7) (by decide)
  have d9 := cell_keep (v := .slice p.N p.nn p.cn) (cell_keep (v := .int .i64 p.k) (cell_keep (v := .string p.h) (cell_keep (v := .string p.s) (cell_keep (v := .string p.d) (cell_keep (v := .string p.c) (cell_keep (v := .int .i64 p.n) (cell_keep (v := .string p.b) (cell_keep (v := .string p.a) (c9) (j := 0) (by decide)) (j := 1) (by decide)) (j := 2) (by decide)) (j := 3) (by decide)) (j := 4) (by decide)) (j := 5) (by decide)) (j := 6) (by decide)) (j := 7) (by decide)) (j := 8) (by decide)
  have d10 := cell_keep (v := .bool p.x) (cell_keep (v := .slice p.N p.nn p.cn) (cell_keep (v := .int .i64 p.k) (cell_keep (v := .string p.h) (cell_keep (v := .string p.s) (cell_keep (v := .string p.d) (cell_keep (v := .string p.c) (cell_keep (v := .int .i64 p.n) (cell_keep (v := .string p.b) (cell_keep (v := .string p.a) (c10) (j := 0) (by decide)) (j := 1) (by decide)) (j := 2) (by decide)) (j := 3) (by decide)) (j := 4) (by decide)) (j := 5) (by decide)) (j := 6) (by decide)) (j := 7) (by decide)) (j := 8) (by decide)) (j := 9) (by decide)
  refine ⟨?_, ?_, ?_, ?_, ?_, ?_, ?_, ?_, ?_, ?_, ?_⟩
  · exact cell_keep (cell_keep (cell_keep (cell_keep (cell_keep (cell_keep (cell_keep (cell_keep (cell_keep (cell_keep (World.cell?_setCell_same _ _ _ d0) (by decide)) (by decide)) (by decide)) (by decide)) (by decide)) (by decide)) (by decide)) (by decide)) (by decide)) (by decide)
  · exact cell_keep (cell_keep (cell_keep (cell_keep (cell_keep (cell_keep (cell_keep (cell_keep (cell_keep (World.cell?_setCell_same _ _ _ d1) (by decide)) (by decide)) (by decide)) (by decide)) (by decide)) (by decide)) (by decide)) (by decide)) (by decide)
  · exact cell_keep (cell_keep (cell_keep (cell_keep (cell_keep (cell_keep (cell_keep (cell_keep (World.cell?_setCell_same _ _ _ d2) (by decide)) (by decide)) (by decide)) (by decide)) (by decide)) (by decide)) (by decide)) (by decide)
  · exact cell_keep (cell_keep (cell_keep (cell_keep (cell_keep (cell_keep (cell_keep (World.cell?_setCell_same _ _ _ d3) (by decide)) (by decide)) (by decide)) (by decide)) (by decide)) (by decide)) (by decide)
  · exact cell_keep (cell_keep (cell_keep (cell_keep (cell_keep (cell_keep (World.cell?_setCell_same _ _ _ d4) (by decide)) (by decide)) (by decide)) (by decide)) (by decide)) (by decide)
  · exact cell_keep (cell_keep (cell_keep (cell_keep (cell_keep (World.cell?_setCell_same _ _ _ d5) (by decide)) (by decide)) (by decide)) (by decide)) (by decide)
  · exact cell_keep (cell_keep (cell_keep (cell_keep (World.cell?_setCell_same _ _ _ d6) (by decide)) (by decide)) (by decide)) (by decide)
  · exact cell_keep (cell_keep (cell_keep (World.cell?_setCell_same _ _ _ d7) (by decide)) (by decide)) (by decide)
  · exact cell_keep (cell_keep (World.cell?_setCell_same _ _ _ d8) (by decide)) (by decide)
  · exact cell_keep (World.cell?_setCell_same _ _ _ d9) (by decide)
  · exact World.cell?_setCell_same _ _ _ d10
theorem PtAt.put_below {B : Nat} {w W : World} {g : Nat} (h : Below B w W) (hg : B ≤ g) (p : Pv) : Below B w (PtAt.put W g p) :=
  (((((((((((h.setCell hg _).setCell hg _).setCell hg _).setCell hg _).setCell hg _).setCell hg _).setCell hg _).setCell hg _).setCell hg _).setCell hg _).setCell hg _)
theorem RqAt.besidePtAt {W : World} {g g' : Nat} {q : Rv} (o : RqAt W g q) (hg : g ≠ g') (p : Pv) : RqAt (PtAt.put W g' p) g q :=
  (((((((((((o.other hg).other hg).other hg).other hg).other hg).other hg).other hg).other hg).other hg).other hg).other hg)
theorem PtAt.besidePtAt {W : World} {g g' : Nat} {q : Pv} (o : PtAt W g q) (hg : g ≠ g') (p : Pv) : PtAt (PtAt.put W g' p) g q :=
  (((((((((((o.other hg).other hg).other hg).other hg).other hg).other hg).other hg).other hg).other hg).other hg).other hg)
structure WtAt (W : World) (g : Nat) (z : Wv) : Prop where
  c0 : W.cell? ⟨g, 0, none⟩ = some (.string z.o)
  c1 : W.cell? ⟨g, 1, none⟩ = some (.string z.u)
  c2 : W.cell? ⟨g, 2, none⟩ = some (.bool z.cr)
  c3 : W.cell? ⟨g, 3, none⟩ = some (.string z.m)
  c4 : W.cell? ⟨g, 4, none⟩ = some (.string z.n)
theorem WtAt.below {W W' : World} {g B : Nat} {z : Wv} (o : WtAt W g z) (hb : Below B W W') (hg : g < B) : WtAt W' g z :=
  ⟨(hb.cell hg).trans o.c0, (hb.cell hg).trans o.c1, (hb.cell hg).trans o.c2, (hb.cell hg).trans o.c3, (hb.cell hg).trans o.c4⟩
theorem WtAt.new (w : World) (z : Wv) (t : TypeId) : WtAt (w.alloc (.cells #[.string z.o, .string z.u, .bool z.cr, .string z.m, .string z.n] t)) w.heap.size z := ⟨by simp, by simp, by simp, by simp, by simp⟩
theorem WtAt.lt {W : World} {g : Nat} {z : Wv} (o : WtAt W g z) : g < W.heap.size := block_of_cell o.c0
theorem WtAt.other {W : World} {g g' j : Nat} {z : Wv} {v : Value} (o : WtAt W g z) (hg : g ≠ g') : WtAt (W.setCell ⟨g', j, none⟩ v) g z :=
  ⟨(cell_other hg).trans o.c0, (cell_other hg).trans o.c1, (cell_other hg).trans o.c2, (cell_other hg).trans o.c3, (cell_other hg).trans o.c4⟩
def WtAt.put (W : World) (g : Nat) (z : Wv) : World :=
  (((((W.setCell ⟨g, 0, none⟩ (.string z.o)).setCell ⟨g, 1, none⟩ (.string z.u)).setCell ⟨g, 2, none⟩ (.bool z.cr)).setCell ⟨g, 3, none⟩ (.string z.m)).setCell ⟨g, 4, none⟩ (.string z.n))
theorem WtAt.put_at {W : World} {g : Nat} {z : Wv} (o : WtAt W g z) (z : Wv) : WtAt (WtAt.put W g z) g z := by
  obtain ⟨c0, c1, c2, c3, c4⟩ := o
  have d0 := c0
  have d1 := cell_keep (v := .string z.o) (c1) (j := 0) (by decide)
  have d2 := cell_keep (v := .string z.u) (cell_keep (v := .string z.o) (c2) (j := 0) (by decide)) (j := 1) (by decide)
  have d3 := cell_keep (v := .bool z.cr) (cell_keep (v := .string z.u) (cell_keep (v := .string z.o) (c3) (j := 0) (by decide)) (j := 1) (by decide)) (j := 2) (by decide)
  have d4 := cell_keep (v := .string z.m) (cell_keep (v := .bool z.cr) (cell_keep (v := .string z.u) (cell_keep (v := .string z.o) (c4) (j := 0) (by decide)) (j := 1) (by decide)) (j := 2) (by decide)) (j := 3) (by decide)
  refine ⟨?_, ?_, ?_, ?_, ?_⟩
  · exact cell_keep (cell_keep (cell_keep (cell_keep (World.cell?_setCell_same _ _ _ d0) (by decide)) (by decide)) (by decide)) (by decide)
  · exact cell_keep (cell_keep (cell_keep (World.cell?_setCell_same _ _ _ d1) (by decide)) (by decide)) (by decide)
  · exact cell_keep (cell_keep (World.cell?_setCell_same _ _ _ d2) (by decide)) (by decide)
  · exact cell_keep (World.cell?_setCell_same _ _ _ d3) (by decide)
  · exact World.cell?_setCell_same _ _ _ d4
theorem WtAt.put_below {B : Nat} {w W : World} {g : Nat} (h : Below B w W) (hg : B ≤ g) (z : Wv) : Below B w (WtAt.put W g z) :=
  (((((h.setCell hg _).setCell hg _).setCell hg _).setCell hg _).setCell hg _)
theorem RqAt.besideWtAt {W : World} {g g' : Nat} {q : Rv} (o : RqAt W g q) (hg : g ≠ g') (z : Wv) : RqAt (WtAt.put W g' z) g q :=
  (((((o.other hg).other hg).other hg).other hg).other hg)
theorem PtAt.besideWtAt {W : World} {g g' : Nat} {q : Pv} (o : PtAt W g q) (hg : g ≠ g') (z : Wv) : PtAt (WtAt.put W g' z) g q :=
  (((((o.other hg).other hg).other hg).other hg).other hg)
theorem WtAt.besideWtAt {W : World} {g g' : Nat} {q : Wv} (o : WtAt W g q) (hg : g ≠ g') (z : Wv) : WtAt (WtAt.put W g' z) g q :=
  (((((o.other hg).other hg).other hg).other hg).other hg)
theorem RqAt.set0 {W : World} {g : Nat} {r : Rv} (o : RqAt W g r) (x : ByteArray) : RqAt (W.setCell ⟨g, 0, none⟩ (.string x)) g { r with m := x } :=
  ⟨World.cell?_setCell_same _ _ _ o.c0, cell_keep o.c1 (by decide), cell_keep o.c2 (by decide), cell_keep o.c3 (by decide), cell_keep o.c4 (by decide), cell_keep o.c5 (by decide), cell_keep o.c6 (by decide), cell_keep o.c7 (by decide), cell_keep o.c8 (by decide), cell_keep o.c9 (by decide)⟩
theorem RqAt.set1 {W : World} {g : Nat} {r : Rv} (o : RqAt W g r) (x : ByteArray) : RqAt (W.setCell ⟨g, 1, none⟩ (.string x)) g { r with u := x } :=
  ⟨cell_keep o.c0 (by decide), World.cell?_setCell_same _ _ _ o.c1, cell_keep o.c2 (by decide), cell_keep o.c3 (by decide), cell_keep o.c4 (by decide), cell_keep o.c5 (by decide), cell_keep o.c6 (by decide), cell_keep o.c7 (by decide), cell_keep o.c8 (by decide), cell_keep o.c9 (by decide)⟩
theorem RqAt.set2 {W : World} {g : Nat} {r : Rv} (o : RqAt W g r) (x : ByteArray) : RqAt (W.setCell ⟨g, 2, none⟩ (.string x)) g { r with o := x } :=
  ⟨cell_keep o.c0 (by decide), cell_keep o.c1 (by decide), World.cell?_setCell_same _ _ _ o.c2, cell_keep o.c3 (by decide), cell_keep o.c4 (by decide), cell_keep o.c5 (by decide), cell_keep o.c6 (by decide), cell_keep o.c7 (by decide), cell_keep o.c8 (by decide), cell_keep o.c9 (by decide)⟩
theorem RqAt.set5 {W : World} {g : Nat} {r : Rv} (o : RqAt W g r) (A : Option Addr) (n c : Nat) (xs : List (ByteArray × ByteArray)) : RqAt (W.setCell ⟨g, 5, none⟩ (.slice A n c)) g { r with A := A, n := n, c := c, xs := xs } :=
  ⟨cell_keep o.c0 (by decide), cell_keep o.c1 (by decide), cell_keep o.c2 (by decide), cell_keep o.c3 (by decide), cell_keep o.c4 (by decide), World.cell?_setCell_same _ _ _ o.c5, cell_keep o.c6 (by decide), cell_keep o.c7 (by decide), cell_keep o.c8 (by decide), cell_keep o.c9 (by decide)⟩
theorem OwnB.rq {W : World} {g g' : Nat} (o : OwnB W g) (r : Rv) : OwnB (RqAt.put W g' r) g := ((((((((((o.set _ _).set _ _).set _ _).set _ _).set _ _).set _ _).set _ _).set _ _).set _ _).set _ _)
theorem OwnB.pt {W : World} {g g' : Nat} (o : OwnB W g) (p : Pv) : OwnB (PtAt.put W g' p) g := (((((((((((o.set _ _).set _ _).set _ _).set _ _).set _ _).set _ _).set _ _).set _ _).set _ _).set _ _).set _ _)
theorem OwnB.wt {W : World} {g g' : Nat} (o : OwnB W g) (z : Wv) : OwnB (WtAt.put W g' z) g := (((((o.set _ _).set _ _).set _ _).set _ _).set _ _)
theorem own_set {w : World} {base : Nat} {e : TypeId} {size : Nat} {v : Value} {n : Nat} {xs : List Value} (h : w.ownsRow base e size v n xs) {g j : Nat} {u : Value} (hg : g < base) : (w.setCell ⟨g, j, none⟩ u).ownsRow base e size v n xs := by
  refine ⟨h.1, ?_⟩
  rcases h.2 with hn | ⟨b, cap, cur, hv, hb, hc, rest⟩
  · exact .inl hn
  · exact .inr ⟨b, cap, cur, hv, hb, (Below.heap_setCell _ _ _ _ (by show b ≠ g; omega)).trans hc, rest⟩
theorem own_rq {w : World} {base : Nat} {e : TypeId} {size : Nat} {v : Value} {n : Nat} {xs : List Value} (h : w.ownsRow base e size v n xs) {g : Nat} (hg : g < base) (r : Rv) : (RqAt.put w g r).ownsRow base e size v n xs := (own_set (own_set (own_set (own_set (own_set (own_set (own_set (own_set (own_set (own_set h hg) hg) hg) hg) hg) hg) hg) hg) hg) hg)
theorem own_pt {w : World} {base : Nat} {e : TypeId} {size : Nat} {v : Value} {n : Nat} {xs : List Value} (h : w.ownsRow base e size v n xs) {g : Nat} (hg : g < base) (p : Pv) : (PtAt.put w g p).ownsRow base e size v n xs := (own_set (own_set (own_set (own_set (own_set (own_set (own_set (own_set (own_set (own_set (own_set h hg) hg) hg) hg) hg) hg) hg) hg) hg) hg) hg)
theorem own_wt {w : World} {base : Nat} {e : TypeId} {size : Nat} {v : Value} {n : Nat} {xs : List Value} (h : w.ownsRow base e size v n xs) {g : Nat} (hg : g < base) (z : Wv) : (WtAt.put w g z).ownsRow base e size v n xs := (own_set (own_set (own_set (own_set (own_set h hg) hg) hg) hg) hg)
end Go.Proofs.YtlkneapidmdpbaaGreatDoor

namespace Go.Proofs.YtlkneapidmdpbaaGreatDoor
open Go.RowKit

theorem isMode_any (k : Int) (w : World) : Calls Tryz.prog 152 #[.int .i64 k] w fun e w' => e = .returned (.bool (modeOk k)) ∧ w = w' := by
  by_cases h1 : k = 1
  · subst h1
    go_enter Tryz.func152, Tryz.ntmps152
    go_wp2
    go_ret
    exact ⟨rfl, rfl⟩
  by_cases h2 : k = 2
  · subst h2
    go_enter Tryz.func152, Tryz.ntmps152
    go_wp2
    go_ret
    exact ⟨rfl, rfl⟩
  by_cases h3 : k = 3
  · subst h3
    go_enter Tryz.func152, Tryz.ntmps152
    go_wp2
    go_ret
    exact ⟨rfl, rfl⟩
  have HM : Hid (modeOk k = false) := by show _ = _; unfold modeOk; simp [h1, h2, h3]
  go_enter Tryz.func152, Tryz.ntmps152
  go_wp2
  go_ret
  exact ⟨ret_bool HM.out.symm, rfl⟩

theorem suits_any (p : Pv) (k : Int) (w : World) : Calls Tryz.prog 103 #[p.v, .int .i64 k] w fun e w' => e = .returned (.bool (suitB k p.x p.y)) ∧ Below w.heap.size w w' := by
  unfold Pv.v
  have HB : Hid (Below w.heap.size w (w.alloc (.cells #[.string p.a, .string p.b, .int .i64 p.n, .string p.c, .string p.d, .string p.s, .string p.h, .int .i64 p.k, .slice p.N p.nn p.cn, .bool p.x, .bool p.y] 86))) := (Below.refl _ _).alloc (Nat.le_refl _) _
  by_cases h1 : k = 1
  · subst h1
    go_enter Tryz.func103, Tryz.ntmps103
    go_wp2
    go_ret
    exact ⟨rfl, HB.out⟩
  by_cases h2 : k = 2
  · subst h2
    go_enter Tryz.func103, Tryz.ntmps103
    go_wp2
    go_ret
    exact ⟨rfl, HB.out⟩
  have HM : Hid (suitB k p.x p.y = true) := by show _ = _; unfold suitB; simp [h1, h2]
  go_enter Tryz.func103, Tryz.ntmps103
  go_wp2
  go_ret
  exact ⟨ret_bool HM.out.symm, HB.out⟩

theorem fields_meth {r : Rq} (h : Lk.methI r.m ≠ 0) : fieldsI r = Lk.methI r.m := by unfold fieldsI; rw [if_pos h]
theorem fields_mode {r : Rq} (h0 : Lk.methI r.m = 0) (h : modeOk r.mode = false) : fieldsI r = 7 := by unfold fieldsI; simp [h0, h]
theorem fields_head {r : Rq} (h0 : Lk.methI r.m = 0) (h1 : modeOk r.mode = true) (h : checkH r.hs ≠ 0) : fieldsI r = checkH r.hs := by unfold fieldsI; simp [h0, h1, h]
theorem fields_nums {r : Rq} (h0 : Lk.methI r.m = 0) (h1 : modeOk r.mode = true) (h : checkH r.hs = 0) : fieldsI r = numsI r := by unfold fieldsI; simp [h0, h1, h]

set_option maxHeartbeats 2000000 in
theorem checkFields_any (r : Rv) (w : World) (hr : RqOk w r) (he : Env8 w) :
    Calls Tryz.prog 101 #[r.v] w fun e w' => e = .returned (.int .i64 (fieldsI r.q)) ∧ Below w.heap.size w w' := by
  unfold Rv.v
  obtain ⟨W, hW⟩ : ∃ W, W = w.alloc (Obj.cells #[.string r.m, .string r.u, .string r.o, .int .i64 r.mode, .bool r.cr, .slice r.A r.n r.c, .int .i64 r.cl, .int .u64 r.tm, .int .i64 r.gr, .int .i64 r.sg] 25) := ⟨_, rfl⟩
  have hb0 : Below w.heap.size w W := by rw [hW]; exact (Below.refl _ _).alloc (Nat.le_refl _) _
  have HB0 := Lib.hid hb0
  have HR0 : Hid (RqAt W w.heap.size r) := by rw [hW]; exact RqAt.new w r _
  have HK := Lib.hid hr
  have HE := Lib.hid he
  clear hr he hb0
  go_enter Tryz.func101, Tryz.ntmps101
  go_wp2_with fail
  rw [← hW]
  clear hW
  refine (MCheck_any r.m _ HK.out.hm (HE.out.below HB0.out).m).mono ?_
  rintro e w1 ⟨rfl, n1, hw1⟩
  have hb : Below W.heap.size W w1 := by rw [hw1]; exact below_drewN (Below.refl _ _) _
  have HB1 : Hid (Below w.heap.size w w1) := HB0.out.trans (hb.mono HB0.out.size)
  have HR1 : Hid (RqAt w1 w.heap.size r) := HR0.out.below hb HR0.out.lt
  clear hb hw1
  obtain ⟨k, hk⟩ : ∃ k, k = Lk.methI r.m.data.toList := ⟨_, rfl⟩
  rw [← hk]
  by_cases h0 : k = 0
  case neg =>
    have HF : Hid (fieldsI r.q = k) := by show _ = _; rw [hk] at h0 ⊢; exact fields_meth h0
    clear hk
    go_wp2
    go_ret
    exact ⟨ret_int HF.out.symm, HB1.out⟩
  have H0 : Hid (Lk.methI r.q.m = 0) := by show _ = _; rw [← h0, hk]; rfl
  subst h0
  clear hk
  obtain ⟨r0, r1, r2, r3, r4, r5, r6, r7, r8, r9⟩ := HR1.out
  go_wp2_with fail
  refine (isMode_any r.mode _).mono ?_
  rintro e w' ⟨rfl, rfl⟩
  cases h1 : modeOk r.mode
  case false =>
    have HF : Hid (fieldsI r.q = 7) := fields_mode H0.out h1
    clear h1
    go_wp2
    go_ret
    exact ⟨ret_int HF.out.symm, HB1.out⟩
  have H1 : Hid (modeOk r.q.mode = true) := h1
  clear h1
  go_wp2_with fail
  refine (Check6_any r.A r.n r.c w.heap.size r.xs _ HK.out.len HB1.out.size (HK.out.row.below HB1.out) (by have := HK.out.sm.1; simp at this; unfold maxLen; omega) (fun x hx => by have := HK.out.sm.sizes.2 x hx; unfold maxLen; omega)).mono ?_
  rintro e w2 ⟨rfl, hb⟩
  have HB2 : Hid (Below w.heap.size w w2) := HB1.out.trans (hb.mono HB1.out.size)
  have HR2 : Hid (RqAt w2 w.heap.size r) := HR1.out.below hb HR1.out.lt
  clear hb r0 r1 r2 r3 r4 r5 r6 r7 r8 r9
  obtain ⟨k, hk⟩ : ∃ k, k = checkH (r.xs.map hd) := ⟨_, rfl⟩
  rw [← hk]
  by_cases h0 : k = 0
  case neg =>
    have HF : Hid (fieldsI r.q = k) := by show _ = _; rw [hk] at h0 ⊢; exact fields_head H0.out H1.out h0
    clear hk
    go_wp2
    go_ret
    exact ⟨ret_int HF.out.symm, HB2.out⟩
  have HF : Hid (fieldsI r.q = numsI r.q) := by show _ = _; exact fields_nums H0.out H1.out (by rw [← h0, hk]; rfl)
  subst h0
  clear hk
  have HN : Hid (numsI r.q = if r.cl < 1 ∨ 6 < r.cl then 8 else if 600 < r.tm then 9 else if r.gr < 0 ∨ r.sg < 0 then 2 else 0) := rfl
  obtain ⟨r0, r1, r2, r3, r4, r5, r6, r7, r8, r9⟩ := HR2.out
  by_cases n1 : r.cl < 1
  case pos =>
    have HV : Hid (fieldsI r.q = 8) := by show _ = _; rw [HF.out, HN.out]; simp [n1]
    go_wp2
    go_ret
    exact ⟨ret_int HV.out.symm, HB2.out⟩
  by_cases n2 : 6 < r.cl
  case pos =>
    have HV : Hid (fieldsI r.q = 8) := by show _ = _; rw [HF.out, HN.out]; simp [n1, n2]
    go_wp2
    go_ret
    exact ⟨ret_int HV.out.symm, HB2.out⟩
  by_cases n3 : 600 < r.tm
  case pos =>
    have HV : Hid (fieldsI r.q = 9) := by show _ = _; rw [HF.out, HN.out]; simp [n1, n2, n3]
    go_wp2
    go_ret
    exact ⟨ret_int HV.out.symm, HB2.out⟩
  by_cases n4 : r.gr < 0
  case pos =>
    have HV : Hid (fieldsI r.q = 2) := by show _ = _; rw [HF.out, HN.out]; simp [n1, n2, n3, n4]
    go_wp2
    go_ret
    exact ⟨ret_int HV.out.symm, HB2.out⟩
  by_cases n5 : r.sg < 0
  case pos =>
    have HV : Hid (fieldsI r.q = 2) := by show _ = _; rw [HF.out, HN.out]; simp [n1, n2, n3, n4, n5]
    go_wp2
    go_ret
    exact ⟨ret_int HV.out.symm, HB2.out⟩
  have HV : Hid (fieldsI r.q = 0) := by show _ = _; rw [HF.out, HN.out]; simp [n1, n2, n3, n4, n5]
  go_wp2
  go_ret
  exact ⟨ret_int HV.out.symm, HB2.out⟩
end Go.Proofs.YtlkneapidmdpbaaGreatDoor

namespace Go.Proofs.YtlkneapidmdpbaaGreatDoor
open Go.RowKit

theorem eq_org (a b s h : ByteArray) (n k : Int) (w : World) : (Op.equalIn 10000 82 (.agg #[.string a, .string b, .int .i64 n]) (.agg #[.string s, .string h, .int .i64 k])).run Tryz.prog w = .ok ((a.toList == s.toList) && (b.toList == h.toList) && (n == k)) w := by
  cases h1 : a.toList == s.toList <;> cases h2 : b.toList == h.toList <;> cases h3 : n == k <;> simp [go_sem, h1, h2, h3]
theorem eq_cell (a b s h : ByteArray) (n k : Bool) (w : World) : (Op.equalIn 10000 45 (.agg #[.string a, .string b, .bool n]) (.agg #[.string s, .string h, .bool k])).run Tryz.prog w = .ok ((a.toList == s.toList) && (b.toList == h.toList) && (n == k)) w := by
  cases h1 : a.toList == s.toList <;> cases h2 : b.toList == h.toList <;> cases h3 : n == k <;> simp [go_sem, h1, h2, h3]
theorem neq_org (a b s h : ByteArray) (n k : Int) (w : World) : (binOp .neq 82 (.agg #[.string a, .string b, .int .i64 n]) (.agg #[.string s, .string h, .int .i64 k])).run Tryz.prog w = .ok (.bool (!((a.toList == s.toList) && (b.toList == h.toList) && (n == k)))) w := by
  rw [run_neq_struct, eq_org]; rfl
theorem eql_cell (a b s h : ByteArray) (n k : Bool) (w : World) : (binOp .eql 45 (.agg #[.string a, .string b, .bool n]) (.agg #[.string s, .string h, .bool k])).run Tryz.prog w = .ok (.bool ((a.toList == s.toList) && (b.toList == h.toList) && (n == k))) w := by
  rw [run_eql_struct, eq_cell]; rfl
theorem eql_want (a b : ByteArray) (n : Bool) (c d s h : ByteArray) (k : Bool) (e f : ByteArray) (w : World) : (binOp .eql 52 (.agg #[.string a, .string b, .bool n, .string c, .string d]) (.agg #[.string s, .string h, .bool k, .string e, .string f])).run Tryz.prog w =
    .ok (.bool ((a.toList == s.toList) && (b.toList == h.toList) && (n == k) && (c.toList == e.toList) && (d.toList == f.toList))) w := by
  rw [run_eql_struct]
  cases h1 : a.toList == s.toList <;> cases h2 : b.toList == h.toList <;> cases h3 : n == k <;> cases h4 : c.toList == e.toList <;> cases h5 : d.toList == f.toList <;> simp [go_sem, h1, h2, h3, h4, h5]
end Go.Proofs.YtlkneapidmdpbaaGreatDoor

namespace Go.Proofs.YtlkneapidmdpbaaGreatDoor
open Go.RowKit

theorem org_view (l : List UInt8) : ∃ (s h : ByteArray) (k c : Int), parseV l = .tuple #[.agg #[.string s, .string h, .int .i64 k], .int .i64 c] ∧ (s.data.toList, h.data.toList, k) = orgO l ∧ c = orgI l ∧ h.size ≤ 512 := by
  unfold parseV orgO orgI
  by_cases h : 512 < l.length
  · simp only [h, if_true]
    exact ⟨_, _, _, _, rfl, rfl, rfl, by decide⟩
  · simp only [h, if_false]
    cases hp : parseL l with
    | none => exact ⟨_, _, _, _, rfl, rfl, rfl, by decide⟩
    | some q =>
      obtain ⟨a, b, p⟩ := q
      exact ⟨mk a, mk b, p, 0, rfl, by rw [mk_data, mk_data]; rfl, rfl, by rw [mk_size]; have := host_len (check_parts (parse_check hp)).2.1; omega⟩

/-- what holds all through: the request in the first block, nothing in the second, which is the result's -/
structure RdAt (w W : World) (r : Rv) : Prop where
  bel : Below w.heap.size w W
  env0 : Env8 w
  ok0 : RqOk w r
  req : RqAt W w.heap.size r
  res : PtAt W (w.heap.size + 1) Pv.zero
  own : OwnB W (w.heap.size + 1)
theorem RdAt.env {w W : World} {r : Rv} (h : RdAt w W r) : Env8 W := h.env0.below h.bel
theorem RdAt.ok {w W : World} {r : Rv} (h : RdAt w W r) : RqOk W r := h.ok0.below h.bel
theorem RdAt.next {w W W' : World} {r : Rv} (h : RdAt w W r) (hb : Below W.heap.size W W') : RdAt w W' r :=
  ⟨h.bel.trans (hb.mono h.bel.size), h.env0, h.ok0, h.req.below hb h.req.lt, h.res.below hb h.res.lt, h.own.below hb h.res.lt⟩
theorem RdAt.alloc {w W : World} {r : Rv} (h : RdAt w W r) (o : Obj) : RdAt w (W.alloc o) r := h.next ((Below.refl _ _).alloc (Nat.le_refl _) o)
theorem RdAt.new {w : World} {r : Rv} (he : Env8 w) (hr : RqOk w r) (t t' : TypeId) : RdAt w ((w.alloc (.cells #[.string r.m, .string r.u, .string r.o, .int .i64 r.mode, .bool r.cr, .slice r.A r.n r.c, .int .i64 r.cl, .int .u64 r.tm, .int .i64 r.gr, .int .i64 r.sg] t)).alloc (.cells #[.string ⟨#[]⟩, .string ⟨#[]⟩, .int .i64 0, .string ⟨#[]⟩, .string ⟨#[]⟩, .string ⟨#[]⟩, .string ⟨#[]⟩, .int .i64 0, .slice none 0 0, .bool false, .bool false] t')) r := by
  have e : (w.alloc (.cells #[.string r.m, .string r.u, .string r.o, .int .i64 r.mode, .bool r.cr, .slice r.A r.n r.c, .int .i64 r.cl, .int .u64 r.tm, .int .i64 r.gr, .int .i64 r.sg] t)).heap.size = w.heap.size + 1 := by simp
  have h1 := RqAt.new w r t
  have h2 := PtAt.new (w.alloc (.cells #[.string r.m, .string r.u, .string r.o, .int .i64 r.mode, .bool r.cr, .slice r.A r.n r.c, .int .i64 r.cl, .int .u64 r.tm, .int .i64 r.gr, .int .i64 r.sg] t)) Pv.zero t'
  have h3 := OwnB.new (w.alloc (.cells #[.string r.m, .string r.u, .string r.o, .int .i64 r.mode, .bool r.cr, .slice r.A r.n r.c, .int .i64 r.cl, .int .u64 r.tm, .int .i64 r.gr, .int .i64 r.sg] t)) #[.string ⟨#[]⟩, .string ⟨#[]⟩, .int .i64 0, .string ⟨#[]⟩, .string ⟨#[]⟩, .string ⟨#[]⟩, .string ⟨#[]⟩, .int .i64 0, .slice none 0 0, .bool false, .bool false] t'
  rw [e] at h2 h3
  exact ⟨((Below.refl _ _).alloc (Nat.le_refl _) _).alloc (by rw [e]; omega) _, he, hr, h1.below ((Below.refl _ _).alloc (Nat.le_refl _) _) h1.lt, h2, h3⟩
/-- what is written elsewhere -/
theorem RdAt.put {w W : World} {r : Rv} (h : RdAt w W r) {g : Nat} (hg : w.heap.size + 1 < g) (p : Pv) : RdAt w (PtAt.put W g p) r :=
  ⟨PtAt.put_below h.bel (by omega) p, h.env0, h.ok0, h.req.besidePtAt (by omega) p, h.res.besidePtAt (by omega) p, h.own.pt p⟩
structure Bl3 (W : World) (g4 g6 g1 : Nat) (A B : ByteArray) (n : Int) (C D s h : ByteArray) (k : Int) (r : Rv) : Prop where
  u : UrlAt W g4 A B n C D
  o : OrgAt W g6 s h k
  r : RqAt W g1 r
theorem Bl3.below {W W' : World} {g4 g6 g1 : Nat} {A B : ByteArray} {n : Int} {C D s h : ByteArray} {k : Int} {r : Rv} (o : Bl3 W g4 g6 g1 A B n C D s h k r) (hb : Below W.heap.size W W') : Bl3 W' g4 g6 g1 A B n C D s h k r :=
  ⟨o.u.below hb o.u.lt, o.o.below hb o.o.lt, o.r.below hb o.r.lt⟩
theorem Bl3.put {W : World} {g4 g6 g1 g : Nat} {A B : ByteArray} {n : Int} {C D s h : ByteArray} {k : Int} {r : Rv} (o : Bl3 W g4 g6 g1 A B n C D s h k r) (h4 : g4 ≠ g) (h6 : g6 ≠ g) (h1 : g1 ≠ g) (p : Pv) : Bl3 (PtAt.put W g p) g4 g6 g1 A B n C D s h k r :=
  ⟨(((((((((((o.u.other h4).other h4).other h4).other h4).other h4).other h4).other h4).other h4).other h4).other h4).other h4), (((((((((((o.o.other h6).other h6).other h6).other h6).other h6).other h6).other h6).other h6).other h6).other h6).other h6), o.r.besidePtAt h1 p⟩

theorem ask_url {r : Rq} {k : Int} (h : (tgtL r.u).2 = k) (hk : ¬ k = 0) : askI r = k := by unfold askI; simp [h, hk]
theorem ask_org {r : Rq} {k : Int} (h0 : (tgtL r.u).2 = 0) (h : orgI r.o = k) (hk : ¬ k = 0) : askI r = k := by unfold askI; simp [h0, h, hk]
theorem ask_fld {r : Rq} {k : Int} (h0 : (tgtL r.u).2 = 0) (h1 : orgI r.o = 0) (h : fieldsI r = k) (hk : ¬ k = 0) : askI r = k := by unfold askI; simp [h0, h1, h, hk]
theorem ask_suit {r : Rq} (h0 : (tgtL r.u).2 = 0) (h1 : orgI r.o = 0) (h : fieldsI r = 0) : askI r = if suitB r.mode (crossB r) (plainB r) = true then 0 else 7 := by unfold askI; simp [h0, h1, h]

set_option maxRecDepth 100000 in
set_option maxHeartbeats 8000000 in
theorem read_any (r : Rv) (w : World) (hr : RqOk w r) (he : Env8 w) :
    Calls Tryz.prog 56 #[r.v] w fun e w' => ∃ p : Pv, e = .returned (.tuple #[p.v, .int .i64 (askI r.q)]) ∧ PvIs r.q p ∧ sown w' w.heap.size (.slice p.N p.nn p.cn) (namesQ r.q) ∧ Below w.heap.size w w' := by
  unfold Rv.v
  obtain ⟨A, B, n, C, D, k0, hv, htl, hok, b1, b2, b3⟩ := tgt_view r.u.data.toList
  have HV := Lib.hid hv
  have HTC : Hid ((tgtL r.q.u).2 = k0) := by show (tgtL r.u.data.toList).2 = _; rw [htl]
  have HTU : Hid ((tgtL r.q.u).1 = urlOf A B n C D) := by show (tgtL r.u.data.toList).1 = _; rw [htl]
  obtain ⟨W, hW⟩ : ∃ W, W = (w.alloc (Obj.cells #[.string r.m, .string r.u, .string r.o, .int .i64 r.mode, .bool r.cr, .slice r.A r.n r.c, .int .i64 r.cl, .int .u64 r.tm, .int .i64 r.gr, .int .i64 r.sg] 25)).alloc (Obj.cells #[.string ⟨#[]⟩, .string ⟨#[]⟩, .int .i64 0, .string ⟨#[]⟩, .string ⟨#[]⟩, .string ⟨#[]⟩, .string ⟨#[]⟩, .int .i64 0, .slice none 0 0, .bool false, .bool false] 86) := ⟨_, rfl⟩
  have HP0 : Hid (RdAt w W r) := by rw [hW]; exact RdAt.new he hr _ _
  have HK := Lib.hid hr
  clear hv htl hok hr he
  go_enter Tryz.func56, Tryz.ntmps56
  go_wp2_with fail
  rw [← hW]
  clear hW
  refine (tParse_any r.u _ HK.out.hu HP0.out.env.e).mono ?_
  rintro e w1 ⟨rfl, hb⟩
  rw [HV.out]
  have HP1 : Hid (RdAt w w1 r) := HP0.out.next hb
  clear hb HV HP0
  have HP2 := Lib.hid (HP1.out.alloc (.cells #[.string A, .string B, .int .i64 n, .string C, .string D] 84))
  have HU2 := Lib.hid (UrlAt.new w1 A B n C D 84)
  by_cases hk : k0 = 0
  case neg =>
    have HA : Hid (askI r.q = k0) := ask_url HTC.out hk
    obtain ⟨c0, c1, c2, c3, c4, c5, c6, c7, c8, c9, c10⟩ := HP2.out.res
    have ff := HP2.out.own
    unfold OwnB at ff
    go_wp2
    obtain ⟨q0, q1, q2, q3, q4, q5, q6, q7, q8, q9, q10⟩ := HP2.out.res.put_at Pv.zero
    dsimp only [PtAt.put, Pv.zero] at q0 q1 q2 q3 q4 q5 q6 q7 q8 q9 q10
    refine bodyPost_ret (v := .tuple #[.agg #[.string ⟨#[]⟩, .string ⟨#[]⟩, .int .i64 0, .string ⟨#[]⟩, .string ⟨#[]⟩, .string ⟨#[]⟩, .string ⟨#[]⟩, .int .i64 0, .slice none 0 0, .bool false, .bool false], .int .i64 k0]) (by simp [results, Tryz.results56, go_sem, q0, q1, q2, q3, q4, q5, q6, q7, q8, q9, q10]) rfl ?_
    exact ⟨Pv.zero, by rw [HA.out]; rfl, PvIs.zero (by rw [HA.out]; exact hk), by rw [namesQ, if_neg (by rw [HA.out]; exact hk)]; exact World.ownsRow_nil _ _ _ _, PtAt.put_below HP2.out.bel (Nat.le_succ _) Pv.zero⟩
  subst hk
  obtain ⟨s, h, k, c, hv, hor, hoc, b4⟩ := org_view r.o.data.toList
  have HV := Lib.hid hv
  have HOO := Lib.hid hor
  have HOC := Lib.hid hoc
  clear hv hor hoc
  obtain ⟨r0, r1, r2, r3, r4, r5, r6, r7, r8, r9⟩ := HP2.out.req
  go_wp2_with fail
  refine (Parse_any r.o _ HK.out.ho HP2.out.env.e).mono ?_
  rintro e w3 ⟨rfl, hb⟩
  rw [HV.out]
  obtain ⟨g4, hg4⟩ : ∃ g, g = w1.heap.size := ⟨_, rfl⟩
  have HP3 : Hid (RdAt w w3 r) := HP2.out.next hb
  have HU3 : Hid (UrlAt w3 g4 A B n C D) := by rw [hg4]; exact HU2.out.below hb HU2.out.lt
  rw [← hg4]
  clear hb hg4 HP2 HU2 HV HP1 r0 r1 r2 r3 r4 r5 r6 r7 r8 r9
  have HP4 := Lib.hid (HP3.out.alloc (.cells #[.string s, .string h, .int .i64 k] 82))
  have HU4 := Lib.hid (HU3.out.alloc (.cells #[.string s, .string h, .int .i64 k] 82))
  have HO4 := Lib.hid (OrgAt.new w3 s h k 82)
  by_cases hk : c = 0
  case neg =>
    have HA : Hid (askI r.q = c) := ask_org HTC.out HOC.out.symm hk
    obtain ⟨c0, c1, c2, c3, c4, c5, c6, c7, c8, c9, c10⟩ := HP4.out.res
    have ff := HP4.out.own
    unfold OwnB at ff
    go_wp2
    obtain ⟨q0, q1, q2, q3, q4, q5, q6, q7, q8, q9, q10⟩ := HP4.out.res.put_at Pv.zero
    dsimp only [PtAt.put, Pv.zero] at q0 q1 q2 q3 q4 q5 q6 q7 q8 q9 q10
    refine bodyPost_ret (v := .tuple #[.agg #[.string ⟨#[]⟩, .string ⟨#[]⟩, .int .i64 0, .string ⟨#[]⟩, .string ⟨#[]⟩, .string ⟨#[]⟩, .string ⟨#[]⟩, .int .i64 0, .slice none 0 0, .bool false, .bool false], .int .i64 c]) (by simp [results, Tryz.results56, go_sem, q0, q1, q2, q3, q4, q5, q6, q7, q8, q9, q10]) rfl ?_
    exact ⟨Pv.zero, by rw [HA.out]; rfl, PvIs.zero (by rw [HA.out]; exact hk), by rw [namesQ, if_neg (by rw [HA.out]; exact hk)]; exact World.ownsRow_nil _ _ _ _, PtAt.put_below HP4.out.bel (Nat.le_succ _) Pv.zero⟩
  subst hk
  obtain ⟨r0, r1, r2, r3, r4, r5, r6, r7, r8, r9⟩ := HP4.out.req
  go_wp2_with fail
  refine (checkFields_any r _ HP4.out.ok HP4.out.env).mono ?_
  rintro e w5 ⟨rfl, hb⟩
  obtain ⟨g6, hg6⟩ : ∃ g, g = w3.heap.size := ⟨_, rfl⟩
  have HP5 : Hid (RdAt w w5 r) := HP4.out.next hb
  have HU5 : Hid (UrlAt w5 g4 A B n C D) := HU4.out.below hb HU4.out.lt
  have HO5 : Hid (OrgAt w5 g6 s h k) := by rw [hg6]; exact HO4.out.below hb HO4.out.lt
  rw [← hg6]
  clear hb hg6 HP4 HU4 HO4 HP3 HU3 r0 r1 r2 r3 r4 r5 r6 r7 r8 r9
  obtain ⟨fi, hfi⟩ : ∃ k, k = fieldsI r.q := ⟨_, rfl⟩
  rw [← hfi]
  have HFI := Lib.hid hfi
  clear hfi
  by_cases hk : fi = 0
  case neg =>
    have HA : Hid (askI r.q = fi) := ask_fld HTC.out HOC.out.symm HFI.out.symm hk
    obtain ⟨c0, c1, c2, c3, c4, c5, c6, c7, c8, c9, c10⟩ := HP5.out.res
    have ff := HP5.out.own
    unfold OwnB at ff
    go_wp2
    obtain ⟨q0, q1, q2, q3, q4, q5, q6, q7, q8, q9, q10⟩ := HP5.out.res.put_at Pv.zero
    dsimp only [PtAt.put, Pv.zero] at q0 q1 q2 q3 q4 q5 q6 q7 q8 q9 q10
    refine bodyPost_ret (v := .tuple #[.agg #[.string ⟨#[]⟩, .string ⟨#[]⟩, .int .i64 0, .string ⟨#[]⟩, .string ⟨#[]⟩, .string ⟨#[]⟩, .string ⟨#[]⟩, .int .i64 0, .slice none 0 0, .bool false, .bool false], .int .i64 fi]) (by simp [results, Tryz.results56, go_sem, q0, q1, q2, q3, q4, q5, q6, q7, q8, q9, q10]) rfl ?_
    exact ⟨Pv.zero, by rw [HA.out]; rfl, PvIs.zero (by rw [HA.out]; exact hk), by rw [namesQ, if_neg (by rw [HA.out]; exact hk)]; exact World.ownsRow_nil _ _ _ _, PtAt.put_below HP5.out.bel (Nat.le_succ _) Pv.zero⟩
  subst hk
  obtain ⟨r0, r1, r2, r3, r4, r5, r6, r7, r8, r9⟩ := HP5.out.req
  go_wp2_with fail
  refine (Names7_any r.A r.n r.c w5.heap.size r.xs _ HK.out.len (Nat.le_refl _) HP5.out.ok.row HK.out.sm).mono ?_
  rintro e w6 ⟨v, rfl, hs, hb⟩
  have HP6 : Hid (RdAt w w6 r) := HP5.out.next hb
  have HU6 : Hid (UrlAt w6 g4 A B n C D) := HU5.out.below hb HU5.out.lt
  have HO6 : Hid (OrgAt w6 g6 s h k) := HO5.out.below hb HO5.out.lt
  clear hb r0 r1 r2 r3 r4 r5 r6 r7 r8 r9
  obtain ⟨N, nn, cn, rfl, hnn, _⟩ := trow_row hs
  have HSO := Lib.hid hs
  have hsz : w.heap.size + 1 < w5.heap.size := HP5.out.res.lt
  have HNN : Hid (nn = (safeNames r.q.hs).length) := by show _ = _; rw [hnn]; simp; rfl
  clear hs hnn HP5 HU5 HO5
  have HB6 : Hid (Bl3 w6 g4 g6 w.heap.size A B n C D s h k r) := ⟨HU6.out, HO6.out, HP6.out.req⟩
  have HASK : Hid (askI r.q = if suitB r.q.mode (crossB r.q) (plainB r.q) = true then 0 else 7) := ask_suit HTC.out HOC.out.symm HFI.out.symm
  obtain ⟨xx, hxx⟩ : ∃ b, b = !((A.toList == s.toList) && (B.toList == h.toList) && (n == k)) := ⟨_, rfl⟩
  have HX : Hid (crossB r.q = xx) := by
    show _ = _
    unfold crossB
    rw [HTU.out, ← show _ = orgO r.q.o from HOO.out, hxx, ByteArray.toList_eq, ByteArray.toList_eq, ByteArray.toList_eq, ByteArray.toList_eq]
    rfl
  have hcmp : ∀ W, (binOp .neq 82 (.agg #[.string A, .string B, .int .i64 n]) (.agg #[.string s, .string h, .int .i64 k])).run Tryz.prog W = .ok (.bool xx) W := fun W => by rw [neq_org, ← hxx]
  clear hxx
  obtain ⟨sf, hsf⟩ : ∃ b, b = Lk.safeL r.m.data.toList := ⟨_, rfl⟩
  have HSF := Lib.hid hsf
  clear hsf
  obtain ⟨nz, hnz⟩ : ∃ b, b = decide (nn = 0) := ⟨_, rfl⟩
  have HPL : Hid (plainB r.q = (sf && nz)) := by show _ = _; unfold plainB; rw [HSF.out, hnz, HNN.out]; rfl
  go_wp2_with fail
  refine mix_start (fun W => Bl3 W g4 g6 w.heap.size A B n C D s h k r) (by kernel_rfl) ?_
  have hne : Nonempty (Held (fun W => Bl3 W g4 g6 w.heap.size A B n C D s h k r)) := ⟨⟨_, HB6.out⟩⟩
  have zu0 : ∀ q : Held (fun W => Bl3 W g4 g6 w.heap.size A B n C D s h k r), q.w.cell? ⟨g4, 0, none⟩ = some (.string A) := fun q => q.h.u.c0
  have zu1 : ∀ q : Held (fun W => Bl3 W g4 g6 w.heap.size A B n C D s h k r), q.w.cell? ⟨g4, 1, none⟩ = some (.string B) := fun q => q.h.u.c1
  have zu2 : ∀ q : Held (fun W => Bl3 W g4 g6 w.heap.size A B n C D s h k r), q.w.cell? ⟨g4, 2, none⟩ = some (.int .i64 n) := fun q => q.h.u.c2
  have zu3 : ∀ q : Held (fun W => Bl3 W g4 g6 w.heap.size A B n C D s h k r), q.w.cell? ⟨g4, 3, none⟩ = some (.string C) := fun q => q.h.u.c3
  have zu4 : ∀ q : Held (fun W => Bl3 W g4 g6 w.heap.size A B n C D s h k r), q.w.cell? ⟨g4, 4, none⟩ = some (.string D) := fun q => q.h.u.c4
  have zo0 : ∀ q : Held (fun W => Bl3 W g4 g6 w.heap.size A B n C D s h k r), q.w.cell? ⟨g6, 0, none⟩ = some (.string s) := fun q => q.h.o.c0
  have zo1 : ∀ q : Held (fun W => Bl3 W g4 g6 w.heap.size A B n C D s h k r), q.w.cell? ⟨g6, 1, none⟩ = some (.string h) := fun q => q.h.o.c1
  have zo2 : ∀ q : Held (fun W => Bl3 W g4 g6 w.heap.size A B n C D s h k r), q.w.cell? ⟨g6, 2, none⟩ = some (.int .i64 k) := fun q => q.h.o.c2
  have zr : ∀ q : Held (fun W => Bl3 W g4 g6 w.heap.size A B n C D s h k r), q.w.cell? ⟨w.heap.size, 0, none⟩ = some (.string r.m) := fun q => q.h.r.c0
  obtain ⟨w7, hwd⟩ : ∃ W, W = w6.drew := ⟨_, rfl⟩
  rw [← hwd]
  have hb : Below w6.heap.size w6 w7 := by rw [hwd]; exact (Below.refl _ _).drew
  have HP7 : Hid (RdAt w w7 r) := HP6.out.next hb
  have HB7 : Hid (Bl3 w7 g4 g6 w.heap.size A B n C D s h k r) := HB6.out.below hb
  have HS7 : Hid (sown w7 w5.heap.size (.slice N nn cn) (safeNames r.q.hs)) := ownsRow_below HSO.out hb
  clear hb hwd HP6 HB6 HSO HU6 HO6
  refine mix_seg [0, 1, 2, 3, 4, 5, 6, 7, 8] (by kernel_rfl) HB7.out ?_
  simp only [segOf, pickOps, pickOp]
  repeat (go_big_quiet_step (fail))
  refine wpQuiet_nil ?_
  have HL7 : Hid (Below w7.heap.size w7 w7) := Below.refl _ _
  cases sf
  case false =>
    refine mix_several [9, 16] (by kernel_rfl) ?_
    intro i hi
    rcases List.mem_cons.1 hi with rfl | hi
    · simp only [segOf, pickOps, pickOp]
      go_wp2_with fail
      refine (Safe_any r.m _ HK.out.hm HP7.out.env.m).mono ?_
      rintro e w8 ⟨rfl, n8, hw⟩
      rw [← HSF.out]
      have hb : Below w7.heap.size w7 w8 := by rw [hw]; exact below_drewN (Below.refl _ _) _
      have HP8 : Hid (RdAt w w8 r) := HP7.out.next hb
      have HB8 : Hid (Bl3 w8 g4 g6 w.heap.size A B n C D s h k r) := HB7.out.below hb
      have HL8 : Hid (Below w7.heap.size w7 w8) := HL7.out.trans (hb.mono HL7.out.size)
      clear hb hw
      go_wp2_with fail
      refine MixPost.normal HB8.out ?_
      refine mix_seg [10, 11, 12, 13, 14, 15] (by kernel_rfl) HB8.out ?_
      simp only [segOf, pickOps, pickOp]
      repeat (go_big_quiet_step (fail))
      refine wpQuiet_nil ?_
      refine mix_run 16 (by kernel_rfl) ?_
      simp only [segOf, pickOps, pickOp]
      go_wp2_with fail
      obtain ⟨g9, hg9⟩ : ∃ g, g = w8.heap.size := ⟨_, rfl⟩
      obtain ⟨w9, hw⟩ : ∃ W, W = w8.alloc (Obj.cells #[.string ⟨#[]⟩, .string ⟨#[]⟩, .int .i64 0, .string ⟨#[]⟩, .string ⟨#[]⟩, .string ⟨#[]⟩, .string ⟨#[]⟩, .int .i64 0, .slice none 0 0, .bool false, .bool false] 86) := ⟨_, rfl⟩
      have hb : Below w8.heap.size w8 w9 := by rw [hw]; exact (Below.refl _ _).alloc (Nat.le_refl _) _
      have HP9 : Hid (RdAt w w9 r) := HP8.out.next hb
      have HB9 : Hid (Bl3 w9 g4 g6 w.heap.size A B n C D s h k r) := HB8.out.below hb
      have HL9 : Hid (Below w7.heap.size w7 w9) := HL8.out.trans (hb.mono HL8.out.size)
      have HT9 : Hid (PtAt w9 g9 Pv.zero) := by rw [hw, hg9]; exact PtAt.new _ Pv.zero _
      have HW9 : Hid (OwnB w9 g9) := by rw [hw, hg9]; exact OwnB.new _ _ _
      have hgl : w.heap.size + 1 < g9 := by rw [hg9]; exact HP8.out.res.lt
      have hgs : w7.heap.size ≤ g9 := by rw [hg9]; exact HL8.out.size
      have hn4 : g4 ≠ g9 := by rw [hg9]; have := HB8.out.u.lt; omega
      have hn6 : g6 ≠ g9 := by rw [hg9]; have := HB8.out.o.lt; omega
      have hn1 : w.heap.size ≠ g9 := by omega
      rw [← hw, ← hg9]
      clear hw hg9 hb
      refine MixPost.normal HB9.out ?_
      refine mix_run 17 (by kernel_rfl) ?_
      simp only [segOf, pickOps, pickOp]
      obtain ⟨b0, b1', b2', b3', b4', b5, b6, b7, b8, b9, b10⟩ := HT9.out
      have ee := HW9.out
      unfold OwnB at ee
      go_wp2_with fail
      obtain ⟨w10, hw⟩ : ∃ W, W = PtAt.put w9 g9 ⟨A, B, n, C, D, s, h, k, N, nn, cn, xx, false⟩ := ⟨_, rfl⟩
      have HP10 : Hid (RdAt w w10 r) := by rw [hw]; exact HP9.out.put hgl _
      have HB10 : Hid (Bl3 w10 g4 g6 w.heap.size A B n C D s h k r) := by rw [hw]; exact HB9.out.put hn4 hn6 hn1 _
      have HT10 : Hid (PtAt w10 g9 ⟨A, B, n, C, D, s, h, k, N, nn, cn, xx, false⟩) := by rw [hw]; exact HT9.out.put_at _
      have HS10 : Hid (sown w10 w5.heap.size (.slice N nn cn) (safeNames r.q.hs)) := by rw [hw]; exact ownsRow_below HS7.out (PtAt.put_below HL9.out hgs _)
      dsimp only [PtAt.put] at hw
      rw [← hw]
      clear hw ee b0 b1' b2' b3' b4' b5 b6 b7 b8 b9 b10
      refine MixPost.normal HB10.out ?_
      refine mix_done (by kernel_rfl) ?_
      obtain ⟨b0, b1', b2', b3', b4', b5, b6, b7, b8, b9, b10⟩ := HT10.out
      dsimp only at b0 b1' b2' b3' b4' b5 b6 b7 b8 b9 b10
      obtain ⟨r0, r1, r2, r3, r4, r5, r6, r7, r8, r9⟩ := HP10.out.req
      go_wp2_with fail
      refine (suits_any ⟨A, B, n, C, D, s, h, k, N, nn, cn, xx, false⟩ r.mode _).mono ?_
      rintro e w11 ⟨rfl, hb⟩
      dsimp only
      have HP11 : Hid (RdAt w w11 r) := HP10.out.next hb
      have HT11 : Hid (PtAt w11 g9 ⟨A, B, n, C, D, s, h, k, N, nn, cn, xx, false⟩) := HT10.out.below hb HT10.out.lt
      have HS11 : Hid (sown w11 w5.heap.size (.slice N nn cn) (safeNames r.q.hs)) := ownsRow_below HS10.out hb
      clear hb r0 r1 r2 r3 r4 r5 r6 r7 r8 r9 b0 b1' b2' b3' b4' b5 b6 b7 b8 b9 b10
      cases hsu : suitB r.mode xx false
      · have HA : Hid (askI r.q = 7) := by show _ = _; rw [HASK.out, HX.out, HPL.out, show r.q.mode = r.mode from rfl]; simp only [Bool.false_and]; rw [hsu]; rfl
        clear hsu
        obtain ⟨c0, c1, c2, c3, c4, c5, c6, c7, c8, c9, c10⟩ := HP11.out.res
        have ff := HP11.out.own
        unfold OwnB at ff
        go_wp2
        obtain ⟨q0, q1, q2, q3, q4, q5, q6, q7, q8, q9, q10⟩ := HP11.out.res.put_at Pv.zero
        dsimp only [PtAt.put, Pv.zero] at q0 q1 q2 q3 q4 q5 q6 q7 q8 q9 q10
        refine bodyPost_ret (v := .tuple #[.agg #[.string ⟨#[]⟩, .string ⟨#[]⟩, .int .i64 0, .string ⟨#[]⟩, .string ⟨#[]⟩, .string ⟨#[]⟩, .string ⟨#[]⟩, .int .i64 0, .slice none 0 0, .bool false, .bool false], .int .i64 7]) (by simp [results, Tryz.results56, go_sem, q0, q1, q2, q3, q4, q5, q6, q7, q8, q9, q10]) rfl ?_
        exact ⟨Pv.zero, by rw [HA.out]; rfl, PvIs.zero (by rw [HA.out]; decide), by rw [namesQ, if_neg (by rw [HA.out]; decide)]; exact World.ownsRow_nil _ _ _ _, PtAt.put_below HP11.out.bel (Nat.le_succ _) Pv.zero⟩
      have HA : Hid (askI r.q = 0) := by show _ = _; rw [HASK.out, HX.out, HPL.out, show r.q.mode = r.mode from rfl]; simp only [Bool.false_and]; rw [hsu]; rfl
      clear hsu
      obtain ⟨c0, c1, c2, c3, c4, c5, c6, c7, c8, c9, c10⟩ := HP11.out.res
      obtain ⟨b0, b1', b2', b3', b4', b5, b6, b7, b8, b9, b10⟩ := HT11.out
      dsimp only at b0 b1' b2' b3' b4' b5 b6 b7 b8 b9 b10
      have ff := HP11.out.own
      unfold OwnB at ff
      go_wp2
      obtain ⟨q0, q1, q2, q3, q4, q5, q6, q7, q8, q9, q10⟩ := HP11.out.res.put_at ⟨A, B, n, C, D, s, h, k, N, nn, cn, xx, false⟩
      dsimp only [PtAt.put] at q0 q1 q2 q3 q4 q5 q6 q7 q8 q9 q10
      refine bodyPost_ret (v := .tuple #[.agg #[.string A, .string B, .int .i64 n, .string C, .string D, .string s, .string h, .int .i64 k, .slice N nn cn, .bool xx, .bool false], .int .i64 0]) (by simp [results, Tryz.results56, go_sem, q0, q1, q2, q3, q4, q5, q6, q7, q8, q9, q10]) rfl ?_
      exact ⟨⟨A, B, n, C, D, s, h, k, N, nn, cn, xx, false⟩, by rw [HA.out]; rfl,
        ⟨by rw [urlQ, if_pos HA.out]; exact HTU.out.symm, by rw [fromQ, if_pos HA.out]; exact HOO.out, by rw [crossQ, if_pos HA.out]; exact HX.out.symm, by rw [plainQ, if_pos HA.out, HPL.out]; first | rfl | simp, b1, b2, b3, b4⟩,
        by rw [namesQ, if_pos HA.out]; exact ownsRow_base (own_pt HS11.out hsz ⟨A, B, n, C, D, s, h, k, N, nn, cn, xx, false⟩) (by omega), PtAt.put_below HP11.out.bel (Nat.le_succ _) ⟨A, B, n, C, D, s, h, k, N, nn, cn, xx, false⟩⟩
    · obtain rfl : i = 16 := by simpa using hi
      simp only [segOf, pickOps, pickOp]
      go_wp2_with fail
      obtain ⟨g9, hg9⟩ : ∃ g, g = w7.heap.size := ⟨_, rfl⟩
      obtain ⟨w8, hw⟩ : ∃ W, W = w7.alloc (Obj.cells #[.string ⟨#[]⟩, .string ⟨#[]⟩, .int .i64 0, .string ⟨#[]⟩, .string ⟨#[]⟩, .string ⟨#[]⟩, .string ⟨#[]⟩, .int .i64 0, .slice none 0 0, .bool false, .bool false] 86) := ⟨_, rfl⟩
      have hb : Below w7.heap.size w7 w8 := by rw [hw]; exact (Below.refl _ _).alloc (Nat.le_refl _) _
      have HP8 : Hid (RdAt w w8 r) := HP7.out.next hb
      have HB8 : Hid (Bl3 w8 g4 g6 w.heap.size A B n C D s h k r) := HB7.out.below hb
      have HL8 : Hid (Below w7.heap.size w7 w8) := HL7.out.trans (hb.mono HL7.out.size)
      have HT8 : Hid (PtAt w8 g9 Pv.zero) := by rw [hw, hg9]; exact PtAt.new _ Pv.zero _
      have HW8 : Hid (OwnB w8 g9) := by rw [hw, hg9]; exact OwnB.new _ _ _
      have hgl : w.heap.size + 1 < g9 := by rw [hg9]; exact HP7.out.res.lt
      have hgs : w7.heap.size ≤ g9 := by rw [hg9]; exact HL7.out.size
      have hn4 : g4 ≠ g9 := by rw [hg9]; have := HB7.out.u.lt; omega
      have hn6 : g6 ≠ g9 := by rw [hg9]; have := HB7.out.o.lt; omega
      have hn1 : w.heap.size ≠ g9 := by omega
      rw [← hw, ← hg9]
      clear hw hg9 hb
      refine MixPost.normal HB8.out ?_
      refine mix_run 9 (by kernel_rfl) ?_
      simp only [segOf, pickOps, pickOp]
      go_wp2_with fail
      refine (Safe_any r.m _ HK.out.hm HP8.out.env.m).mono ?_
      rintro e w9 ⟨rfl, n9, hw⟩
      rw [← HSF.out]
      have hb : Below w8.heap.size w8 w9 := by rw [hw]; exact below_drewN (Below.refl _ _) _
      have HP9 : Hid (RdAt w w9 r) := HP8.out.next hb
      have HB9 : Hid (Bl3 w9 g4 g6 w.heap.size A B n C D s h k r) := HB8.out.below hb
      have HL9 : Hid (Below w7.heap.size w7 w9) := HL8.out.trans (hb.mono HL8.out.size)
      have HT9 : Hid (PtAt w9 g9 Pv.zero) := HT8.out.below hb HT8.out.lt
      have HW9 : Hid (OwnB w9 g9) := HW8.out.below hb HT8.out.lt
      clear hb hw
      go_wp2_with fail
      refine MixPost.normal HB9.out ?_
      refine mix_seg [10, 11, 12, 13, 14, 15] (by kernel_rfl) HB9.out ?_
      simp only [segOf, pickOps, pickOp]
      repeat (go_big_quiet_step (fail))
      refine wpQuiet_nil ?_
      refine mix_run 17 (by kernel_rfl) ?_
      simp only [segOf, pickOps, pickOp]
      obtain ⟨b0, b1', b2', b3', b4', b5, b6, b7, b8, b9, b10⟩ := HT9.out
      have ee := HW9.out
      unfold OwnB at ee
      go_wp2_with fail
      obtain ⟨w10, hw⟩ : ∃ W, W = PtAt.put w9 g9 ⟨A, B, n, C, D, s, h, k, N, nn, cn, xx, false⟩ := ⟨_, rfl⟩
      have HP10 : Hid (RdAt w w10 r) := by rw [hw]; exact HP9.out.put hgl _
      have HB10 : Hid (Bl3 w10 g4 g6 w.heap.size A B n C D s h k r) := by rw [hw]; exact HB9.out.put hn4 hn6 hn1 _
      have HT10 : Hid (PtAt w10 g9 ⟨A, B, n, C, D, s, h, k, N, nn, cn, xx, false⟩) := by rw [hw]; exact HT9.out.put_at _
      have HS10 : Hid (sown w10 w5.heap.size (.slice N nn cn) (safeNames r.q.hs)) := by rw [hw]; exact ownsRow_below HS7.out (PtAt.put_below HL9.out hgs _)
      dsimp only [PtAt.put] at hw
      rw [← hw]
      clear hw ee b0 b1' b2' b3' b4' b5 b6 b7 b8 b9 b10
      refine MixPost.normal HB10.out ?_
      refine mix_done (by kernel_rfl) ?_
      obtain ⟨b0, b1', b2', b3', b4', b5, b6, b7, b8, b9, b10⟩ := HT10.out
      dsimp only at b0 b1' b2' b3' b4' b5 b6 b7 b8 b9 b10
      obtain ⟨r0, r1, r2, r3, r4, r5, r6, r7, r8, r9⟩ := HP10.out.req
      go_wp2_with fail
      refine (suits_any ⟨A, B, n, C, D, s, h, k, N, nn, cn, xx, false⟩ r.mode _).mono ?_
      rintro e w11 ⟨rfl, hb⟩
      dsimp only
      have HP11 : Hid (RdAt w w11 r) := HP10.out.next hb
      have HT11 : Hid (PtAt w11 g9 ⟨A, B, n, C, D, s, h, k, N, nn, cn, xx, false⟩) := HT10.out.below hb HT10.out.lt
      have HS11 : Hid (sown w11 w5.heap.size (.slice N nn cn) (safeNames r.q.hs)) := ownsRow_below HS10.out hb
      clear hb r0 r1 r2 r3 r4 r5 r6 r7 r8 r9 b0 b1' b2' b3' b4' b5 b6 b7 b8 b9 b10
      cases hsu : suitB r.mode xx false
      · have HA : Hid (askI r.q = 7) := by show _ = _; rw [HASK.out, HX.out, HPL.out, show r.q.mode = r.mode from rfl]; simp only [Bool.false_and]; rw [hsu]; rfl
        clear hsu
        obtain ⟨c0, c1, c2, c3, c4, c5, c6, c7, c8, c9, c10⟩ := HP11.out.res
        have ff := HP11.out.own
        unfold OwnB at ff
        go_wp2
        obtain ⟨q0, q1, q2, q3, q4, q5, q6, q7, q8, q9, q10⟩ := HP11.out.res.put_at Pv.zero
        dsimp only [PtAt.put, Pv.zero] at q0 q1 q2 q3 q4 q5 q6 q7 q8 q9 q10
        refine bodyPost_ret (v := .tuple #[.agg #[.string ⟨#[]⟩, .string ⟨#[]⟩, .int .i64 0, .string ⟨#[]⟩, .string ⟨#[]⟩, .string ⟨#[]⟩, .string ⟨#[]⟩, .int .i64 0, .slice none 0 0, .bool false, .bool false], .int .i64 7]) (by simp [results, Tryz.results56, go_sem, q0, q1, q2, q3, q4, q5, q6, q7, q8, q9, q10]) rfl ?_
        exact ⟨Pv.zero, by rw [HA.out]; rfl, PvIs.zero (by rw [HA.out]; decide), by rw [namesQ, if_neg (by rw [HA.out]; decide)]; exact World.ownsRow_nil _ _ _ _, PtAt.put_below HP11.out.bel (Nat.le_succ _) Pv.zero⟩
      have HA : Hid (askI r.q = 0) := by show _ = _; rw [HASK.out, HX.out, HPL.out, show r.q.mode = r.mode from rfl]; simp only [Bool.false_and]; rw [hsu]; rfl
      clear hsu
      obtain ⟨c0, c1, c2, c3, c4, c5, c6, c7, c8, c9, c10⟩ := HP11.out.res
      obtain ⟨b0, b1', b2', b3', b4', b5, b6, b7, b8, b9, b10⟩ := HT11.out
      dsimp only at b0 b1' b2' b3' b4' b5 b6 b7 b8 b9 b10
      have ff := HP11.out.own
      unfold OwnB at ff
      go_wp2
      obtain ⟨q0, q1, q2, q3, q4, q5, q6, q7, q8, q9, q10⟩ := HP11.out.res.put_at ⟨A, B, n, C, D, s, h, k, N, nn, cn, xx, false⟩
      dsimp only [PtAt.put] at q0 q1 q2 q3 q4 q5 q6 q7 q8 q9 q10
      refine bodyPost_ret (v := .tuple #[.agg #[.string A, .string B, .int .i64 n, .string C, .string D, .string s, .string h, .int .i64 k, .slice N nn cn, .bool xx, .bool false], .int .i64 0]) (by simp [results, Tryz.results56, go_sem, q0, q1, q2, q3, q4, q5, q6, q7, q8, q9, q10]) rfl ?_
      exact ⟨⟨A, B, n, C, D, s, h, k, N, nn, cn, xx, false⟩, by rw [HA.out]; rfl,
        ⟨by rw [urlQ, if_pos HA.out]; exact HTU.out.symm, by rw [fromQ, if_pos HA.out]; exact HOO.out, by rw [crossQ, if_pos HA.out]; exact HX.out.symm, by rw [plainQ, if_pos HA.out, HPL.out]; first | rfl | simp, b1, b2, b3, b4⟩,
        by rw [namesQ, if_pos HA.out]; exact ownsRow_base (own_pt HS11.out hsz ⟨A, B, n, C, D, s, h, k, N, nn, cn, xx, false⟩) (by omega), PtAt.put_below HP11.out.bel (Nat.le_succ _) ⟨A, B, n, C, D, s, h, k, N, nn, cn, xx, false⟩⟩
  case true =>
    have HNZ := Lib.hid hnz
    clear hnz
    refine mix_several [9, 16] (by kernel_rfl) ?_
    intro i hi
    rcases List.mem_cons.1 hi with rfl | hi
    · simp only [segOf, pickOps, pickOp]
      go_wp2_with fail
      refine (Safe_any r.m _ HK.out.hm HP7.out.env.m).mono ?_
      rintro e w8 ⟨rfl, n8, hw⟩
      rw [← HSF.out]
      have hb : Below w7.heap.size w7 w8 := by rw [hw]; exact below_drewN (Below.refl _ _) _
      have HP8 : Hid (RdAt w w8 r) := HP7.out.next hb
      have HB8 : Hid (Bl3 w8 g4 g6 w.heap.size A B n C D s h k r) := HB7.out.below hb
      have HL8 : Hid (Below w7.heap.size w7 w8) := HL7.out.trans (hb.mono HL7.out.size)
      clear hb hw
      go_wp2_with fail
      refine MixPost.normal HB8.out ?_
      refine mix_seg [10, 11, 12, 13, 14, 15] (by kernel_rfl) HB8.out ?_
      simp only [segOf, pickOps, pickOp]
      repeat (go_big_quiet_step (fail))
      refine wpQuiet_nil ?_
      rw [show ((nn : Int) == 0) = nz from by rw [HNZ.out, Bool.eq_iff_iff]; simp]
      refine mix_run 16 (by kernel_rfl) ?_
      simp only [segOf, pickOps, pickOp]
      go_wp2_with fail
      obtain ⟨g9, hg9⟩ : ∃ g, g = w8.heap.size := ⟨_, rfl⟩
      obtain ⟨w9, hw⟩ : ∃ W, W = w8.alloc (Obj.cells #[.string ⟨#[]⟩, .string ⟨#[]⟩, .int .i64 0, .string ⟨#[]⟩, .string ⟨#[]⟩, .string ⟨#[]⟩, .string ⟨#[]⟩, .int .i64 0, .slice none 0 0, .bool false, .bool false] 86) := ⟨_, rfl⟩
      have hb : Below w8.heap.size w8 w9 := by rw [hw]; exact (Below.refl _ _).alloc (Nat.le_refl _) _
      have HP9 : Hid (RdAt w w9 r) := HP8.out.next hb
      have HB9 : Hid (Bl3 w9 g4 g6 w.heap.size A B n C D s h k r) := HB8.out.below hb
      have HL9 : Hid (Below w7.heap.size w7 w9) := HL8.out.trans (hb.mono HL8.out.size)
      have HT9 : Hid (PtAt w9 g9 Pv.zero) := by rw [hw, hg9]; exact PtAt.new _ Pv.zero _
      have HW9 : Hid (OwnB w9 g9) := by rw [hw, hg9]; exact OwnB.new _ _ _
      have hgl : w.heap.size + 1 < g9 := by rw [hg9]; exact HP8.out.res.lt
      have hgs : w7.heap.size ≤ g9 := by rw [hg9]; exact HL8.out.size
      have hn4 : g4 ≠ g9 := by rw [hg9]; have := HB8.out.u.lt; omega
      have hn6 : g6 ≠ g9 := by rw [hg9]; have := HB8.out.o.lt; omega
      have hn1 : w.heap.size ≠ g9 := by omega
      rw [← hw, ← hg9]
      clear hw hg9 hb
      refine MixPost.normal HB9.out ?_
      refine mix_run 17 (by kernel_rfl) ?_
      simp only [segOf, pickOps, pickOp]
      obtain ⟨b0, b1', b2', b3', b4', b5, b6, b7, b8, b9, b10⟩ := HT9.out
      have ee := HW9.out
      unfold OwnB at ee
      go_wp2_with fail
      obtain ⟨w10, hw⟩ : ∃ W, W = PtAt.put w9 g9 ⟨A, B, n, C, D, s, h, k, N, nn, cn, xx, nz⟩ := ⟨_, rfl⟩
      have HP10 : Hid (RdAt w w10 r) := by rw [hw]; exact HP9.out.put hgl _
      have HB10 : Hid (Bl3 w10 g4 g6 w.heap.size A B n C D s h k r) := by rw [hw]; exact HB9.out.put hn4 hn6 hn1 _
      have HT10 : Hid (PtAt w10 g9 ⟨A, B, n, C, D, s, h, k, N, nn, cn, xx, nz⟩) := by rw [hw]; exact HT9.out.put_at _
      have HS10 : Hid (sown w10 w5.heap.size (.slice N nn cn) (safeNames r.q.hs)) := by rw [hw]; exact ownsRow_below HS7.out (PtAt.put_below HL9.out hgs _)
      dsimp only [PtAt.put] at hw
      rw [← hw]
      clear hw ee b0 b1' b2' b3' b4' b5 b6 b7 b8 b9 b10
      refine MixPost.normal HB10.out ?_
      refine mix_done (by kernel_rfl) ?_
      obtain ⟨b0, b1', b2', b3', b4', b5, b6, b7, b8, b9, b10⟩ := HT10.out
      dsimp only at b0 b1' b2' b3' b4' b5 b6 b7 b8 b9 b10
      obtain ⟨r0, r1, r2, r3, r4, r5, r6, r7, r8, r9⟩ := HP10.out.req
      go_wp2_with fail
      refine (suits_any ⟨A, B, n, C, D, s, h, k, N, nn, cn, xx, nz⟩ r.mode _).mono ?_
      rintro e w11 ⟨rfl, hb⟩
      dsimp only
      have HP11 : Hid (RdAt w w11 r) := HP10.out.next hb
      have HT11 : Hid (PtAt w11 g9 ⟨A, B, n, C, D, s, h, k, N, nn, cn, xx, nz⟩) := HT10.out.below hb HT10.out.lt
      have HS11 : Hid (sown w11 w5.heap.size (.slice N nn cn) (safeNames r.q.hs)) := ownsRow_below HS10.out hb
      clear hb r0 r1 r2 r3 r4 r5 r6 r7 r8 r9 b0 b1' b2' b3' b4' b5 b6 b7 b8 b9 b10
      cases hsu : suitB r.mode xx nz
      · have HA : Hid (askI r.q = 7) := by show _ = _; rw [HASK.out, HX.out, HPL.out, show r.q.mode = r.mode from rfl]; simp only [Bool.true_and]; rw [hsu]; rfl
        clear hsu
        obtain ⟨c0, c1, c2, c3, c4, c5, c6, c7, c8, c9, c10⟩ := HP11.out.res
        have ff := HP11.out.own
        unfold OwnB at ff
        go_wp2
        obtain ⟨q0, q1, q2, q3, q4, q5, q6, q7, q8, q9, q10⟩ := HP11.out.res.put_at Pv.zero
        dsimp only [PtAt.put, Pv.zero] at q0 q1 q2 q3 q4 q5 q6 q7 q8 q9 q10
        refine bodyPost_ret (v := .tuple #[.agg #[.string ⟨#[]⟩, .string ⟨#[]⟩, .int .i64 0, .string ⟨#[]⟩, .string ⟨#[]⟩, .string ⟨#[]⟩, .string ⟨#[]⟩, .int .i64 0, .slice none 0 0, .bool false, .bool false], .int .i64 7]) (by simp [results, Tryz.results56, go_sem, q0, q1, q2, q3, q4, q5, q6, q7, q8, q9, q10]) rfl ?_
        exact ⟨Pv.zero, by rw [HA.out]; rfl, PvIs.zero (by rw [HA.out]; decide), by rw [namesQ, if_neg (by rw [HA.out]; decide)]; exact World.ownsRow_nil _ _ _ _, PtAt.put_below HP11.out.bel (Nat.le_succ _) Pv.zero⟩
      have HA : Hid (askI r.q = 0) := by show _ = _; rw [HASK.out, HX.out, HPL.out, show r.q.mode = r.mode from rfl]; simp only [Bool.true_and]; rw [hsu]; rfl
      clear hsu
      obtain ⟨c0, c1, c2, c3, c4, c5, c6, c7, c8, c9, c10⟩ := HP11.out.res
      obtain ⟨b0, b1', b2', b3', b4', b5, b6, b7, b8, b9, b10⟩ := HT11.out
      dsimp only at b0 b1' b2' b3' b4' b5 b6 b7 b8 b9 b10
      have ff := HP11.out.own
      unfold OwnB at ff
      go_wp2
      obtain ⟨q0, q1, q2, q3, q4, q5, q6, q7, q8, q9, q10⟩ := HP11.out.res.put_at ⟨A, B, n, C, D, s, h, k, N, nn, cn, xx, nz⟩
      dsimp only [PtAt.put] at q0 q1 q2 q3 q4 q5 q6 q7 q8 q9 q10
      refine bodyPost_ret (v := .tuple #[.agg #[.string A, .string B, .int .i64 n, .string C, .string D, .string s, .string h, .int .i64 k, .slice N nn cn, .bool xx, .bool nz], .int .i64 0]) (by simp [results, Tryz.results56, go_sem, q0, q1, q2, q3, q4, q5, q6, q7, q8, q9, q10]) rfl ?_
      exact ⟨⟨A, B, n, C, D, s, h, k, N, nn, cn, xx, nz⟩, by rw [HA.out]; rfl,
        ⟨by rw [urlQ, if_pos HA.out]; exact HTU.out.symm, by rw [fromQ, if_pos HA.out]; exact HOO.out, by rw [crossQ, if_pos HA.out]; exact HX.out.symm, by rw [plainQ, if_pos HA.out, HPL.out]; first | rfl | simp, b1, b2, b3, b4⟩,
        by rw [namesQ, if_pos HA.out]; exact ownsRow_base (own_pt HS11.out hsz ⟨A, B, n, C, D, s, h, k, N, nn, cn, xx, nz⟩) (by omega), PtAt.put_below HP11.out.bel (Nat.le_succ _) ⟨A, B, n, C, D, s, h, k, N, nn, cn, xx, nz⟩⟩
    · obtain rfl : i = 16 := by simpa using hi
      simp only [segOf, pickOps, pickOp]
      go_wp2_with fail
      obtain ⟨g9, hg9⟩ : ∃ g, g = w7.heap.size := ⟨_, rfl⟩
      obtain ⟨w8, hw⟩ : ∃ W, W = w7.alloc (Obj.cells #[.string ⟨#[]⟩, .string ⟨#[]⟩, .int .i64 0, .string ⟨#[]⟩, .string ⟨#[]⟩, .string ⟨#[]⟩, .string ⟨#[]⟩, .int .i64 0, .slice none 0 0, .bool false, .bool false] 86) := ⟨_, rfl⟩
      have hb : Below w7.heap.size w7 w8 := by rw [hw]; exact (Below.refl _ _).alloc (Nat.le_refl _) _
      have HP8 : Hid (RdAt w w8 r) := HP7.out.next hb
      have HB8 : Hid (Bl3 w8 g4 g6 w.heap.size A B n C D s h k r) := HB7.out.below hb
      have HL8 : Hid (Below w7.heap.size w7 w8) := HL7.out.trans (hb.mono HL7.out.size)
      have HT8 : Hid (PtAt w8 g9 Pv.zero) := by rw [hw, hg9]; exact PtAt.new _ Pv.zero _
      have HW8 : Hid (OwnB w8 g9) := by rw [hw, hg9]; exact OwnB.new _ _ _
      have hgl : w.heap.size + 1 < g9 := by rw [hg9]; exact HP7.out.res.lt
      have hgs : w7.heap.size ≤ g9 := by rw [hg9]; exact HL7.out.size
      have hn4 : g4 ≠ g9 := by rw [hg9]; have := HB7.out.u.lt; omega
      have hn6 : g6 ≠ g9 := by rw [hg9]; have := HB7.out.o.lt; omega
      have hn1 : w.heap.size ≠ g9 := by omega
      rw [← hw, ← hg9]
      clear hw hg9 hb
      refine MixPost.normal HB8.out ?_
      refine mix_run 9 (by kernel_rfl) ?_
      simp only [segOf, pickOps, pickOp]
      go_wp2_with fail
      refine (Safe_any r.m _ HK.out.hm HP8.out.env.m).mono ?_
      rintro e w9 ⟨rfl, n9, hw⟩
      rw [← HSF.out]
      have hb : Below w8.heap.size w8 w9 := by rw [hw]; exact below_drewN (Below.refl _ _) _
      have HP9 : Hid (RdAt w w9 r) := HP8.out.next hb
      have HB9 : Hid (Bl3 w9 g4 g6 w.heap.size A B n C D s h k r) := HB8.out.below hb
      have HL9 : Hid (Below w7.heap.size w7 w9) := HL8.out.trans (hb.mono HL8.out.size)
      have HT9 : Hid (PtAt w9 g9 Pv.zero) := HT8.out.below hb HT8.out.lt
      have HW9 : Hid (OwnB w9 g9) := HW8.out.below hb HT8.out.lt
      clear hb hw
      go_wp2_with fail
      refine MixPost.normal HB9.out ?_
      refine mix_seg [10, 11, 12, 13, 14, 15] (by kernel_rfl) HB9.out ?_
      simp only [segOf, pickOps, pickOp]
      repeat (go_big_quiet_step (fail))
      refine wpQuiet_nil ?_
      rw [show ((nn : Int) == 0) = nz from by rw [HNZ.out, Bool.eq_iff_iff]; simp]
      refine mix_run 17 (by kernel_rfl) ?_
      simp only [segOf, pickOps, pickOp]
      obtain ⟨b0, b1', b2', b3', b4', b5, b6, b7, b8, b9, b10⟩ := HT9.out
      have ee := HW9.out
      unfold OwnB at ee
      go_wp2_with fail
      obtain ⟨w10, hw⟩ : ∃ W, W = PtAt.put w9 g9 ⟨A, B, n, C, D, s, h, k, N, nn, cn, xx, nz⟩ := ⟨_, rfl⟩
      have HP10 : Hid (RdAt w w10 r) := by rw [hw]; exact HP9.out.put hgl _
      have HB10 : Hid (Bl3 w10 g4 g6 w.heap.size A B n C D s h k r) := by rw [hw]; exact HB9.out.put hn4 hn6 hn1 _
      have HT10 : Hid (PtAt w10 g9 ⟨A, B, n, C, D, s, h, k, N, nn, cn, xx, nz⟩) := by rw [hw]; exact HT9.out.put_at _
      have HS10 : Hid (sown w10 w5.heap.size (.slice N nn cn) (safeNames r.q.hs)) := by rw [hw]; exact ownsRow_below HS7.out (PtAt.put_below HL9.out hgs _)
      dsimp only [PtAt.put] at hw
      rw [← hw]
      clear hw ee b0 b1' b2' b3' b4' b5 b6 b7 b8 b9 b10
      refine MixPost.normal HB10.out ?_
      refine mix_done (by kernel_rfl) ?_
      obtain ⟨b0, b1', b2', b3', b4', b5, b6, b7, b8, b9, b10⟩ := HT10.out
      dsimp only at b0 b1' b2' b3' b4' b5 b6 b7 b8 b9 b10
      obtain ⟨r0, r1, r2, r3, r4, r5, r6, r7, r8, r9⟩ := HP10.out.req
      go_wp2_with fail
      refine (suits_any ⟨A, B, n, C, D, s, h, k, N, nn, cn, xx, nz⟩ r.mode _).mono ?_
      rintro e w11 ⟨rfl, hb⟩
      dsimp only
      have HP11 : Hid (RdAt w w11 r) := HP10.out.next hb
      have HT11 : Hid (PtAt w11 g9 ⟨A, B, n, C, D, s, h, k, N, nn, cn, xx, nz⟩) := HT10.out.below hb HT10.out.lt
      have HS11 : Hid (sown w11 w5.heap.size (.slice N nn cn) (safeNames r.q.hs)) := ownsRow_below HS10.out hb
      clear hb r0 r1 r2 r3 r4 r5 r6 r7 r8 r9 b0 b1' b2' b3' b4' b5 b6 b7 b8 b9 b10
      cases hsu : suitB r.mode xx nz
      · have HA : Hid (askI r.q = 7) := by show _ = _; rw [HASK.out, HX.out, HPL.out, show r.q.mode = r.mode from rfl]; simp only [Bool.true_and]; rw [hsu]; rfl
        clear hsu
        obtain ⟨c0, c1, c2, c3, c4, c5, c6, c7, c8, c9, c10⟩ := HP11.out.res
        have ff := HP11.out.own
        unfold OwnB at ff
        go_wp2
        obtain ⟨q0, q1, q2, q3, q4, q5, q6, q7, q8, q9, q10⟩ := HP11.out.res.put_at Pv.zero
        dsimp only [PtAt.put, Pv.zero] at q0 q1 q2 q3 q4 q5 q6 q7 q8 q9 q10
        refine bodyPost_ret (v := .tuple #[.agg #[.string ⟨#[]⟩, .string ⟨#[]⟩, .int .i64 0, .string ⟨#[]⟩, .string ⟨#[]⟩, .string ⟨#[]⟩, .string ⟨#[]⟩, .int .i64 0, .slice none 0 0, .bool false, .bool false], .int .i64 7]) (by simp [results, Tryz.results56, go_sem, q0, q1, q2, q3, q4, q5, q6, q7, q8, q9, q10]) rfl ?_
        exact ⟨Pv.zero, by rw [HA.out]; rfl, PvIs.zero (by rw [HA.out]; decide), by rw [namesQ, if_neg (by rw [HA.out]; decide)]; exact World.ownsRow_nil _ _ _ _, PtAt.put_below HP11.out.bel (Nat.le_succ _) Pv.zero⟩
      have HA : Hid (askI r.q = 0) := by show _ = _; rw [HASK.out, HX.out, HPL.out, show r.q.mode = r.mode from rfl]; simp only [Bool.true_and]; rw [hsu]; rfl
      clear hsu
      obtain ⟨c0, c1, c2, c3, c4, c5, c6, c7, c8, c9, c10⟩ := HP11.out.res
      obtain ⟨b0, b1', b2', b3', b4', b5, b6, b7, b8, b9, b10⟩ := HT11.out
      dsimp only at b0 b1' b2' b3' b4' b5 b6 b7 b8 b9 b10
      have ff := HP11.out.own
      unfold OwnB at ff
      go_wp2
      obtain ⟨q0, q1, q2, q3, q4, q5, q6, q7, q8, q9, q10⟩ := HP11.out.res.put_at ⟨A, B, n, C, D, s, h, k, N, nn, cn, xx, nz⟩
      dsimp only [PtAt.put] at q0 q1 q2 q3 q4 q5 q6 q7 q8 q9 q10
      refine bodyPost_ret (v := .tuple #[.agg #[.string A, .string B, .int .i64 n, .string C, .string D, .string s, .string h, .int .i64 k, .slice N nn cn, .bool xx, .bool nz], .int .i64 0]) (by simp [results, Tryz.results56, go_sem, q0, q1, q2, q3, q4, q5, q6, q7, q8, q9, q10]) rfl ?_
      exact ⟨⟨A, B, n, C, D, s, h, k, N, nn, cn, xx, nz⟩, by rw [HA.out]; rfl,
        ⟨by rw [urlQ, if_pos HA.out]; exact HTU.out.symm, by rw [fromQ, if_pos HA.out]; exact HOO.out, by rw [crossQ, if_pos HA.out]; exact HX.out.symm, by rw [plainQ, if_pos HA.out, HPL.out]; first | rfl | simp, b1, b2, b3, b4⟩,
        by rw [namesQ, if_pos HA.out]; exact ownsRow_base (own_pt HS11.out hsz ⟨A, B, n, C, D, s, h, k, N, nn, cn, xx, nz⟩) (by omega), PtAt.put_below HP11.out.bel (Nat.le_succ _) ⟨A, B, n, C, D, s, h, k, N, nn, cn, xx, nz⟩⟩
end Go.Proofs.YtlkneapidmdpbaaGreatDoor

namespace Go.Proofs.YtlkneapidmdpbaaGreatDoor
open Go.RowKit

theorem key_zero : keyL [] [] 0 = [] := by decide
theorem key_is {q : Rq} {p : Pv} (h : PvIs q p) : keyL p.a.data.toList p.b.data.toList p.n = keyQ q := by
  have e := h.url
  unfold urlQ at e
  unfold keyQ
  split
  · rename_i h0
    rw [if_pos h0] at e
    rw [← e]; rfl
  · rename_i h0
    rw [if_neg h0] at e
    have e1 : p.a.data.toList = [] := congrArg Url.sc e
    have e2 : p.b.data.toList = [] := congrArg Url.h e
    have e3 : p.n = 0 := congrArg Url.p e
    rw [e1, e2, e3, key_zero]

set_option maxHeartbeats 2000000 in
theorem aCheck_any (r : Rv) (w : World) (hr : RqOk w r) (he : Env8 w) :
    Calls Tryz.prog 24 #[r.v] w fun e w' => e = .returned (.int .i64 (askI r.q)) ∧ Below w.heap.size w w' := by
  unfold Rv.v
  obtain ⟨W, hW⟩ : ∃ W, W = w.alloc (Obj.cells #[.string r.m, .string r.u, .string r.o, .int .i64 r.mode, .bool r.cr, .slice r.A r.n r.c, .int .i64 r.cl, .int .u64 r.tm, .int .i64 r.gr, .int .i64 r.sg] 25) := ⟨_, rfl⟩
  have hb0 : Below w.heap.size w W := by rw [hW]; exact (Below.refl _ _).alloc (Nat.le_refl _) _
  have HB0 := Lib.hid hb0
  have HR0 : Hid (RqAt W w.heap.size r) := by rw [hW]; exact RqAt.new w r _
  have HK := Lib.hid hr
  have HE := Lib.hid he
  clear hr he hb0
  go_enter Tryz.func24, Tryz.ntmps24
  go_wp2_with fail
  rw [← hW]
  clear hW
  refine (read_any r _ (HK.out.below HB0.out) (HE.out.below HB0.out)).mono ?_
  rintro e w1 ⟨p, rfl, hp, hs, hb⟩
  have HPV := Lib.hid hp
  have HS := Lib.hid hs
  have HB1 : Hid (Below w.heap.size w w1) := HB0.out.trans (hb.mono HB0.out.size)
  have HR1 : Hid (RqAt w1 w.heap.size r) := HR0.out.below hb HR0.out.lt
  clear hp hs hb
  simp only [Pv.v]
  have HA := Lib.hid ((Below.refl w1.heap.size w1).alloc (Nat.le_refl _) (Obj.cells #[.string p.a, .string p.b, .int .i64 p.n, .string p.c, .string p.d, .string p.s, .string p.h, .int .i64 p.k, .slice p.N p.nn p.cn, .bool p.x, .bool p.y] 86))
  have HB2 : Hid (Below w.heap.size w (w1.alloc (Obj.cells #[.string p.a, .string p.b, .int .i64 p.n, .string p.c, .string p.d, .string p.s, .string p.h, .int .i64 p.k, .slice p.N p.nn p.cn, .bool p.x, .bool p.y] 86))) := HB1.out.trans (HA.out.mono HB1.out.size)
  go_wp2
  go_ret
  exact ⟨rfl, HB2.out⟩

set_option maxHeartbeats 2000000 in
theorem aNames_any (r : Rv) (w : World) (hr : RqOk w r) (he : Env8 w) :
    Calls Tryz.prog 26 #[r.v] w fun e w' => ∃ v, e = .returned v ∧ sown w' w.heap.size v (namesQ r.q) ∧ Below w.heap.size w w' := by
  unfold Rv.v
  obtain ⟨W, hW⟩ : ∃ W, W = w.alloc (Obj.cells #[.string r.m, .string r.u, .string r.o, .int .i64 r.mode, .bool r.cr, .slice r.A r.n r.c, .int .i64 r.cl, .int .u64 r.tm, .int .i64 r.gr, .int .i64 r.sg] 25) := ⟨_, rfl⟩
  have hb0 : Below w.heap.size w W := by rw [hW]; exact (Below.refl _ _).alloc (Nat.le_refl _) _
  have HB0 := Lib.hid hb0
  have HR0 : Hid (RqAt W w.heap.size r) := by rw [hW]; exact RqAt.new w r _
  have HK := Lib.hid hr
  have HE := Lib.hid he
  clear hr he hb0
  go_enter Tryz.func26, Tryz.ntmps26
  go_wp2_with fail
  rw [← hW]
  clear hW
  refine (read_any r _ (HK.out.below HB0.out) (HE.out.below HB0.out)).mono ?_
  rintro e w1 ⟨p, rfl, hp, hs, hb⟩
  have HPV := Lib.hid hp
  have HS := Lib.hid hs
  have HB1 : Hid (Below w.heap.size w w1) := HB0.out.trans (hb.mono HB0.out.size)
  have HR1 : Hid (RqAt w1 w.heap.size r) := HR0.out.below hb HR0.out.lt
  clear hp hs hb
  simp only [Pv.v]
  have HA := Lib.hid ((Below.refl w1.heap.size w1).alloc (Nat.le_refl _) (Obj.cells #[.string p.a, .string p.b, .int .i64 p.n, .string p.c, .string p.d, .string p.s, .string p.h, .int .i64 p.k, .slice p.N p.nn p.cn, .bool p.x, .bool p.y] 86))
  have HB2 : Hid (Below w.heap.size w (w1.alloc (Obj.cells #[.string p.a, .string p.b, .int .i64 p.n, .string p.c, .string p.d, .string p.s, .string p.h, .int .i64 p.k, .slice p.N p.nn p.cn, .bool p.x, .bool p.y] 86))) := HB1.out.trans (HA.out.mono HB1.out.size)
  go_wp2
  go_ret
  exact ⟨_, rfl, ownsRow_base (ownsRow_below HS.out HA.out) HB0.out.size, HB2.out⟩

set_option maxHeartbeats 2000000 in
theorem aNeeds_any (r : Rv) (w : World) (hr : RqOk w r) (he : Env8 w) :
    Calls Tryz.prog 21 #[r.v] w fun e w' => e = .returned (.bool (needsQ r.q)) ∧ Below w.heap.size w w' := by
  unfold Rv.v
  obtain ⟨W, hW⟩ : ∃ W, W = w.alloc (Obj.cells #[.string r.m, .string r.u, .string r.o, .int .i64 r.mode, .bool r.cr, .slice r.A r.n r.c, .int .i64 r.cl, .int .u64 r.tm, .int .i64 r.gr, .int .i64 r.sg] 25) := ⟨_, rfl⟩
  have hb0 : Below w.heap.size w W := by rw [hW]; exact (Below.refl _ _).alloc (Nat.le_refl _) _
  have HB0 := Lib.hid hb0
  have HR0 : Hid (RqAt W w.heap.size r) := by rw [hW]; exact RqAt.new w r _
  have HK := Lib.hid hr
  have HE := Lib.hid he
  clear hr he hb0
  go_enter Tryz.func21, Tryz.ntmps21
  go_wp2_with fail
  rw [← hW]
  clear hW
  refine (read_any r _ (HK.out.below HB0.out) (HE.out.below HB0.out)).mono ?_
  rintro e w1 ⟨p, rfl, hp, hs, hb⟩
  obtain ⟨pa, pb, pn, pc, pd, ps, ph, pk, pN, pnn, pcn, px, py⟩ := p
  have HPX : Hid (px = crossQ r.q) := hp.x
  have HPY : Hid (py = plainQ r.q) := hp.y
  have HB1 : Hid (Below w.heap.size w w1) := HB0.out.trans (hb.mono HB0.out.size)
  have HR1 : Hid (RqAt w1 w.heap.size r) := HR0.out.below hb HR0.out.lt
  clear hp hs hb
  simp only [Pv.v]
  have HA := Lib.hid ((Below.refl w1.heap.size w1).alloc (Nat.le_refl _) (Obj.cells #[.string pa, .string pb, .int .i64 pn, .string pc, .string pd, .string ps, .string ph, .int .i64 pk, .slice pN pnn pcn, .bool px, .bool py] 86))
  have HB2 : Hid (Below w.heap.size w (w1.alloc (Obj.cells #[.string pa, .string pb, .int .i64 pn, .string pc, .string pd, .string ps, .string ph, .int .i64 pk, .slice pN pnn pcn, .bool px, .bool py] 86))) := HB1.out.trans (HA.out.mono HB1.out.size)
  have HR2 := Lib.hid (HR1.out.below HA.out HR1.out.lt)
  obtain ⟨r0, r1, r2, r3, r4, r5, r6, r7, r8, r9⟩ := HR2.out
  have HN : Hid (needsQ r.q = ((r.mode == 3) && px && !py)) := by show _ = _; rw [HPX.out, HPY.out]; rfl
  obtain ⟨md, hmd⟩ : ∃ m, m = r.mode := ⟨_, rfl⟩
  rw [← hmd] at r3
  have HM := Lib.hid hmd
  clear hmd
  by_cases h3 : md = 3
  case neg =>
    have HV : Hid (needsQ r.q = false) := by show _ = _; rw [HN.out, ← HM.out]; simp [h3]
    go_wp2
    go_ret
    exact ⟨ret_bool HV.out.symm, HB2.out⟩
  subst h3
  cases px
  case false =>
    have HV : Hid (needsQ r.q = false) := by show _ = _; rw [HN.out]; simp
    go_wp2
    go_ret
    exact ⟨ret_bool HV.out.symm, HB2.out⟩
  have HV : Hid (needsQ r.q = !py) := by show _ = _; rw [HN.out, ← HM.out]; simp
  go_wp2
  go_ret
  exact ⟨ret_bool HV.out.symm, HB2.out⟩

set_option maxHeartbeats 2000000 in
theorem aKey_any (r : Rv) (w : World) (hr : RqOk w r) (he : Env8 w) :
    Calls Tryz.prog 28 #[r.v] w fun e w' => e = .returned (.string (mk (keyQ r.q))) ∧ Below w.heap.size w w' := by
  unfold Rv.v
  obtain ⟨W, hW⟩ : ∃ W, W = w.alloc (Obj.cells #[.string r.m, .string r.u, .string r.o, .int .i64 r.mode, .bool r.cr, .slice r.A r.n r.c, .int .i64 r.cl, .int .u64 r.tm, .int .i64 r.gr, .int .i64 r.sg] 25) := ⟨_, rfl⟩
  have hb0 : Below w.heap.size w W := by rw [hW]; exact (Below.refl _ _).alloc (Nat.le_refl _) _
  have HB0 := Lib.hid hb0
  have HR0 : Hid (RqAt W w.heap.size r) := by rw [hW]; exact RqAt.new w r _
  have HK := Lib.hid hr
  have HE := Lib.hid he
  clear hr he hb0
  go_enter Tryz.func28, Tryz.ntmps28
  go_wp2_with fail
  rw [← hW]
  clear hW
  refine (read_any r _ (HK.out.below HB0.out) (HE.out.below HB0.out)).mono ?_
  rintro e w1 ⟨p, rfl, hp, hs, hb⟩
  have HPV := Lib.hid hp
  have HS := Lib.hid hs
  have HB1 : Hid (Below w.heap.size w w1) := HB0.out.trans (hb.mono HB0.out.size)
  have HR1 : Hid (RqAt w1 w.heap.size r) := HR0.out.below hb HR0.out.lt
  clear hp hs hb
  simp only [Pv.v]
  have HA := Lib.hid ((Below.refl w1.heap.size w1).alloc (Nat.le_refl _) (Obj.cells #[.string p.a, .string p.b, .int .i64 p.n, .string p.c, .string p.d, .string p.s, .string p.h, .int .i64 p.k, .slice p.N p.nn p.cn, .bool p.x, .bool p.y] 86))
  have HB2 : Hid (Below w.heap.size w (w1.alloc (Obj.cells #[.string p.a, .string p.b, .int .i64 p.n, .string p.c, .string p.d, .string p.s, .string p.h, .int .i64 p.k, .slice p.N p.nn p.cn, .bool p.x, .bool p.y] 86))) := HB1.out.trans (HA.out.mono HB1.out.size)
  go_wp2_with fail
  refine (Key_any p.a p.b p.n _ (by have := HPV.out.hb; unfold maxLen; omega) (HE.out.below HB2.out).e).mono ?_
  rintro e w3 ⟨rfl, hb⟩
  have HB3 : Hid (Below w.heap.size w w3) := HB2.out.trans (hb.mono HB2.out.size)
  clear hb
  go_wp2
  go_ret
  exact ⟨ret_string (by rw [key_is HPV.out]), HB3.out⟩
end Go.Proofs.YtlkneapidmdpbaaGreatDoor

namespace Go.Proofs.YtlkneapidmdpbaaGreatDoor
open Go.RowKit

theorem com_eq : ∀ l : List (List UInt8), Lib.join l [44] = comL l
  | [] => rfl
  | [x] => by rw [Lib.join_one]; rfl
  | x :: y :: r => by
    have := com_eq (y :: r)
    rw [Lib.join_cons] at this ⊢
    rw [comL, ← this, Lib.joinTail, Lib.joinTail]
    simp
theorem com_len : ∀ l : List (List UInt8), (comL l).length ≤ (l.map List.length).sum + l.length
  | [] => by simp [comL]
  | [x] => by simp [comL]
  | x :: y :: r => by
    have := com_len (y :: r)
    simp only [comL, List.length_append, List.length_cons, List.map_cons, List.sum_cons] at *
    omega
theorem com_snoc (l : List (List UInt8)) (x : List UInt8) (h : l ≠ []) : comL (l ++ [x]) = comL l ++ 44 :: x := by
  induction l with
  | nil => exact absurd rfl h
  | cons y r ih =>
    cases r with
    | nil => rfl
    | cons z r =>
      have := ih (by simp)
      show y ++ 44 :: comL ((z :: r) ++ [x]) = (y ++ 44 :: comL (z :: r)) ++ 44 :: x
      rw [this]; simp
theorem sum_le8 {l : List (List UInt8)} {n : Nat} (h : ∀ x ∈ l, x.length ≤ n) : (l.map List.length).sum ≤ n * l.length := by
  induction l with
  | nil => simp
  | cons x r ih =>
    have h1 := h x (by simp)
    have h2 := ih (fun y hy => h y (List.mem_cons_of_mem _ hy))
    simp only [List.map_cons, List.sum_cons, List.length_cons]
    rw [Nat.mul_add]; omega
theorem names_small {l : List Hd} (h : Sm l) : (∀ x ∈ safeNames l, x.length ≤ 100000) ∧ (safeNames l).length ≤ 1000 := by
  refine ⟨fun x hx => ?_, Nat.le_trans (safeNames_len l) h.1⟩
  obtain ⟨g, hg, rfl⟩ := (names_mem l x).1 (safeNames_lows hx)
  rw [Lk.lower_len]
  exact (h.2 g hg).1
theorem namesQ_small {r : Rv} {w : World} (h : RqOk w r) : (∀ x ∈ namesQ r.q, x.length ≤ 100000) ∧ (namesQ r.q).length ≤ 1000 := by
  unfold namesQ
  split
  · exact names_small h.sm
  · simp
theorem com_small {l : List (List UInt8)} (h : (∀ x ∈ l, x.length ≤ 100000) ∧ l.length ≤ 1000) : (comL l).length ≤ 1099511627776 := by
  have h1 := com_len l
  have h2 := sum_le8 h.1
  have h3 : 100000 * l.length ≤ 100000 * 1000 := Nat.mul_le_mul_left _ h.2
  have := h.2
  omega
theorem dat_mk8 (l : List (List UInt8)) : dat (l.map mk) = l := by
  unfold dat
  rw [List.map_map]
  conv => rhs; rw [← List.map_id l]
  apply List.map_congr_left
  intro x _
  exact mk_data x

/-- strings.Join with one comma, of a row of the call's own -/
theorem SJoin_any (v : Value) (base : Nat) (l : List (List UInt8)) (w : World) (t : ByteArray) (h : sown w base v l) (hl : (comL l).length ≤ 1099511627776) (hn : l.length ≤ 1000) (ht : t = mk (comL l)) :
    Calls Tryz.prog 64 #[v, .string ⟨#[44]⟩] w fun e w' => e = .returned (.string t) ∧ Below w.heap.size w w' := by
  subst ht
  obtain ⟨A, c, rfl, hc, hx⟩ := trow_of h
  by_cases h0 : l = []
  · subst h0
    refine (Tryz.strings_Join_none _ _ _ _).mono ?_
    rintro e w' ⟨rfl, rfl⟩
    exact ⟨rfl, Below.refl _ _⟩
  · obtain ⟨x0, r, rfl⟩ := List.exists_cons_of_ne_nil h0
    obtain ⟨⟨bk, o, spot⟩, rfl, hb, hc0⟩ := hx 0 (mk x0) rfl
    have hs : spot = none := by simpa [Addr.add] using World.cell?_spot hc0
    subst hs
    have hcells : ∀ (j : Nat) x, ((x0 :: r).map mk)[j]? = some x → w.cell? ⟨bk, o + j, none⟩ = some (.string x) := by
      intro j x hj
      obtain ⟨ad, e, _, hcj⟩ := hx j x hj
      injection e with e
      subst e
      have e2 : (⟨bk, o, none⟩ : Addr).add j = ⟨bk, o + j, none⟩ := by unfold Addr.add; split <;> simp_all
      rw [← e2]; exact hcj
    have e : Lib.join (((x0 :: r).map mk).map (·.data.toList)) (ByteArray.mk #[44]).data.toList = comL (x0 :: r) := by
      rw [show (((x0 :: r).map mk).map (·.data.toList)) = x0 :: r from dat_mk8 (x0 :: r)]; exact com_eq _
    have hle : (x0 :: r).length = ((x0 :: r).map mk).length := by simp
    rw [hle] at hc ⊢
    refine (Tryz.strings_Join bk o c _ ⟨#[44]⟩ w hcells hb (by simp at hn ⊢; omega) hc (by rw [e]; omega)).mono ?_
    rintro e' w' ⟨rfl, hb⟩
    exact ⟨ret_string (by rw [e]; rfl), hb⟩

/-- what holds all through: the request in the first block, nothing in the second, which is the result's -/
structure WnAt (w W : World) (r : Rv) : Prop where
  bel : Below w.heap.size w W
  env0 : Env8 w
  ok0 : RqOk w r
  req : RqAt W w.heap.size r
  res : WtAt W (w.heap.size + 1) Wv.zero
  own : OwnB W (w.heap.size + 1)
theorem WnAt.env {w W : World} {r : Rv} (h : WnAt w W r) : Env8 W := h.env0.below h.bel
theorem WnAt.ok {w W : World} {r : Rv} (h : WnAt w W r) : RqOk W r := h.ok0.below h.bel
theorem WnAt.next {w W W' : World} {r : Rv} (h : WnAt w W r) (hb : Below W.heap.size W W') : WnAt w W' r :=
  ⟨h.bel.trans (hb.mono h.bel.size), h.env0, h.ok0, h.req.below hb h.req.lt, h.res.below hb h.res.lt, h.own.below hb h.res.lt⟩
theorem WnAt.alloc {w W : World} {r : Rv} (h : WnAt w W r) (o : Obj) : WnAt w (W.alloc o) r := h.next ((Below.refl _ _).alloc (Nat.le_refl _) o)
theorem WnAt.new {w : World} {r : Rv} (he : Env8 w) (hr : RqOk w r) (t t' : TypeId) : WnAt w ((w.alloc (.cells #[.string r.m, .string r.u, .string r.o, .int .i64 r.mode, .bool r.cr, .slice r.A r.n r.c, .int .i64 r.cl, .int .u64 r.tm, .int .i64 r.gr, .int .i64 r.sg] t)).alloc (.cells #[.string ⟨#[]⟩, .string ⟨#[]⟩, .bool false, .string ⟨#[]⟩, .string ⟨#[]⟩] t')) r := by
  have e : (w.alloc (.cells #[.string r.m, .string r.u, .string r.o, .int .i64 r.mode, .bool r.cr, .slice r.A r.n r.c, .int .i64 r.cl, .int .u64 r.tm, .int .i64 r.gr, .int .i64 r.sg] t)).heap.size = w.heap.size + 1 := by simp
  have h1 := RqAt.new w r t
  have h2 := WtAt.new (w.alloc (.cells #[.string r.m, .string r.u, .string r.o, .int .i64 r.mode, .bool r.cr, .slice r.A r.n r.c, .int .i64 r.cl, .int .u64 r.tm, .int .i64 r.gr, .int .i64 r.sg] t)) Wv.zero t'
  have h3 := OwnB.new (w.alloc (.cells #[.string r.m, .string r.u, .string r.o, .int .i64 r.mode, .bool r.cr, .slice r.A r.n r.c, .int .i64 r.cl, .int .u64 r.tm, .int .i64 r.gr, .int .i64 r.sg] t)) #[.string ⟨#[]⟩, .string ⟨#[]⟩, .bool false, .string ⟨#[]⟩, .string ⟨#[]⟩] t'
  rw [e] at h2 h3
  exact ⟨((Below.refl _ _).alloc (Nat.le_refl _) _).alloc (by rw [e]; omega) _, he, hr, h1.below ((Below.refl _ _).alloc (Nat.le_refl _) _) h1.lt, h2, h3⟩
structure Bl2 (W : World) (g3 g1 : Nat) (p : Pv) (r : Rv) : Prop where
  p : PtAt W g3 p
  r : RqAt W g1 r
theorem Bl2.below {W W' : World} {g3 g1 : Nat} {p : Pv} {r : Rv} (o : Bl2 W g3 g1 p r) (hb : Below W.heap.size W W') : Bl2 W' g3 g1 p r :=
  ⟨o.p.below hb o.p.lt, o.r.below hb o.r.lt⟩
theorem Bl2.put {W : World} {g3 g1 g : Nat} {p : Pv} {r : Rv} (o : Bl2 W g3 g1 p r) (h3 : g3 ≠ g) (h1 : g1 ≠ g) (z : Wv) : Bl2 (WtAt.put W g z) g3 g1 p r :=
  ⟨o.p.besideWtAt h3 z, o.r.besideWtAt h1 z⟩
theorem want_is {q : Rq} {p : Pv} (h : PvIs q p) (h0 : askI q = 0) : wantQ q = ⟨showL p.s.data.toList p.h.data.toList p.k, (urlOf p.a p.b p.n p.c p.d).show_, q.cr, Lk.normL q.m, comL (namesQ q)⟩ := by
  have e1 := h.url
  have e2 := h.org
  rw [urlQ, if_pos h0] at e1
  rw [fromQ, if_pos h0] at e2
  unfold wantQ namesQ
  rw [if_pos h0, if_pos h0, norm_is h0, e1, ← e2]

set_option maxRecDepth 100000 in
set_option maxHeartbeats 4000000 in
theorem aWant_any (r : Rv) (w : World) (hr : RqOk w r) (he : Env8 w) :
    Calls Tryz.prog 27 #[r.v] w fun e w' => e = .returned (wvOf (wantQ r.q)).v ∧ Below w.heap.size w w' := by
  unfold Rv.v
  obtain ⟨W, hW⟩ : ∃ W, W = (w.alloc (Obj.cells #[.string r.m, .string r.u, .string r.o, .int .i64 r.mode, .bool r.cr, .slice r.A r.n r.c, .int .i64 r.cl, .int .u64 r.tm, .int .i64 r.gr, .int .i64 r.sg] 25)).alloc (Obj.cells #[.string ⟨#[]⟩, .string ⟨#[]⟩, .bool false, .string ⟨#[]⟩, .string ⟨#[]⟩] 52) := ⟨_, rfl⟩
  have HP0 : Hid (WnAt w W r) := by rw [hW]; exact WnAt.new he hr _ _
  have HK := Lib.hid hr
  clear hr he
  go_enter Tryz.func27, Tryz.ntmps27
  go_wp2_with fail
  rw [← hW]
  clear hW
  refine (read_any r _ HP0.out.ok HP0.out.env).mono ?_
  rintro e w1 ⟨p, rfl, hp, hs, hb⟩
  have HPV := Lib.hid hp
  have HS1 := Lib.hid hs
  have HP1 : Hid (WnAt w w1 r) := HP0.out.next hb
  clear hp hs hb
  simp only [Pv.v]
  have HA := Lib.hid ((Below.refl w1.heap.size w1).alloc (Nat.le_refl _) (Obj.cells #[.string p.a, .string p.b, .int .i64 p.n, .string p.c, .string p.d, .string p.s, .string p.h, .int .i64 p.k, .slice p.N p.nn p.cn, .bool p.x, .bool p.y] 86))
  have HP2' := Lib.hid (HP1.out.next HA.out)
  have HT2' := Lib.hid (PtAt.new w1 p 86)
  obtain ⟨c, hc⟩ : ∃ c, c = askI r.q := ⟨_, rfl⟩
  rw [← hc]
  have HC := Lib.hid hc
  clear hc
  by_cases h0 : c = 0
  case neg =>
    have HV : Hid (wantQ r.q = ⟨[], [], false, [], []⟩) := by show _ = _; rw [wantQ, if_neg (by rw [← HC.out]; exact h0)]
    obtain ⟨c0, c1, c2, c3, c4⟩ := HP2'.out.res
    have ff := HP2'.out.own
    unfold OwnB at ff
    go_wp2
    obtain ⟨q0, q1, q2, q3, q4⟩ := HP2'.out.res.put_at Wv.zero
    dsimp only [WtAt.put, Wv.zero] at q0 q1 q2 q3 q4
    refine bodyPost_ret (v := .agg #[.string ⟨#[]⟩, .string ⟨#[]⟩, .bool false, .string ⟨#[]⟩, .string ⟨#[]⟩]) (by simp [results, Tryz.results27, go_sem, q0, q1, q2, q3, q4]) rfl ?_
    exact ⟨by rw [HV.out]; rfl, WtAt.put_below HP2'.out.bel (Nat.le_succ _) Wv.zero⟩
  subst h0
  have HWI := Lib.hid (want_is HPV.out HC.out.symm)
  obtain ⟨so, hso⟩ : ∃ t, t = mk (showL p.s.data.toList p.h.data.toList p.k) := ⟨_, rfl⟩
  have HSO := Lib.hid hso
  obtain ⟨su, hsu⟩ : ∃ t, t = mk (urlOf p.a p.b p.n p.c p.d).show_ := ⟨_, rfl⟩
  have HSU := Lib.hid hsu
  obtain ⟨sm, hsm⟩ : ∃ t, t = mk (Lk.normL r.m.data.toList) := ⟨_, rfl⟩
  have HSM := Lib.hid hsm
  obtain ⟨sn, hsn⟩ : ∃ t, t = mk (comL (namesQ r.q)) := ⟨_, rfl⟩
  have HSN := Lib.hid hsn
  clear hso hsu hsm hsn
  have hrr := HP2'.out.req
  obtain ⟨r0, r1, r2, r3, r4, r5, r6, r7, r8, r9⟩ := hrr
  go_wp2_with fail
  clear r0 r1 r2 r3 r4 r5 r6 r7 r8 r9
  obtain ⟨g3, hg3⟩ : ∃ g, g = w1.heap.size := ⟨_, rfl⟩
  obtain ⟨w2, hw2⟩ : ∃ W, W = w1.alloc (Obj.cells #[.string p.a, .string p.b, .int .i64 p.n, .string p.c, .string p.d, .string p.s, .string p.h, .int .i64 p.k, .slice p.N p.nn p.cn, .bool p.x, .bool p.y] 86) := ⟨_, rfl⟩
  have HP2 : Hid (WnAt w w2 r) := by rw [hw2]; exact HP2'.out
  have HB2 : Hid (Bl2 w2 g3 w.heap.size p r) := ⟨by rw [hw2, hg3]; exact HT2'.out, HP2.out.req⟩
  have HS2 : Hid (sown w2 W.heap.size (.slice p.N p.nn p.cn) (namesQ r.q)) := by rw [hw2]; exact ownsRow_below HS1.out HA.out
  have hn3 : g3 ≠ w.heap.size + 1 := by rw [hg3]; have := HP1.out.res.lt; omega
  rw [← hw2, ← hg3]
  clear hw2 hg3 HP2' HT2' HA HS1 HP1
  refine mix_start (fun W => Bl2 W g3 w.heap.size p r) (by kernel_rfl) ?_
  have hne : Nonempty (Held (fun W => Bl2 W g3 w.heap.size p r)) := ⟨⟨_, HB2.out⟩⟩
  have zp0 : ∀ q : Held (fun W => Bl2 W g3 w.heap.size p r), q.w.cell? ⟨g3, 0, none⟩ = some (.string p.a) := fun q => q.h.p.c0
  have zp1 : ∀ q : Held (fun W => Bl2 W g3 w.heap.size p r), q.w.cell? ⟨g3, 1, none⟩ = some (.string p.b) := fun q => q.h.p.c1
  have zp2 : ∀ q : Held (fun W => Bl2 W g3 w.heap.size p r), q.w.cell? ⟨g3, 2, none⟩ = some (.int .i64 p.n) := fun q => q.h.p.c2
  have zp3 : ∀ q : Held (fun W => Bl2 W g3 w.heap.size p r), q.w.cell? ⟨g3, 3, none⟩ = some (.string p.c) := fun q => q.h.p.c3
  have zp4 : ∀ q : Held (fun W => Bl2 W g3 w.heap.size p r), q.w.cell? ⟨g3, 4, none⟩ = some (.string p.d) := fun q => q.h.p.c4
  have zp5 : ∀ q : Held (fun W => Bl2 W g3 w.heap.size p r), q.w.cell? ⟨g3, 5, none⟩ = some (.string p.s) := fun q => q.h.p.c5
  have zp6 : ∀ q : Held (fun W => Bl2 W g3 w.heap.size p r), q.w.cell? ⟨g3, 6, none⟩ = some (.string p.h) := fun q => q.h.p.c6
  have zp7 : ∀ q : Held (fun W => Bl2 W g3 w.heap.size p r), q.w.cell? ⟨g3, 7, none⟩ = some (.int .i64 p.k) := fun q => q.h.p.c7
  have zp8 : ∀ q : Held (fun W => Bl2 W g3 w.heap.size p r), q.w.cell? ⟨g3, 8, none⟩ = some (.slice p.N p.nn p.cn) := fun q => q.h.p.c8
  have zr0 : ∀ q : Held (fun W => Bl2 W g3 w.heap.size p r), q.w.cell? ⟨w.heap.size, 0, none⟩ = some (.string r.m) := fun q => q.h.r.c0
  have zr4 : ∀ q : Held (fun W => Bl2 W g3 w.heap.size p r), q.w.cell? ⟨w.heap.size, 4, none⟩ = some (.bool r.cr) := fun q => q.h.r.c4
  obtain ⟨w3, hwd⟩ : ∃ W, W = w2.drew := ⟨_, rfl⟩
  rw [← hwd]
  have hb : Below w2.heap.size w2 w3 := by rw [hwd]; exact (Below.refl _ _).drew
  have HP3 : Hid (WnAt w w3 r) := HP2.out.next hb
  have HB3 : Hid (Bl2 w3 g3 w.heap.size p r) := HB2.out.below hb
  have HS3 : Hid (sown w3 W.heap.size (.slice p.N p.nn p.cn) (namesQ r.q)) := ownsRow_below HS2.out hb
  clear hb hwd
  refine mix_seg [0, 1, 3, 4, 6, 7, 9, 10, 12, 13] (by kernel_rfl) HB3.out ?_
  simp only [segOf, pickOps, pickOp]
  repeat (go_big_quiet_step (fail))
  refine wpQuiet_nil ?_
  refine mix_run 2 (by kernel_rfl) ?_
  simp only [segOf, pickOps, pickOp]
  go_wp2_with fail
  refine (Show_as p.s p.h p.k so _ (by have := HPV.out.hh; unfold maxLen; omega) HP3.out.env.e HSO.out).mono ?_
  rintro e w4 ⟨rfl, hb⟩
  have HP4 : Hid (WnAt w w4 r) := HP3.out.next hb
  have HB4 : Hid (Bl2 w4 g3 w.heap.size p r) := HB3.out.below hb
  have HS4 : Hid (sown w4 W.heap.size (.slice p.N p.nn p.cn) (namesQ r.q)) := ownsRow_below HS3.out hb
  clear hb
  go_wp2_with fail
  refine MixPost.normal HB4.out ?_
  refine mix_run 5 (by kernel_rfl) ?_
  simp only [segOf, pickOps, pickOp]
  go_wp2_with fail
  refine (tShow_any p.a p.b p.n p.c p.d _ (by have := HPV.out.hb; unfold maxLen; omega) (by have := HPV.out.hc; omega) (by have := HPV.out.hd; omega) HP4.out.env.e).mono ?_
  rintro e w5 ⟨rfl, hb⟩
  rw [← HSU.out]
  have HP5 : Hid (WnAt w w5 r) := HP4.out.next hb
  have HB5 : Hid (Bl2 w5 g3 w.heap.size p r) := HB4.out.below hb
  have HS5 : Hid (sown w5 W.heap.size (.slice p.N p.nn p.cn) (namesQ r.q)) := ownsRow_below HS4.out hb
  clear hb
  go_wp2_with fail
  refine MixPost.normal HB5.out ?_
  refine mix_seg [8] (by kernel_rfl) HB5.out ?_
  simp only [segOf, pickOps, pickOp]
  repeat (go_big_quiet_step (fail))
  refine wpQuiet_nil ?_
  refine mix_run 11 (by kernel_rfl) ?_
  simp only [segOf, pickOps, pickOp]
  go_wp2_with fail
  refine (MNorm_any r.m _ HK.out.hm HP5.out.env.m).mono ?_
  rintro e w6 ⟨rfl, n6, hw6⟩
  rw [← HSM.out]
  have hb : Below w5.heap.size w5 w6 := by rw [hw6]; exact below_drewN (Below.refl _ _) _
  have HP6 : Hid (WnAt w w6 r) := HP5.out.next hb
  have HB6 : Hid (Bl2 w6 g3 w.heap.size p r) := HB5.out.below hb
  have HS6 : Hid (sown w6 W.heap.size (.slice p.N p.nn p.cn) (namesQ r.q)) := ownsRow_below HS5.out hb
  clear hb hw6
  go_wp2_with fail
  refine MixPost.normal HB6.out ?_
  refine mix_run 14 (by kernel_rfl) ?_
  simp only [segOf, pickOps, pickOp]
  go_wp2_with fail
  refine (SJoin_any (.slice p.N p.nn p.cn) W.heap.size (namesQ r.q) _ sn HS6.out (com_small (namesQ_small HK.out)) (namesQ_small HK.out).2 HSN.out).mono ?_
  rintro e w7 ⟨rfl, hb⟩
  have HP7 : Hid (WnAt w w7 r) := HP6.out.next hb
  have HB7 : Hid (Bl2 w7 g3 w.heap.size p r) := HB6.out.below hb
  have HS7 : Hid (sown w7 W.heap.size (.slice p.N p.nn p.cn) (namesQ r.q)) := ownsRow_below HS6.out hb
  clear hb
  go_wp2_with fail
  refine MixPost.normal HB7.out ?_
  refine mix_seg [15] (by kernel_rfl) HB7.out ?_
  simp only [segOf, pickOps, pickOp]
  repeat (go_big_quiet_step (fail))
  refine wpQuiet_nil ?_
  refine mix_run 16 (by kernel_rfl) ?_
  simp only [segOf, pickOps, pickOp]
  obtain ⟨c0, c1, c2, c3, c4⟩ := HP7.out.res
  have ff := HP7.out.own
  unfold OwnB at ff
  go_wp2_with fail
  have HB8 : Hid (Bl2 (WtAt.put w7 (w.heap.size + 1) ⟨so, su, r.cr, sm, sn⟩) g3 w.heap.size p r) := HB7.out.put hn3 (by omega) _
  refine MixPost.normal HB8.out ?_
  refine mix_done (by kernel_rfl) ?_
  obtain ⟨q0, q1, q2, q3, q4⟩ := HP7.out.res.put_at ⟨so, su, r.cr, sm, sn⟩
  dsimp only [WtAt.put] at q0 q1 q2 q3 q4
  go_wp2
  refine bodyPost_ret (v := .agg #[.string so, .string su, .bool r.cr, .string sm, .string sn]) (by simp [results, Tryz.results27, go_sem, q0, q1, q2, q3, q4]) rfl ?_
  exact ⟨by rw [HWI.out, HSO.out, HSU.out, HSM.out, HSN.out]; rfl, WtAt.put_below HP7.out.bel (Nat.le_succ _) ⟨so, su, r.cr, sm, sn⟩⟩

theorem field_cell (a b : ByteArray) (c : Bool) (d e : ByteArray) (w : World) : (Instr.field 52 (.agg #[.string a, .string b, .bool c, .string d, .string e]) 0).run Tryz.prog w = .ok (.agg #[.string a, .string b, .bool c]) w := by kernel_rfl
set_option maxRecDepth 100000 in
set_option maxHeartbeats 2000000 in
theorem aCell_any (r : Rv) (w : World) (hr : RqOk w r) (he : Env8 w) :
    Calls Tryz.prog 22 #[r.v] w fun e w' => e = .returned (.agg #[.string (mk (wantQ r.q).o), .string (mk (wantQ r.q).u), .bool (wantQ r.q).cr]) ∧ Below w.heap.size w w' := by
  unfold Rv.v
  obtain ⟨W, hW⟩ : ∃ W, W = (w.alloc (Obj.cells #[.string r.m, .string r.u, .string r.o, .int .i64 r.mode, .bool r.cr, .slice r.A r.n r.c, .int .i64 r.cl, .int .u64 r.tm, .int .i64 r.gr, .int .i64 r.sg] 25)).alloc (Obj.cells #[.string ⟨#[]⟩, .string ⟨#[]⟩, .bool false] 45) := ⟨_, rfl⟩
  have e : (w.alloc (Obj.cells #[.string r.m, .string r.u, .string r.o, .int .i64 r.mode, .bool r.cr, .slice r.A r.n r.c, .int .i64 r.cl, .int .u64 r.tm, .int .i64 r.gr, .int .i64 r.sg] 25)).heap.size = w.heap.size + 1 := by simp
  have HB0 : Hid (Below w.heap.size w W) := by rw [hW]; exact ((Below.refl _ _).alloc (Nat.le_refl _) _).alloc (by rw [e]; omega) _
  have HC0 : Hid (W.cell? ⟨w.heap.size + 1, 0, none⟩ = some (.string ⟨#[]⟩) ∧ W.cell? ⟨w.heap.size + 1, 1, none⟩ = some (.string ⟨#[]⟩) ∧ W.cell? ⟨w.heap.size + 1, 2, none⟩ = some (.bool false)) := by
    rw [hW, ← e]; exact ⟨by simp, by simp, by simp⟩
  have HW0 : Hid (OwnB W (w.heap.size + 1)) := by rw [hW, ← e]; exact OwnB.new _ _ _
  have hlt : w.heap.size + 1 < W.heap.size := by rw [hW]; simp
  have HK := Lib.hid hr
  have HE := Lib.hid he
  clear hr he e
  go_enter Tryz.func22, Tryz.ntmps22
  go_wp2_with fail
  rw [← hW]
  clear hW
  refine (aWant_any r _ (HK.out.below HB0.out) (HE.out.below HB0.out)).mono ?_
  rintro e w1 ⟨rfl, hb⟩
  obtain ⟨zo, hzo⟩ : ∃ t, t = mk (wantQ r.q).o := ⟨_, rfl⟩
  obtain ⟨zu, hzu⟩ : ∃ t, t = mk (wantQ r.q).u := ⟨_, rfl⟩
  obtain ⟨zc, hzc⟩ : ∃ t, t = (wantQ r.q).cr := ⟨_, rfl⟩
  simp only [wvOf, Wv.v]
  rw [← hzo, ← hzu, ← hzc]
  have HB1 : Hid (Below w.heap.size w w1) := HB0.out.trans (hb.mono HB0.out.size)
  obtain ⟨c0, c1, c2⟩ := HC0.out
  have c0 := (hb.cell (p := ⟨w.heap.size + 1, 0, none⟩) hlt).trans c0
  have c1 := (hb.cell (p := ⟨w.heap.size + 1, 1, none⟩) hlt).trans c1
  have c2 := (hb.cell (p := ⟨w.heap.size + 1, 2, none⟩) hlt).trans c2
  have ff := HW0.out.below hb hlt
  unfold OwnB at ff
  have HZ : Hid (zo = mk (wantQ r.q).o ∧ zu = mk (wantQ r.q).u ∧ zc = (wantQ r.q).cr) := ⟨hzo, hzu, hzc⟩
  have HQ0 := Lib.hid (cell_keep (j := 2) (v := .bool zc) (cell_keep (j := 1) (v := .string zu) (World.cell?_setCell_same w1 ⟨w.heap.size + 1, 0, none⟩ (.string zo) c0) (by decide)) (by decide))
  have HQ1 := Lib.hid (cell_keep (j := 2) (v := .bool zc) (World.cell?_setCell_same (w1.setCell ⟨w.heap.size + 1, 0, none⟩ (.string zo)) ⟨w.heap.size + 1, 1, none⟩ (.string zu) (cell_keep c1 (by decide))) (by decide))
  have HQ2 := Lib.hid (World.cell?_setCell_same ((w1.setCell ⟨w.heap.size + 1, 0, none⟩ (.string zo)).setCell ⟨w.heap.size + 1, 1, none⟩ (.string zu)) ⟨w.heap.size + 1, 2, none⟩ (.bool zc) (cell_keep (cell_keep c2 (by decide)) (by decide)))
  clear hb hzo hzu hzc
  have hfd := fun d e W => field_cell zo zu zc d e W
  go_wp2
  have q0 := HQ0.out
  have q1 := HQ1.out
  have q2 := HQ2.out
  refine bodyPost_ret (v := .agg #[.string zo, .string zu, .bool zc]) (by simp [results, Tryz.results22, go_sem, q0, q1, q2]) rfl ?_
  exact ⟨by rw [HZ.out.1, HZ.out.2.1, HZ.out.2.2], ((HB1.out.setCell (Nat.le_succ _) _).setCell (Nat.le_succ _) _).setCell (Nat.le_succ _) _⟩
end Go.Proofs.YtlkneapidmdpbaaGreatDoor

namespace Go.Proofs.YtlkneapidmdpbaaGreatDoor
open Go.RowKit

/-- what holds all through: a request in the first block, which may be written; nothing in the second, which is the result's -/
structure NmAt (w W : World) (r : Rv) : Prop where
  bel : Below w.heap.size w W
  env0 : Env8 w
  req : RqAt W w.heap.size r
  own1 : OwnB W w.heap.size
  res : RqAt W (w.heap.size + 1) Rv.zero
  own : OwnB W (w.heap.size + 1)
theorem NmAt.env {w W : World} {r : Rv} (h : NmAt w W r) : Env8 W := h.env0.below h.bel
theorem NmAt.next {w W W' : World} {r : Rv} (h : NmAt w W r) (hb : Below W.heap.size W W') : NmAt w W' r :=
  ⟨h.bel.trans (hb.mono h.bel.size), h.env0, h.req.below hb h.req.lt, h.own1.below hb h.req.lt, h.res.below hb h.res.lt, h.own.below hb h.res.lt⟩
theorem NmAt.new {w : World} {r : Rv} (he : Env8 w) (t t' : TypeId) : NmAt w ((w.alloc (.cells #[.string r.m, .string r.u, .string r.o, .int .i64 r.mode, .bool r.cr, .slice r.A r.n r.c, .int .i64 r.cl, .int .u64 r.tm, .int .i64 r.gr, .int .i64 r.sg] t)).alloc (.cells #[.string ⟨#[]⟩, .string ⟨#[]⟩, .string ⟨#[]⟩, .int .i64 0, .bool false, .slice none 0 0, .int .i64 0, .int .u64 0, .int .i64 0, .int .i64 0] t')) r := by
  have e : (w.alloc (.cells #[.string r.m, .string r.u, .string r.o, .int .i64 r.mode, .bool r.cr, .slice r.A r.n r.c, .int .i64 r.cl, .int .u64 r.tm, .int .i64 r.gr, .int .i64 r.sg] t)).heap.size = w.heap.size + 1 := by simp
  have h1 := RqAt.new w r t
  have h2 := RqAt.new (w.alloc (.cells #[.string r.m, .string r.u, .string r.o, .int .i64 r.mode, .bool r.cr, .slice r.A r.n r.c, .int .i64 r.cl, .int .u64 r.tm, .int .i64 r.gr, .int .i64 r.sg] t)) Rv.zero t'
  have h3 := OwnB.new (w.alloc (.cells #[.string r.m, .string r.u, .string r.o, .int .i64 r.mode, .bool r.cr, .slice r.A r.n r.c, .int .i64 r.cl, .int .u64 r.tm, .int .i64 r.gr, .int .i64 r.sg] t)) #[.string ⟨#[]⟩, .string ⟨#[]⟩, .string ⟨#[]⟩, .int .i64 0, .bool false, .slice none 0 0, .int .i64 0, .int .u64 0, .int .i64 0, .int .i64 0] t'
  have h4 := OwnB.new w #[.string r.m, .string r.u, .string r.o, .int .i64 r.mode, .bool r.cr, .slice r.A r.n r.c, .int .i64 r.cl, .int .u64 r.tm, .int .i64 r.gr, .int .i64 r.sg] t
  rw [e] at h2 h3
  exact ⟨((Below.refl _ _).alloc (Nat.le_refl _) _).alloc (by rw [e]; omega) _, he, h1.below ((Below.refl _ _).alloc (Nat.le_refl _) _) h1.lt, h4.below ((Below.refl _ _).alloc (Nat.le_refl _) _) h1.lt, h2, h3⟩
theorem NmAt.set0 {w W : World} {r : Rv} (h : NmAt w W r) (x : ByteArray) : NmAt w (W.setCell ⟨w.heap.size, 0, none⟩ (.string x)) { r with m := x } :=
  ⟨h.bel.setCell (Nat.le_refl _) _, h.env0, h.req.set0 x, h.own1.set _ _, h.res.other (by omega), h.own.set _ _⟩
theorem NmAt.set1 {w W : World} {r : Rv} (h : NmAt w W r) (x : ByteArray) : NmAt w (W.setCell ⟨w.heap.size, 1, none⟩ (.string x)) { r with u := x } :=
  ⟨h.bel.setCell (Nat.le_refl _) _, h.env0, h.req.set1 x, h.own1.set _ _, h.res.other (by omega), h.own.set _ _⟩
theorem NmAt.set2 {w W : World} {r : Rv} (h : NmAt w W r) (x : ByteArray) : NmAt w (W.setCell ⟨w.heap.size, 2, none⟩ (.string x)) { r with o := x } :=
  ⟨h.bel.setCell (Nat.le_refl _) _, h.env0, h.req.set2 x, h.own1.set _ _, h.res.other (by omega), h.own.set _ _⟩
theorem NmAt.set5 {w W : World} {r : Rv} (h : NmAt w W r) (A : Option Addr) (n c : Nat) (xs : List (ByteArray × ByteArray)) : NmAt w (W.setCell ⟨w.heap.size, 5, none⟩ (.slice A n c)) { r with A := A, n := n, c := c, xs := xs } :=
  ⟨h.bel.setCell (Nat.le_refl _) _, h.env0, h.req.set5 A n c xs, h.own1.set _ _, h.res.other (by omega), h.own.set _ _⟩

theorem sm_norm {l : List Hd} (h : Sm l) : Sm (normL l) := by
  refine ⟨by simpa [normL] using h.1, fun g hg => ?_⟩
  unfold normL at hg
  obtain ⟨x, hx, rfl⟩ := List.mem_map.1 hg
  have h1 := h.2 x hx
  refine ⟨by simpa [normH, Lk.lower_len] using h1.1, ?_⟩
  have := Lk.trim_len x.2
  simp only [normH]; omega

set_option maxRecDepth 100000 in
set_option maxHeartbeats 4000000 in
theorem aNorm_any (r : Rv) (w : World) (hr : RqOk w r) (he : Env8 w) :
    Calls Tryz.prog 25 #[r.v] w fun e w' => ∃ z : Rv, e = .returned z.v ∧ z.q = normQ r.q ∧ RqOk w' z ∧ Below w.heap.size w w' := by
  unfold Rv.v
  obtain ⟨W, hW⟩ : ∃ W, W = (w.alloc (Obj.cells #[.string r.m, .string r.u, .string r.o, .int .i64 r.mode, .bool r.cr, .slice r.A r.n r.c, .int .i64 r.cl, .int .u64 r.tm, .int .i64 r.gr, .int .i64 r.sg] 25)).alloc (Obj.cells #[.string ⟨#[]⟩, .string ⟨#[]⟩, .string ⟨#[]⟩, .int .i64 0, .bool false, .slice none 0 0, .int .i64 0, .int .u64 0, .int .i64 0, .int .i64 0] 25) := ⟨_, rfl⟩
  have HP0 : Hid (NmAt w W r) := by rw [hW]; exact NmAt.new he _ _
  have HK := Lib.hid hr
  clear hr he
  go_enter Tryz.func25, Tryz.ntmps25
  go_wp2_with fail
  rw [← hW]
  clear hW
  refine (read_any r _ (HK.out.below HP0.out.bel) HP0.out.env).mono ?_
  rintro e w1 ⟨p, rfl, hp, _, hb⟩
  have HPV := Lib.hid hp
  have HP1 : Hid (NmAt w w1 r) := HP0.out.next hb
  clear hp hb
  simp only [Pv.v]
  have HA := Lib.hid ((Below.refl w1.heap.size w1).alloc (Nat.le_refl _) (Obj.cells #[.string p.a, .string p.b, .int .i64 p.n, .string p.c, .string p.d, .string p.s, .string p.h, .int .i64 p.k, .slice p.N p.nn p.cn, .bool p.x, .bool p.y] 86))
  have HP2' := Lib.hid (HP1.out.next HA.out)
  have HT2' := Lib.hid (PtAt.new w1 p 86)
  obtain ⟨c, hc⟩ : ∃ c, c = askI r.q := ⟨_, rfl⟩
  rw [← hc]
  have HC := Lib.hid hc
  clear hc
  by_cases h0 : c = 0
  case neg =>
    have HV : Hid (normQ r.q = Rq.zero) := norm_zero (by rw [← HC.out]; exact h0)
    obtain ⟨c0, c1, c2, c3, c4, c5, c6, c7, c8, c9⟩ := HP2'.out.res
    have ff := HP2'.out.own
    unfold OwnB at ff
    go_wp2
    obtain ⟨q0, q1, q2, q3, q4, q5, q6, q7, q8, q9⟩ := HP2'.out.res.put_at Rv.zero
    dsimp only [RqAt.put, Rv.zero] at q0 q1 q2 q3 q4 q5 q6 q7 q8 q9
    refine bodyPost_ret (v := .agg #[.string ⟨#[]⟩, .string ⟨#[]⟩, .string ⟨#[]⟩, .int .i64 0, .bool false, .slice none 0 0, .int .i64 0, .int .u64 0, .int .i64 0, .int .i64 0]) (by simp [results, Tryz.results25, go_sem, q0, q1, q2, q3, q4, q5, q6, q7, q8, q9]) rfl ?_
    exact ⟨Rv.zero, rfl, by rw [HV.out]; rfl, RqOk.zero _, RqAt.put_below HP2'.out.bel (Nat.le_succ _) Rv.zero⟩
  subst h0
  have HU : Hid (urlOf p.a p.b p.n p.c p.d = (tgtL r.q.u).1) := by show _ = _; rw [HPV.out.url, urlQ, if_pos HC.out.symm]
  have HO : Hid ((p.s.data.toList, p.h.data.toList, p.k) = orgO r.q.o) := by show _ = _; rw [HPV.out.org, fromQ, if_pos HC.out.symm]
  have HNQ := Lib.hid (norm_is HC.out.symm)
  obtain ⟨so, hso⟩ : ∃ t, t = mk (showL p.s.data.toList p.h.data.toList p.k) := ⟨_, rfl⟩
  have HSO := Lib.hid hso
  have hsoz : so.size ≤ maxLen := by rw [hso, mk_size]; have := show_len (sc := p.s.data.toList) (h := p.h.data.toList) (p := p.k); unfold maxLen; omega
  obtain ⟨su, hsu⟩ : ∃ t, t = mk (urlOf p.a p.b p.n p.c p.d).show_ := ⟨_, rfl⟩
  have HSU := Lib.hid hsu
  have hsuz : su.size ≤ maxLen := by rw [hsu, mk_size]; have := ushow_len (urlOf p.a p.b p.n p.c p.d); unfold maxLen; omega
  obtain ⟨sm, hsm⟩ : ∃ t, t = mk (Lk.normL r.m.data.toList) := ⟨_, rfl⟩
  have HSM := Lib.hid hsm
  have hsmz : sm.size ≤ maxLen := by rw [hsm, mk_size, Lk.norm_len]; have := HK.out.hm; simpa using this
  have HZ : Hid (so.size ≤ maxLen ∧ su.size ≤ maxLen ∧ sm.size ≤ maxLen) := ⟨hsoz, hsuz, hsmz⟩
  clear hso hsu hsm hsoz hsuz hsmz
  obtain ⟨r0, r1, r2, r3, r4, r5, r6, r7, r8, r9⟩ := HP2'.out.req
  go_wp2_with fail
  refine (MNorm_any r.m _ HK.out.hm HP2'.out.env.m).mono ?_
  rintro e w3 ⟨rfl, n3, hw3⟩
  rw [← HSM.out]
  obtain ⟨g3, hg3⟩ : ∃ g, g = w1.heap.size := ⟨_, rfl⟩
  have hb : Below (w1.alloc (Obj.cells #[.string p.a, .string p.b, .int .i64 p.n, .string p.c, .string p.d, .string p.s, .string p.h, .int .i64 p.k, .slice p.N p.nn p.cn, .bool p.x, .bool p.y] 86)).heap.size (w1.alloc (Obj.cells #[.string p.a, .string p.b, .int .i64 p.n, .string p.c, .string p.d, .string p.s, .string p.h, .int .i64 p.k, .slice p.N p.nn p.cn, .bool p.x, .bool p.y] 86)) w3 := by rw [hw3]; exact below_drewN (Below.refl _ _) _
  have HP3 : Hid (NmAt w w3 r) := HP2'.out.next hb
  have HT3 : Hid (PtAt w3 g3 p) := by rw [hg3]; exact HT2'.out.below hb HT2'.out.lt
  have hn3 : g3 ≠ w.heap.size := by rw [hg3]; have := HP1.out.res.lt; omega
  rw [← hg3]
  clear hb hw3 hg3 HP2' HT2' HA HP1 r0 r1 r2 r3 r4 r5 r6 r7 r8 r9
  obtain ⟨a1, ha1⟩ : ∃ a, a = { r with m := sm } := ⟨_, rfl⟩
  have HP4 : Hid (NmAt w (w3.setCell ⟨w.heap.size, 0, none⟩ (.string sm)) a1) := by rw [ha1]; exact HP3.out.set0 sm
  have HT4 : Hid (PtAt (w3.setCell ⟨w.heap.size, 0, none⟩ (.string sm)) g3 p) := HT3.out.other hn3
  have HA1 := Lib.hid ha1
  clear ha1
  obtain ⟨r0, r1, r2, r3, r4, r5, r6, r7, r8, r9⟩ := HP3.out.req
  have ff := HP3.out.own1
  unfold OwnB at ff
  obtain ⟨p0, p1, p2, p3, p4, p5, p6, p7, p8, p9, p10⟩ := HT4.out
  go_wp2_with fail
  refine (tShow_any p.a p.b p.n p.c p.d _ (by have := HPV.out.hb; unfold maxLen; omega) (by have := HPV.out.hc; omega) (by have := HPV.out.hd; omega) HP4.out.env.e).mono ?_
  rintro e w5 ⟨rfl, hb⟩
  rw [← HSU.out]
  have HP5 : Hid (NmAt w w5 a1) := HP4.out.next hb
  have HT5 : Hid (PtAt w5 g3 p) := HT4.out.below hb HT4.out.lt
  clear hb ff HP4 HT4 HP3 HT3 r0 r1 r2 r3 r4 r5 r6 r7 r8 r9 p0 p1 p2 p3 p4 p5 p6 p7 p8 p9 p10
  obtain ⟨a2, ha2⟩ : ∃ a, a = { a1 with u := su } := ⟨_, rfl⟩
  have HP6 : Hid (NmAt w (w5.setCell ⟨w.heap.size, 1, none⟩ (.string su)) a2) := by rw [ha2]; exact HP5.out.set1 su
  have HT6 : Hid (PtAt (w5.setCell ⟨w.heap.size, 1, none⟩ (.string su)) g3 p) := HT5.out.other hn3
  have HA2 := Lib.hid ha2
  clear ha2
  obtain ⟨r0, r1, r2, r3, r4, r5, r6, r7, r8, r9⟩ := HP5.out.req
  have ff := HP5.out.own1
  unfold OwnB at ff
  obtain ⟨p0, p1, p2, p3, p4, p5, p6, p7, p8, p9, p10⟩ := HT6.out
  go_wp2_with fail
  refine (Show_as p.s p.h p.k so _ (by have := HPV.out.hh; unfold maxLen; omega) HP6.out.env.e HSO.out).mono ?_
  rintro e w7 ⟨rfl, hb⟩
  have HP7 : Hid (NmAt w w7 a2) := HP6.out.next hb
  clear hb ff HP6 HT6 HP5 HT5 r0 r1 r2 r3 r4 r5 r6 r7 r8 r9 p0 p1 p2 p3 p4 p5 p6 p7 p8 p9 p10
  obtain ⟨a3, ha3⟩ : ∃ a, a = { a2 with o := so } := ⟨_, rfl⟩
  have HP8 : Hid (NmAt w (w7.setCell ⟨w.heap.size, 2, none⟩ (.string so)) a3) := by rw [ha3]; exact HP7.out.set2 so
  have HA3 : Hid (a3 = { r with m := sm, u := su, o := so }) := by rw [ha3, HA2.out, HA1.out]; rfl
  have HX3 : Hid (a3.A = r.A ∧ a3.n = r.n ∧ a3.c = r.c) := by rw [HA3.out]; exact ⟨rfl, rfl, rfl⟩
  clear ha3
  have hok := HK.out.below HP8.out.bel
  have HKR := Lib.hid hok.row
  obtain ⟨r0, r1, r2, r3, r4, r5, r6, r7, r8, r9⟩ := HP7.out.req
  have ff := HP7.out.own1
  unfold OwnB at ff
  have s5 := HP8.out.req.c5
  rw [HX3.out.1, HX3.out.2.1, HX3.out.2.2] at s5
  clear hok
  go_wp2_with fail
  refine (HNorm_any r.A r.n r.c _ r.xs _ HK.out.len (Nat.le_refl _) HKR.out (by have := HK.out.sm.1; simp at this; omega) (fun x hx => by have := HK.out.sm.sizes.2 x hx; unfold maxLen; omega)).mono ?_
  rintro e w9 ⟨v, rfl, hrow, hb⟩
  have HP9 : Hid (NmAt w w9 a3) := HP8.out.next hb
  have hsz : w.heap.size + 1 < (w7.setCell ⟨w.heap.size, 2, none⟩ (.string so)).heap.size := HP8.out.res.lt
  have HROW := Lib.hid hrow
  obtain ⟨N, nn, cn, ys, rfl, hnn, hys, _, _⟩ := hrow.row
  have HNN := Lib.hid hnn
  have HYS := Lib.hid hys
  clear hb ff s5 HP8 hrow hnn hys r0 r1 r2 r3 r4 r5 r6 r7 r8 r9
  obtain ⟨a4, ha4⟩ : ∃ a, a = { a3 with A := N, n := nn, c := cn, xs := ys } := ⟨_, rfl⟩
  have HPA : Hid (NmAt w (w9.setCell ⟨w.heap.size, 5, none⟩ (.slice N nn cn)) a4) := by rw [ha4]; exact HP9.out.set5 N nn cn ys
  have HA4 : Hid (a4 = { r with m := sm, u := su, o := so, A := N, n := nn, c := cn, xs := ys }) := by rw [ha4, HA3.out]; rfl
  have HRA : Hid (HdRow (w9.setCell ⟨w.heap.size, 5, none⟩ (.slice N nn cn)) (w7.setCell ⟨w.heap.size, 2, none⟩ (.string so)).heap.size (.slice N nn cn) (normL (r.xs.map hd))) := own_set HROW.out (by omega)
  have HX4 : Hid (a4.A = N ∧ a4.n = nn ∧ a4.c = cn) := by rw [HA4.out]; exact ⟨rfl, rfl, rfl⟩
  clear ha4
  have s9 := HP9.out.req.c5
  have f9 := HP9.out.own1
  unfold OwnB at f9
  obtain ⟨r0, r1, r2, r3, r4, r5, r6, r7, r8, r9⟩ := HPA.out.req
  rw [HX4.out.1, HX4.out.2.1, HX4.out.2.2] at r5
  obtain ⟨c0, c1, c2, c3, c4, c5, c6, c7, c8, c9⟩ := HPA.out.res
  have ff := HPA.out.own
  unfold OwnB at ff
  go_wp2
  obtain ⟨q0, q1, q2, q3, q4, q5, q6, q7, q8, q9⟩ := HPA.out.res.put_at a4
  dsimp only [RqAt.put] at q0 q1 q2 q3 q4 q5 q6 q7 q8 q9
  rw [HX4.out.1, HX4.out.2.1, HX4.out.2.2] at q0 q1 q2 q3 q4 q5 q6 q7 q8 q9
  refine bodyPost_ret (v := .agg #[.string a4.m, .string a4.u, .string a4.o, .int .i64 a4.mode, .bool a4.cr, .slice N nn cn, .int .i64 a4.cl, .int .u64 a4.tm, .int .i64 a4.gr, .int .i64 a4.sg]) (by simp [results, Tryz.results25, go_sem, q0, q1, q2, q3, q4, q5, q6, q7, q8, q9]) rfl ?_
  have e4 := HA4.out
  subst e4
  have e1 : sm.data.toList = Lk.normL r.m.data.toList := by rw [HSM.out, mk_data]
  have e2 : su.data.toList = (tgtL r.q.u).1.show_ := by rw [HSU.out, mk_data, HU.out]
  have e3 : so.data.toList = showL (orgO r.q.o).1 (orgO r.q.o).2.1 (orgO r.q.o).2.2 := by rw [HSO.out, mk_data, ← HO.out]
  have h5 := own_rq HRA.out hsz { r with m := sm, u := su, o := so, A := N, n := nn, c := cn, xs := ys }
  obtain ⟨A', n', c', ys', e', hn', hy', _, hp'⟩ := HdRow.row h5
  injection e' with eA en ec
  have ey : ys' = ys := row_alike (hy'.trans HYS.out.symm)
  subst eA en ec ey
  refine ⟨{ r with m := sm, u := su, o := so, A := N, n := nn, c := cn, xs := ys' }, rfl, ?_, ⟨hp', HNN.out, ?_, HZ.out.2.2, HZ.out.2.1, HZ.out.1⟩, RqAt.put_below HPA.out.bel (Nat.le_succ _) { r with m := sm, u := su, o := so, A := N, n := nn, c := cn, xs := ys' }⟩
  · rw [HNQ.out]
    show (⟨sm.data.toList, su.data.toList, so.data.toList, r.mode, r.cr, ys'.map hd, r.cl, r.tm, r.gr, r.sg⟩ : Rq) = _
    rw [e1, e2, e3, HYS.out]
    rfl
  · show Sm (ys'.map hd)
    rw [HYS.out]
    exact sm_norm HK.out.sm

end Go.Proofs.YtlkneapidmdpbaaGreatDoor
