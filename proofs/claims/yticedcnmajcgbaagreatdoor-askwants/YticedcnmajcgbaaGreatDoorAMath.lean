/-
  Plain mathematics of requests: what may be, what is normed, whether it crosses, what a preflight asks for. It speaks of no program. No conditions beyond those of each statement.
-/
import Derived.Test.YticedcnmajcgbaaGreatDoorLMeth
import Derived.Test.YticedcnmajcgbaaGreatDoorLSafe
namespace Go.Proofs.YticedcnmajcgbaaGreatDoor

structure Rq where
  m : List UInt8
  u : List UInt8
  o : List UInt8
  mode : Int
  cr : Bool
  hs : List Hd
  cl : Int
  tm : Int
  gr : Int
  sg : Int
def Rq.zero : Rq := ⟨[], [], [], 0, false, [], 0, 0, 0, 0⟩
def orgI (l : List UInt8) : Int := if 512 < l.length then 4 else match parseL l with | some _ => 0 | none => 3
def orgO (l : List UInt8) : List UInt8 × List UInt8 × Int := if 512 < l.length then ([], [], 0) else (parseL l).getD ([], [], 0)
def modeOk (k : Int) : Bool := k == 1 || k == 2 || k == 3
/-- the numbers of a request, behind its texts -/
def numsI (r : Rq) : Int := if r.cl < 1 ∨ 6 < r.cl then 8 else if 600 < r.tm then 9 else if r.gr < 0 ∨ r.sg < 0 then 2 else 0
def fieldsI (r : Rq) : Int :=
  if Lk.methI r.m ≠ 0 then Lk.methI r.m else if modeOk r.mode = false then 7 else if checkH r.hs ≠ 0 then checkH r.hs else numsI r
def crossB (r : Rq) : Bool := !((tgtL r.u).1.sc == (orgO r.o).1 && (tgtL r.u).1.h == (orgO r.o).2.1 && (tgtL r.u).1.p == (orgO r.o).2.2)
def plainB (r : Rq) : Bool := Lk.safeL r.m && decide ((safeNames r.hs).length = 0)
def suitB (mode : Int) (c p : Bool) : Bool := if mode = 1 then !c else if mode = 2 then p else true
def askI (r : Rq) : Int :=
  if (tgtL r.u).2 ≠ 0 then (tgtL r.u).2 else if orgI r.o ≠ 0 then orgI r.o else if fieldsI r ≠ 0 then fieldsI r
  else if suitB r.mode (crossB r) (plainB r) = true then 0 else 7
def normQ (r : Rq) : Rq :=
  if askI r = 0 then { r with m := Lk.normL r.m, u := (tgtL r.u).1.show_, o := showL (orgO r.o).1 (orgO r.o).2.1 (orgO r.o).2.2, hs := normL r.hs } else Rq.zero
def urlQ (r : Rq) : Url := if askI r = 0 then (tgtL r.u).1 else Url.zero
def fromQ (r : Rq) : List UInt8 × List UInt8 × Int := if askI r = 0 then orgO r.o else ([], [], 0)
def crossQ (r : Rq) : Bool := if askI r = 0 then crossB r else false
def plainQ (r : Rq) : Bool := if askI r = 0 then plainB r else false
def namesQ (r : Rq) : List (List UInt8) := if askI r = 0 then safeNames r.hs else []
def needsQ (r : Rq) : Bool := (r.mode == 3) && crossQ r && !plainQ r
def keyQ (r : Rq) : List UInt8 := if askI r = 0 then keyL (tgtL r.u).1.sc (tgtL r.u).1.h (tgtL r.u).1.p else []
def comL : List (List UInt8) → List UInt8
  | [] => []
  | [x] => x
  | x :: y :: r => x ++ 44 :: comL (y :: r)
/-- what a preflight asks for: origin, URL, credentials, method, names -/
structure Wq where
  o : List UInt8
  u : List UInt8
  cr : Bool
  m : List UInt8
  n : List UInt8
def wantQ (r : Rq) : Wq := if askI r = 0 then ⟨(normQ r).o, (normQ r).u, r.cr, (normQ r).m, comL (safeNames r.hs)⟩ else ⟨[], [], false, [], []⟩

theorem org_cases (l : List UInt8) : (orgI l = 3 ∧ orgO l = ([], [], 0)) ∨ (orgI l = 4 ∧ orgO l = ([], [], 0)) ∨ (orgI l = 0 ∧ parseL l = some (orgO l) ∧ checkL (orgO l).1 (orgO l).2.1 (orgO l).2.2 = true) := by
  unfold orgI orgO
  by_cases h : 512 < l.length
  · simp [h]
  · simp only [h, if_false]
    cases hp : parseL l with
    | none => simp
    | some q => exact .inr (.inr ⟨rfl, rfl, parse_check hp⟩)
theorem org_show {sc h : List UInt8} {p : Int} (hc : checkL sc h p = true) : orgI (showL sc h p) = 0 ∧ orgO (showL sc h p) = (sc, h, p) := by
  have hl := show_len (sc := sc) (h := h) (p := p)
  unfold orgI orgO
  simp [show ¬ 512 < (showL sc h p).length by omega, parse_show hc]
theorem nums_0 {r : Rq} (h : numsI r = 0) : 1 ≤ r.cl ∧ r.cl ≤ 6 ∧ r.tm ≤ 600 ∧ 0 ≤ r.gr ∧ 0 ≤ r.sg := by
  unfold numsI at h
  repeat' split at h
  all_goals first | omega | (simp at h)
theorem fields_0 {r : Rq} (h : fieldsI r = 0) : Lk.methI r.m = 0 ∧ modeOk r.mode = true ∧ checkH r.hs = 0 ∧ numsI r = 0 := by
  unfold fieldsI at h
  split at h
  · contradiction
  rename_i h1
  split at h
  · simp at h
  rename_i h2
  split at h
  · contradiction
  rename_i h3
  exact ⟨by simpa using h1, by simpa using h2, by simpa using h3, h⟩
theorem ask_0 {r : Rq} (h : askI r = 0) : (tgtL r.u).2 = 0 ∧ orgI r.o = 0 ∧ fieldsI r = 0 ∧ suitB r.mode (crossB r) (plainB r) = true := by
  unfold askI at h
  split at h
  · contradiction
  rename_i h1
  split at h
  · contradiction
  rename_i h2
  split at h
  · contradiction
  rename_i h3
  split at h
  · rename_i h4; exact ⟨by simpa using h1, by simpa using h2, by simpa using h3, h4⟩
  · simp at h
theorem ask_of {r : Rq} (h1 : (tgtL r.u).2 = 0) (h2 : orgI r.o = 0) (h3 : fieldsI r = 0) (h4 : suitB r.mode (crossB r) (plainB r) = true) : askI r = 0 := by
  unfold askI; simp [h1, h2, h3, h4]
theorem tgt_ok {l : List UInt8} (h : (tgtL l).2 = 0) : (tgtL l).1.ok = true := by
  rcases tgt_cases l with e | e | ⟨_, e⟩
  · rw [e] at h; simp at h
  · rw [e] at h; simp at h
  · exact e
theorem org_ok {l : List UInt8} (h : orgI l = 0) : parseL l = some (orgO l) ∧ checkL (orgO l).1 (orgO l).2.1 (orgO l).2.2 = true := by
  rcases org_cases l with ⟨e, _⟩ | ⟨e, _⟩ | ⟨_, e⟩
  · omega
  · omega
  · exact e

/-! by Norm again -/
theorem safeH_norm (h : Hd) : safeH (normH h) = safeH h := by simp [safeH, normH, Lk.trim_trim, Lk.lower_lower]
theorem filter_norm (l : List Hd) (p : Hd → Bool) (hp : ∀ h, p (normH h) = p h) : (normL l).filter p = normL (l.filter p) := by
  unfold normL
  induction l with
  | nil => rfl
  | cons h r ih => rw [List.map_cons, List.filter_cons, List.filter_cons, hp, ih]; split <;> rfl
theorem safeNames_norm (l : List Hd) : safeNames (normL l) = safeNames l := by
  have e1 : safeSum (normL l) = safeSum l := by
    unfold safeSum
    rw [filter_norm l safeH safeH_norm]
    congr 1
    unfold normL
    rw [List.map_map]
    refine List.map_congr_left fun h _ => ?_
    simp [normH, Lk.trim_trim]
  have e2 : lowsL (normL l) = lowsL l := by
    unfold lowsL normL
    rw [List.map_map]
    refine List.map_congr_left fun h _ => ?_
    simp [normH, Lk.lower_lower]
  have e3 : askedL (normL l) = askedL l := by
    unfold askedL
    rw [filter_norm l (fun h => !safeH h) (fun h => by rw [safeH_norm])]
    unfold normL
    rw [List.map_map]
    refine List.map_congr_left fun h _ => ?_
    simp [normH, Lk.lower_lower]
  unfold safeNames
  rw [e1, e2, e3]
theorem norm_is {r : Rq} (h : askI r = 0) : normQ r = { r with m := Lk.normL r.m, u := (tgtL r.u).1.show_, o := showL (orgO r.o).1 (orgO r.o).2.1 (orgO r.o).2.2, hs := normL r.hs } := by rw [normQ, if_pos h]
theorem norm_u {r : Rq} (h : askI r = 0) : tgtL (normQ r).u = ((tgtL r.u).1, 0) := by
  rw [norm_is h]; exact tgt_show (tgt_ok (ask_0 h).1)
theorem norm_o {r : Rq} (h : askI r = 0) : orgI (normQ r).o = 0 ∧ orgO (normQ r).o = orgO r.o := by
  rw [norm_is h]
  exact org_show (org_ok (ask_0 h).2.1).2
theorem norm_cross {r : Rq} (h : askI r = 0) : crossB (normQ r) = crossB r := by
  unfold crossB
  rw [norm_u h, (norm_o h).2]
theorem norm_plain {r : Rq} (h : askI r = 0) : plainB (normQ r) = plainB r := by
  unfold plainB
  rw [norm_is h]
  simp only [Lk.safe_norm, safeNames_norm]
theorem norm_fields {r : Rq} (h : askI r = 0) : fieldsI (normQ r) = 0 := by
  have h3 := (ask_0 h).2.2.1
  rw [norm_is h]
  unfold fieldsI at h3 ⊢
  simp only [Lk.meth_norm, check_norm]
  exact h3
theorem norm_mode {r : Rq} (h : askI r = 0) : (normQ r).mode = r.mode ∧ (normQ r).cr = r.cr ∧ (normQ r).hs = normL r.hs ∧ (normQ r).m = Lk.normL r.m := by
  rw [norm_is h]; exact ⟨rfl, rfl, rfl, rfl⟩
theorem norm_ask {r : Rq} (h : askI r = 0) : askI (normQ r) = 0 :=
  ask_of (by rw [norm_u h]) (norm_o h).1 (norm_fields h) (by rw [norm_cross h, norm_plain h, (norm_mode h).1]; exact (ask_0 h).2.2.2)
theorem norm_again {r : Rq} (h : askI r = 0) : normQ (normQ r) = normQ r := by
  have h2 := norm_ask h
  rw [norm_is h2, norm_u h, (norm_o h).2]
  rw [norm_is h]
  simp only [Lk.norm_norm, norm_norm]
theorem norm_zero {r : Rq} (h : ¬ askI r = 0) : normQ r = Rq.zero := by rw [normQ, if_neg h]
theorem norm_crossQ {r : Rq} (h : askI r = 0) : crossQ (normQ r) = crossQ r := by unfold crossQ; rw [if_pos h, if_pos (norm_ask h), norm_cross h]
theorem norm_plainQ {r : Rq} (h : askI r = 0) : plainQ (normQ r) = plainQ r := by unfold plainQ; rw [if_pos h, if_pos (norm_ask h), norm_plain h]
theorem norm_needsQ {r : Rq} (h : askI r = 0) : needsQ (normQ r) = needsQ r := by unfold needsQ; rw [norm_crossQ h, norm_plainQ h, (norm_mode h).1]
theorem norm_keyQ {r : Rq} (h : askI r = 0) : keyQ (normQ r) = keyQ r := by unfold keyQ; rw [if_pos h, if_pos (norm_ask h), norm_u h]
theorem norm_namesQ {r : Rq} (h : askI r = 0) : namesQ (normQ r) = namesQ r := by unfold namesQ; rw [if_pos h, if_pos (norm_ask h), (norm_mode h).2.2.1, safeNames_norm]
theorem norm_wantQ {r : Rq} (h : askI r = 0) : wantQ (normQ r) = wantQ r := by
  unfold wantQ
  rw [if_pos h, if_pos (norm_ask h), norm_again h, (norm_mode h).2.1, (norm_mode h).2.2.1, safeNames_norm]

/-! what two want -/
theorem com_parts : ∀ l : List (List UInt8), l ≠ [] → (∀ x ∈ l, ∀ b ∈ x, b ≠ 44) → parts 44 (comL l) = l
  | [], h, _ => absurd rfl h
  | [x], _, h => by rw [comL, parts_none 44 x (h x (by simp))]
  | x :: y :: r, _, h => by
    rw [comL, parts_at 44 x _ (h x (by simp)), com_parts (y :: r) (by simp) (fun z hz => h z (List.mem_cons_of_mem _ hz))]
theorem com_inj {a b : List (List UInt8)} (ha : ∀ x ∈ a, (∀ c ∈ x, c ≠ 44) ∧ x ≠ []) (hb : ∀ x ∈ b, (∀ c ∈ x, c ≠ 44) ∧ x ≠ []) (h : comL a = comL b) : a = b := by
  have key : ∀ l : List (List UInt8), (∀ x ∈ l, (∀ c ∈ x, c ≠ 44) ∧ x ≠ []) → comL l = [] → l = [] := by
    intro l hl h0
    cases l with
    | nil => rfl
    | cons x r =>
      have h1 := com_parts (x :: r) (by simp) (fun z hz => (hl z hz).1)
      rw [h0] at h1
      have h2 : parts 44 [] = [[]] := rfl
      rw [h2] at h1
      injection h1 with h3 _
      exact absurd h3.symm (hl x (by simp)).2
  by_cases h1 : a = []
  · rw [h1] at h ⊢; exact (key b hb h.symm).symm
  by_cases h2 : b = []
  · rw [h2] at h ⊢; exact key a ha h
  rw [← com_parts a h1 (fun z hz => (ha z hz).1), ← com_parts b h2 (fun z hz => (hb z hz).1), h]
theorem tok_plain {l : List UInt8} (h : Lk.tokL l = true) : (∀ c ∈ l, c ≠ 44) ∧ l ≠ [] := by
  constructor
  · intro c hc e
    subst e
    unfold Lk.tokL at h
    simp only [Bool.and_eq_true, List.all_eq_true] at h
    exact absurd (h.1 44 hc) (by decide)
  · rintro rfl; exact absurd h (by decide)
theorem names_plain {r : Rq} (h : askI r = 0) : ∀ x ∈ safeNames r.hs, (∀ c ∈ x, c ≠ 44) ∧ x ≠ [] := by
  intro x hx
  have hc := (fields_0 (ask_0 h).2.2.1).2.2.1
  obtain ⟨g, hg, rfl⟩ := (names_mem r.hs x).1 (safeNames_lows hx)
  unfold checkH at hc
  split at hc
  · simp at hc
  split at hc
  · rename_i h2
    have h3 := List.all_eq_true.1 h2 g hg
    unfold okH nameOk at h3
    simp only [Bool.and_eq_true] at h3
    exact tok_plain (by rw [Lk.tokL_lower]; exact h3.1.2)
  · simp at hc
/-- two that may be want the same just if all parts are the same -/
theorem want_same {r q : Rq} (hr : askI r = 0) (hq : askI q = 0) : wantQ r = wantQ q ↔ ((normQ r).o = (normQ q).o ∧ (normQ r).u = (normQ q).u ∧ r.cr = q.cr ∧ (normQ r).m = (normQ q).m ∧ safeNames r.hs = safeNames q.hs) := by
  unfold wantQ
  rw [if_pos hr, if_pos hq]
  constructor
  · intro h
    injection h with h1 h2 h3 h4 h5
    exact ⟨h1, h2, h3, h4, com_inj (names_plain hr) (names_plain hq) h5⟩
  · rintro ⟨h1, h2, h3, h4, h5⟩
    rw [h1, h2, h3, h4, h5]
theorem key_same {r q : Rq} (hr : askI r = 0) (hq : askI q = 0) (h : (normQ r).u = (normQ q).u) : keyQ r = keyQ q := by
  have h1 := norm_u hr
  have h2 := norm_u hq
  rw [h, h2] at h1
  injection h1 with h3 _
  unfold keyQ
  rw [if_pos hr, if_pos hq, h3]
end Go.Proofs.YticedcnmajcgbaaGreatDoor
