/-
  Plain mathematics of preflights: what is kept of what an answer lets, and that a cache with it covers the request until it is too old. No conditions beyond those of each statement.
-/
import Derived.Test.YtlkneapidmdpbaaGreatDoorFMath2
import Derived.Test.YtlkneapidmdpbaaGreatDoorLTick
import Derived.Test.YtlkneapidmdpbaaGreatDoorBCover
namespace Go.Proofs.YtlkneapidmdpbaaGreatDoor

def clF (z : Wq) : Cl := ⟨mk z.o, mk z.u, z.cr⟩
def entM (z : Wq) (t : Nat) (m : List UInt8) : En := ⟨clF z, mk m, noT, t⟩
def entH (z : Wq) (t : Nat) (h : List UInt8) : En := ⟨clF z, noT, mk h, t⟩
def metsF (z : Wq) (a : Al) : List (List UInt8) := if onceL a.ms = [] then [z.m] else onceL a.ms
def untilF (now : Nat) (a : Al) : Nat := (Lk.addT (now : Int) (a.age : Int)).toNat
def entsF (z : Wq) (a : Al) (t : Nat) : List En := (metsF z a).map (entM z t) ++ (onceL a.hs).map (entH z t)
def grantsQ (q : Rq) (a : Al) (now : Nat) : List En := if needsQ q = false ∨ a.age = 0 then [] else entsF (wantQ q) a (untilF now a)
theorem grants_no {q : Rq} {a : Al} {now : Nat} (h : needsQ q = false ∨ a.age = 0) : grantsQ q a now = [] := by unfold grantsQ; rw [if_pos h]
theorem grants_yes {q : Rq} {a : Al} {now : Nat} (h : needsQ q = true) (h1 : ¬ a.age = 0) : grantsQ q a now = entsF (wantQ q) a (untilF now a) := by
  unfold grantsQ; rw [if_neg]; rintro (h2 | h2)
  · rw [h] at h2; cases h2
  · exact h1 h2
theorem metsF_len (z : Wq) (a : Al) : (metsF z a).length ≤ a.ms.length + 1 := by
  unfold metsF; split
  · simp
  · have := onceL_len a.ms; omega
theorem entsF_len (z : Wq) (a : Al) (t : Nat) : (entsF z a t).length ≤ a.ms.length + a.hs.length + 1 := by
  unfold entsF
  rw [List.length_append, List.length_map, List.length_map]
  have := metsF_len z a
  have := onceL_len a.hs
  omega
theorem entsF_mem {z : Wq} {a : Al} {t : Nat} {e : En} (h : e ∈ entsF z a t) : (∃ m ∈ metsF z a, e = entM z t m) ∨ ∃ x ∈ onceL a.hs, e = entH z t x := by
  unfold entsF at h
  rw [List.mem_append, List.mem_map, List.mem_map] at h
  rcases h with ⟨m, hm, e⟩ | ⟨m, hm, e⟩
  · exact .inl ⟨m, hm, e.symm⟩
  · exact .inr ⟨m, hm, e.symm⟩
theorem entsF_cell {z : Wq} {a : Al} {t : Nat} {e : En} (h : e ∈ entsF z a t) : e.k = clF z ∧ e.t = t := by
  rcases entsF_mem h with ⟨m, _, rfl⟩ | ⟨m, _, rfl⟩ <;> exact ⟨rfl, rfl⟩
theorem mk_no {l : List UInt8} (h : l ≠ []) : noB (mk l) = false := by
  unfold noB
  rw [tB_no]
  intro e
  have := congrArg (fun x : ByteArray => x.data.toList) e
  dsimp only at this
  rw [mk_data] at this
  exact h this
theorem noB_no : noB noT = true := tB_self _
theorem mk_inj {a b : List UInt8} (h : mk a = mk b) : a = b := by rw [← mk_data a, h, mk_data]
/-- the lists of what is let: no text in them is empty -/
structure Full (z : Wq) (a : Al) : Prop where
  m : z.m ≠ []
  ms : ∀ x ∈ a.ms, x ≠ []
  hs : ∀ x ∈ a.hs, x ≠ []
theorem Full.mets {z : Wq} {a : Al} (f : Full z a) : ∀ x ∈ metsF z a, x ≠ [] := by
  unfold metsF
  split
  · intro x hx; simp at hx; subst hx; exact f.m
  · intro x hx; exact f.ms x ((onceL_mem _ _).1 hx)
theorem entsF_ok {z : Wq} {a : Al} {t : Nat} (f : Full z a) {e : En} (h : e ∈ entsF z a t) : okE e = true := by
  rcases entsF_mem h with ⟨m, hm, rfl⟩ | ⟨m, hm, rfl⟩
  · show (noB (mk m) != noB noT) = true
    rw [mk_no (f.mets m hm), noB_no]; rfl
  · show (noB noT != noB (mk m)) = true
    rw [mk_no (f.hs m ((onceL_mem _ _).1 hm)), noB_no]; rfl
theorem entsF_nodup {z : Wq} {a : Al} {t : Nat} (f : Full z a) : (entsF z a t).Nodup := by
  unfold entsF
  rw [List.nodup_append]
  have hm : (metsF z a).Nodup := by
    unfold metsF; split
    · simp
    · exact onceL_nodup _
  refine ⟨?_, ?_, ?_⟩
  · rw [List.Nodup, List.pairwise_map]
    refine hm.imp ?_
    intro x y hxy e
    exact hxy (mk_inj (congrArg En.m e))
  · rw [List.Nodup, List.pairwise_map]
    refine (onceL_nodup a.hs).imp ?_
    intro x y hxy e
    exact hxy (mk_inj (congrArg En.h e))
  · intro x hx y hy e
    obtain ⟨m, hm, rfl⟩ := List.mem_map.1 hx
    obtain ⟨h, hh, rfl⟩ := List.mem_map.1 hy
    have e1 : mk m = noT := congrArg En.m e
    have h1 := mk_no (f.mets m hm)
    rw [e1, noB_no] at h1
    cases h1
/-- one more is put -/
theorem put_more {g : List En} {now t i : Nat} {k : Cl} (hi : i < g.length) (h64 : g.length ≤ 64) (hn : g.Nodup) (hc : ∀ e ∈ g, e.k = k ∧ e.t = t) (hk : ∀ e ∈ g, okE e = true) (ht : now < t) :
    putB (nthE g i) now = true ∧ putL 64 (nthE g i) now (g.take i) = g.take (i + 1) := by
  have hm := nthE_mem hi
  have hx : ∀ e ∈ g, expB now e = false := by
    intro e he
    unfold expB
    rw [(hc e he).2]
    exact decide_eq_false (by omega)
  have hb : putB (nthE g i) now = true := by unfold putB; rw [hk _ hm, hx _ hm]; rfl
  refine ⟨hb, ?_⟩
  rw [putL_yes hb]
  have hs : sweepL now (g.take i) = g.take i := by
    unfold sweepL
    rw [List.filter_eq_self]
    intro e he
    rw [hx e (List.mem_of_mem_take he)]; rfl
  rw [hs, addL_no, roomL_no (by rw [List.length_take]; omega), List.take_succ_eq_append_getElem hi, nthE_eq hi]
  intro hlt
  have h1 := spot_hit hlt
  generalize (g.take i).findIdx (sameB (nthE g i)) = j at h1 hlt
  rw [nthE_eq hlt] at h1
  unfold sameB at h1
  simp only [Bool.and_eq_true] at h1
  have h2 := tB_iff.1 h1.1.2
  have h3 := tB_iff.1 h1.2
  have hj := hlt
  rw [List.length_take] at hj
  have hjg : j < g.length := by omega
  have e1 : (g.take i)[j] = g[j] := by simp
  rw [e1] at h2 h3
  rw [nthE_eq hi] at h2 h3
  have c1 := hc _ (List.getElem_mem hjg)
  have c2 := hc _ (List.getElem_mem hi)
  have e2 : g[j] = g[i] := by
    have : ∀ x y : En, x.k = y.k → x.m = y.m → x.h = y.h → x.t = y.t → x = y := by
      rintro ⟨⟩ ⟨⟩ h1 h2 h3 h4; simp at h1 h2 h3 h4; simp [h1, h2, h3, h4]
    exact this _ _ (by rw [c1.1, c2.1]) h2 h3 (by rw [c1.2, c2.2])
  exact List.pairwise_iff_getElem.1 hn j i hjg hi (by omega) e2
theorem lowA_mk (s : List UInt8) : lowA (mk s) = mk (Lk.lower s) := by unfold lowA; rw [mk_data]; rfl
theorem memT_iff (l : List (List UInt8)) (s : List UInt8) : memT l s = true ↔ s ∈ l := by
  unfold memT
  rw [List.any_eq_true]
  constructor
  · rintro ⟨x, hx, e⟩; rw [decide_eq_true_eq] at e; exact e ▸ hx
  · intro h; exact ⟨s, h, by simp⟩
/-- what was let is covered until it is too old -/
theorem ents_cover {q : Rq} {st : Int} {H : List Hd} {now later : Nat} (hj : judgeI q st H = 0) (hn : now ≤ 4611686018427387904) (_ha : (readA H).age ≠ 0) (hle : (readA H).age ≤ 7200) :
    covL (clF (wantQ q)) (mk (wantQ q).m) ((namesQ q).map mk) (now + later) (entsF (wantQ q) (readA H) (untilF now (readA H))) = decide (later < (readA H).age) := by
  obtain ⟨hnd, _, _, _, hm, hh⟩ := judge_all hj
  have h0 := needs_ok hnd
  have hu : untilF now (readA H) = now + (readA H).age := by
    unfold untilF Lk.addT
    rw [if_neg (by omega)]
    omega
  rw [hu]
  have het : ∀ e ∈ entsF (wantQ q) (readA H) (now + (readA H).age), expB (now + later) e = decide ((readA H).age ≤ later) := by
    intro e he
    unfold expB
    rw [(entsF_cell he).2]
    by_cases h : (readA H).age ≤ later
    · rw [decide_eq_true h, decide_eq_true (by omega)]
    · rw [decide_eq_false h, decide_eq_false (by omega)]
  generalize hA : readA H = a at *
  by_cases hl : later < a.age
  · rw [decide_eq_true hl]
    have hlive : ∀ e ∈ entsF (wantQ q) a (now + a.age), expB (now + later) e = false := fun e he => by rw [het e he]; exact decide_eq_false (by omega)
    have hcr : (clF (wantQ q)).c = q.cr := by show (wantQ q).cr = _; rw [want_0 h0]
    have key : ∀ p : En → Bool, (∃ e ∈ entsF (wantQ q) a (now + a.age), p e = true) → hasL (now + later) p (entsF (wantQ q) a (now + a.age)) = true := by
      rintro p ⟨e, he, hp⟩
      unfold hasL
      rw [List.any_eq_true]
      exact ⟨e, he, by rw [hlive e he, hp]; rfl⟩
    have cM : ∀ m ∈ metsF (wantQ q) a, entM (wantQ q) (now + a.age) m ∈ entsF (wantQ q) a (now + a.age) := fun m hm => by unfold entsF; rw [List.mem_append]; exact .inl (List.mem_map_of_mem hm)
    have cH : ∀ x ∈ a.hs, entH (wantQ q) (now + a.age) x ∈ entsF (wantQ q) a (now + a.age) := fun x hx => by unfold entsF; rw [List.mem_append]; exact .inr (List.mem_map_of_mem ((onceL_mem _ _).2 hx))
    have hmem : ∀ x ∈ a.ms, x ∈ metsF (wantQ q) a := by
      intro x hx
      unfold metsF
      split
      · rename_i h1; rw [onceL_nil] at h1; rw [h1] at hx; simp at hx
      · exact (onceL_mem _ _).2 hx
    unfold covL
    rw [Bool.and_eq_true]
    constructor
    · unfold hasA at hm
      rw [mk_data]
      rw [Bool.or_eq_true, Bool.or_eq_true] at hm
      rw [Bool.or_eq_true]
      rcases hm with h1 | h1 | h1
      · exact .inl h1
      · refine .inr (key _ ⟨_, cM _ (hmem _ ((memT_iff _ _).1 h1)), ?_⟩)
        unfold methE entM
        simp only [cellB_self, noB_no, tB_self]; rfl
      · unfold wildT at h1
        rw [Bool.and_eq_true, Bool.not_eq_true'] at h1
        refine .inr (key _ ⟨_, cM _ (hmem _ ((memT_iff _ _).1 h1.2)), ?_⟩)
        unfold methE
        rw [hcr, h1.1]
        show (cellB (clF _) (clF _) && noB noT && (tB (mk [42]) _ || (!false && tB starT starT))) = true
        rw [cellB_self, noB_no, tB_self starT]; simp
    · unfold hdrsL
      rw [List.all_eq_true]
      intro x hx
      obtain ⟨s, hs, rfl⟩ := List.mem_map.1 hx
      have h1 := (List.all_eq_true.1 hh) s hs
      unfold covA at h1
      unfold hdrL
      rw [lowA_mk]
      rw [Bool.or_eq_true] at h1
      rcases h1 with h1 | h1
      · refine key _ ⟨_, cH _ ((memT_iff _ _).1 h1), ?_⟩
        unfold headE entH
        simp only [cellB_self, noB_no, tB_self]; rfl
      · rw [Bool.and_eq_true] at h1
        unfold wildT at h1
        rw [Bool.and_eq_true, Bool.not_eq_true', Bool.not_eq_true'] at h1
        refine key _ ⟨_, cH _ ((memT_iff _ _).1 h1.2.2), ?_⟩
        have hau : tB (mk (Lk.lower s)) authT = false := by
          rw [tB_no]
          intro e
          have e2 := congrArg (fun x : ByteArray => x.data.toList) e
          dsimp only at e2
          rw [mk_data] at e2
          rw [e2] at h1
          exact absurd h1.1 (by decide)
        unfold headE
        rw [hcr, h1.2.1, hau]
        show (cellB (clF _) (clF _) && noB noT && (tB (mk [42]) _ || (!false && !false) && tB starT starT)) = true
        rw [cellB_self, noB_no, tB_self starT]; simp
  · rw [decide_eq_false hl]
    have hdead : ∀ p : En → Bool, hasL (now + later) p (entsF (wantQ q) a (now + a.age)) = false := by
      intro p
      unfold hasL
      rw [List.any_eq_false]
      intro e he
      rw [het e he, decide_eq_true (by omega)]; simp
    unfold covL
    rw [mk_data]
    unfold methL hdrsL hdrL
    rw [hdead]
    cases hnm : namesQ q with
    | nil =>
      have hpl : plainQ q = false := by unfold needsQ at hnd; simp at hnd; exact hnd.2
      unfold plainQ at hpl
      rw [if_pos h0] at hpl
      unfold plainB at hpl
      unfold namesQ at hnm
      rw [if_pos h0] at hnm
      rw [hnm] at hpl
      simp at hpl
      have : Lk.safeL (wantQ q).m = false := by rw [(want_meth h0).1, Lk.safe_norm]; exact hpl
      rw [this]; rfl
    | cons x r => simp [hdead]
end Go.Proofs.YtlkneapidmdpbaaGreatDoor
