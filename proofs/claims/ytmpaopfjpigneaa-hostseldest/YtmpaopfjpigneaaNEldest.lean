/-
  Mathematics of as many hosts as there may be, some of them freed: their names, what a use more is told. Plain lists and numbers. No conditions beyond those of each statement.
-/
import Derived.Test.YtmpaopfjpigneaaNAwake
namespace Go.Proofs.Ytmpaopfjpigneaa

/-- the i-th name -/
def nmE (i : Nat) : ByteArray := ⟨#[UInt8.ofNat (97 + i / 26), UInt8.ofNat (97 + i % 26)]⟩
def newE : ByteArray := ⟨#[110, 101, 119]⟩
theorem nmE_inj {i j : Nat} (hi : i < 32) (hj : j < 32) (h : nmE i = nmE j) : i = j := by
  unfold nmE at h
  injection h with h
  have h1 := congrArg (fun x : Array UInt8 => (x.toList.map UInt8.toNat)) h
  simp at h1
  omega
theorem nmE_new (i : Nat) : nmE i ≠ newE := by
  intro h
  have h1 := congrArg (fun x : ByteArray => x.data.size) h
  exact absurd h1 (by show ¬ (2 : Nat) = 3; omega)
/-- so many hosts, these of them freed -/
def lstE (K : Nat) (fr : Nat → Bool) (i : Nat) : List Ho := (List.range K).map (fun j => (nmE j, if j < i ∧ fr j = true then 0 else 1))
theorem lstE_len (K : Nat) (fr : Nat → Bool) (i : Nat) : (lstE K fr i).length = K := by simp [lstE]
theorem lstE_nth {K : Nat} {fr : Nat → Bool} {i j : Nat} (hj : j < K) : nthH (lstE K fr i) j = (nmE j, if j < i ∧ fr j = true then 0 else 1) := by simp [nthH, lstE, hj]
theorem lstE_mem {K : Nat} {fr : Nat → Bool} {i : Nat} {x : Ho} (h : x ∈ lstE K fr i) : ∃ j, j < K ∧ x = (nmE j, if j < i ∧ fr j = true then 0 else 1) := by
  unfold lstE at h
  obtain ⟨j, hj, e⟩ := List.mem_map.1 h
  exact ⟨j, List.mem_range.1 hj, e.symm⟩
theorem lstE_at {K : Nat} (hK : K ≤ 32) {fr : Nat → Bool} {i j : Nat} (hj : j < K) : (lstE K fr i).findIdx (keyB (nmE j)) = j := by
  refine place_first (by rw [lstE_len]; exact hj) ?_ (fun q hq => ?_)
  · rw [lstE_nth hj]; exact keyB_iff.2 rfl
  · rw [lstE_nth (by omega)]
    exact keyB_no.2 (fun h => absurd (nmE_inj (by omega) (by omega) h) (by omega))
/-- the first names, one use each -/
theorem eld_use {K i : Nat} (hK : K ≤ 32) (hi : i < K) (fr : Nat → Bool) : useC K (lstE i fr 0) (nmE i) = 0 ∧ useS K (lstE i fr 0) (nmE i) = lstE (i + 1) fr 0 := by
  obtain ⟨_, h2, h3⟩ := use_miss (M := K) (l := lstE i fr 0) (k := nmE i) (fun x hx e => by
    obtain ⟨j, hj, rfl⟩ := lstE_mem hx
    exact absurd (nmE_inj (by omega) (by omega) e) (by omega)) (by rw [lstE_len]; exact hi)
  refine ⟨h2, ?_⟩
  rw [h3]
  unfold lstE
  rw [List.range_succ, List.map_append]
  simp
theorem eld_free {K i : Nat} (hK : K ≤ 32) (hi : i < K) {fr : Nat → Bool} (hf : fr i = true) : freeC (lstE K fr i) (nmE i) = 0 ∧ freeS (lstE K fr i) (nmE i) = lstE K fr (i + 1) := by
  have hl : i < (lstE K fr i).length := by rw [lstE_len]; exact hi
  have hn : nthH (lstE K fr i) i = (nmE i, 1) := by rw [lstE_nth hi]; simp
  have hne : ¬ ((nmE i, 1) : Ho).2 = 0 := by show ¬ (1 : Nat) = 0; omega
  unfold freeC freeS
  rw [lstE_at hK hi, if_pos hl, if_pos hl, hn, if_neg hne, if_neg hne]
  refine ⟨rfl, ?_⟩
  show (lstE K fr i).set i (nmE i, 0) = _
  apply List.ext_getElem
  · rw [List.length_set, lstE_len, lstE_len]
  · intro j h1 h2
    have hj : j < K := by rw [lstE_len] at h2; exact h2
    rw [List.getElem_set]
    by_cases e : i = j
    · subst e
      rw [if_pos rfl]
      simp [lstE, hf]
    · rw [if_neg e]
      simp only [lstE, List.getElem_map, List.getElem_range]
      have : (j < i ∧ fr j = true) ↔ (j < i + 1 ∧ fr j = true) := ⟨fun h => ⟨by omega, h.2⟩, fun h => ⟨by omega, h.2⟩⟩
      simp only [this]
theorem eld_skip {K i : Nat} {fr : Nat → Bool} (hf : fr i = false) : lstE K fr (i + 1) = lstE K fr i := by
  unfold lstE
  apply List.map_congr_left
  intro j _
  have : (j < i + 1 ∧ fr j = true) ↔ (j < i ∧ fr j = true) := by
    constructor
    · intro h
      refine ⟨?_, h.2⟩
      by_cases e : j = i
      · subst e; rw [hf] at h; exact absurd h.2 (by simp)
      · omega
    · intro h; exact ⟨by omega, h.2⟩
  simp only [this]
theorem eld_new {K i : Nat} {fr : Nat → Bool} : (lstE K fr i).findIdx (keyB newE) = K := by
  have h := place_none (p := keyB newE) (l := lstE K fr i) (fun x hx => by
    obtain ⟨j, _, rfl⟩ := lstE_mem hx
    exact keyB_no.2 (nmE_new j))
  rw [lstE_len] at h
  exact h
/-- one more, where none is freed -/
theorem eld_full {K i : Nat} {fr : Nat → Bool} (hf : ∀ j, j < i → fr j = false) : useG K (lstE K fr i) newE = ⟨#[]⟩ ∧ useC K (lstE K fr i) newE = 10 ∧ useS K (lstE K fr i) newE = lstE K fr i ∧ hasC (lstE K fr i) newE = false := by
  have hi : (lstE K fr i).findIdx idleB = K := by
    have h := place_none (p := idleB) (l := lstE K fr i) (fun x hx => by
      obtain ⟨j, _, rfl⟩ := lstE_mem hx
      unfold idleB
      refine decide_eq_false ?_
      show ¬ (if j < i ∧ fr j = true then 0 else 1) = 0
      rw [if_neg (fun h => by rw [hf j h.1] at h; exact absurd h.2 (by simp))]
      omega)
    rw [lstE_len] at h
    exact h
  have hn : ¬ K < K := Nat.lt_irrefl K
  unfold useG useC useS hasC
  rw [eld_new, hi, lstE_len, if_neg hn, if_neg hn, if_neg hn, if_neg hn, if_neg hn, if_neg hn, if_neg hn, if_neg hn, if_neg hn]
  exact ⟨rfl, rfl, rfl, decide_eq_false hn⟩
/-- one more, where one is freed: the first of these goes -/
theorem eld_gone {K i z : Nat} (hK : K ≤ 32) {fr : Nat → Bool} (hz : z < K) (hzi : z < i) (hf : fr z = true) (hb : ∀ j, j < z → fr j = false) :
    useG K (lstE K fr i) newE = nmE z ∧ useC K (lstE K fr i) newE = 0 ∧ useS K (lstE K fr i) newE = (lstE K fr i).eraseIdx z ++ [(newE, 1)] ∧ hasC ((lstE K fr i).eraseIdx z ++ [(newE, 1)]) (nmE z) = false ∧ usedC ((lstE K fr i).eraseIdx z ++ [(newE, 1)]) newE = 1 := by
  have hi : (lstE K fr i).findIdx idleB = z := by
    refine place_first (by rw [lstE_len]; exact hz) ?_ (fun q hq => ?_)
    · rw [lstE_nth hz]
      unfold idleB
      simp [hzi, hf]
    · rw [lstE_nth (by omega)]
      unfold idleB
      simp [hb q hq]
  have hn : ¬ K < K := Nat.lt_irrefl K
  have hel : ((lstE K fr i).eraseIdx z).length = K - 1 := by rw [List.length_eraseIdx, lstE_len, if_pos hz]
  have hno : ∀ x ∈ (lstE K fr i).eraseIdx z, x.1 ≠ newE ∧ x.1 ≠ nmE z := by
    intro x hx
    obtain ⟨q, hq, e⟩ := List.mem_iff_getElem.1 hx
    rw [List.getElem_eraseIdx] at e
    rw [hel] at hq
    obtain ⟨j, hj, hne, e2⟩ : ∃ j, j < K ∧ j ≠ z ∧ x = (nmE j, if j < i ∧ fr j = true then 0 else 1) := by
      split at e
      · refine ⟨q, by omega, by omega, ?_⟩
        rw [← e]; simp [lstE]
      · refine ⟨q + 1, by omega, by omega, ?_⟩
        rw [← e]; simp [lstE]
    rw [e2]
    exact ⟨nmE_new j, fun h => hne (nmE_inj (by omega) (by omega) h)⟩
  have hlast : ((lstE K fr i).eraseIdx z ++ [((newE, 1) : Ho)]).findIdx (keyB newE) = K - 1 := by
    refine place_first (by rw [List.length_append, hel]; simp) ?_ (fun q hq => ?_)
    · unfold nthH
      rw [List.getD_eq_getElem?_getD, List.getElem?_append_right (by omega), hel, Nat.sub_self]
      exact keyB_iff.2 rfl
    · unfold nthH
      rw [List.getD_eq_getElem?_getD, List.getElem?_append_left (by omega), List.getElem?_eq_getElem (by omega)]
      exact keyB_no.2 (hno _ (List.getElem_mem _)).1
  refine ⟨?_, ?_, ?_, ?_, ?_⟩
  · unfold useG
    rw [eld_new, hi, lstE_len, if_neg hn, if_neg hn, if_pos hz, lstE_nth hz]
  · unfold useC
    rw [eld_new, hi, lstE_len, if_neg hn, if_neg hn, if_pos hz]
  · unfold useS
    rw [eld_new, hi, lstE_len, if_neg hn, if_neg hn, if_pos hz]
  · refine has_miss (fun x hx => ?_)
    rcases List.mem_append.1 hx with h1 | h1
    · exact (hno x h1).2
    · simp at h1; subst h1; exact (nmE_new z).symm
  · unfold usedC
    rw [hlast, if_pos (by rw [List.length_append, hel]; simp)]
    unfold nthH
    rw [List.getD_eq_getElem?_getD, List.getElem?_append_right (by omega), hel, Nat.sub_self]
    rfl
theorem eld_len {K i z : Nat} {fr : Nat → Bool} (hz : z < K) : ((lstE K fr i).eraseIdx z ++ [((newE, 1) : Ho)]).length = K := by
  rw [List.length_append, List.length_eraseIdx, lstE_len, if_pos hz]
  show K - 1 + 1 = K
  omega
theorem keysL_len (l : List Ho) : (keysL l).length = l.length := by simp [keysL]
end Go.Proofs.Ytmpaopfjpigneaa
