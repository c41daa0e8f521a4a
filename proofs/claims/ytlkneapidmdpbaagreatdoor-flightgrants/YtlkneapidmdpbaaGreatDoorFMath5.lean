/-
  Plain mathematics of preflights: how long the lists are that an answer lets, when its headers are no longer than a statement's inputs; and that no text in them is empty. No conditions beyond those of each statement.
-/
import Derived.Test.YtlkneapidmdpbaaGreatDoorFMath4
namespace Go.Proofs.YtlkneapidmdpbaaGreatDoor

theorem great_sum : ∀ (xs : List (ByteArray × ByteArray)) (n : Nat), greatGo n xs = false → n + ((xs.map hd).map (fun h => h.2.length)).sum ≤ 12000
  | [], n, h => by simp [greatGo] at h; simpa using h
  | y :: r, n, h => by
    rw [greatGo] at h
    split at h
    · cases h
    · have := great_sum r _ h
      have e : (hd y).2.length = y.2.size := by unfold hd; simp
      simp only [List.map_cons, List.sum_cons, e]
      omega
theorem fvals_sum : ∀ (l : List Hd) (n : List UInt8), ((valsH l n).map List.length).sum ≤ (l.map (fun h => h.2.length)).sum
  | [], n => by rw [vals_nil]; exact Nat.le_refl _
  | h :: l, n => by
    rw [vals_cons, List.map_append, List.sum_append, List.map_cons, List.sum_cons]
    have h1 := fvals_sum l n
    have h2 := Lk.trim_len h.2
    split <;> simp <;> omega
theorem fvals_cnt : ∀ (l : List Hd) (n : List UInt8), (valsH l n).length ≤ l.length
  | [], n => by rw [vals_nil]; exact Nat.le_refl _
  | h :: l, n => by
    rw [vals_cons, List.length_append, List.length_cons]
    have h1 := fvals_cnt l n
    split <;> simp <;> omega
theorem els_great {xs : List (ByteArray × ByteArray)} (h : greatB xs = false) (n : List UInt8) : (elsH (xs.map hd) n).length ≤ 12081 := by
  unfold greatB at h
  obtain ⟨h1, h2⟩ := Bool.or_eq_false_iff.1 h
  have h1 := of_decide_eq_false h1
  have h3 := great_sum xs 0 h2
  have h4 := fvals_sum (xs.map hd) n
  have h5 := fvals_cnt (xs.map hd) n
  rw [List.length_map] at h5
  have h6 := Lk.join_len (valsH (xs.map hd) n)
  have h7 := Lk.split_len (getH (xs.map hd) n)
  unfold getH at h7
  unfold elsH getH
  omega
theorem readA_great {xs : List (ByteArray × ByteArray)} (h : greatB xs = false) : (readA (xs.map hd)).ms.length + (readA (xs.map hd)).hs.length ≤ 24162 ∧ (readA (xs.map hd)).age ≤ 7200 := by
  have h1 := els_great h metN
  have h2 := els_great h hdrN
  unfold readA
  split
  · refine ⟨?_, ageV_le _⟩
    simp only [List.length_map]
    omega
  · exact ⟨by simp [Al.zero], by simp [Al.zero]⟩
theorem fjudge_great {q : Rq} {st : Int} {xs : List (ByteArray × ByteArray)} (h : greatB xs = false) : (judgeA q st (xs.map hd)).ms.length + (judgeA q st (xs.map hd)).hs.length ≤ 24162 ∧ (judgeA q st (xs.map hd)).age ≤ 7200 := by
  unfold judgeA
  split
  · exact readA_great h
  · exact ⟨by simp [Al.zero], by simp [Al.zero]⟩
theorem read_small {xs : List (ByteArray × ByteArray)} (h : Sm (xs.map hd)) : (∀ x ∈ (readA (xs.map hd)).ms, x.length ≤ maxLen) ∧ ∀ x ∈ (readA (xs.map hd)).hs, x.length ≤ maxLen := by
  unfold readA
  split
  · refine ⟨fun x hx => ?_, fun x hx => ?_⟩
    · have := els_small h metN x hx; unfold maxLen; omega
    · obtain ⟨y, hy, rfl⟩ := List.mem_map.1 hx
      have := els_small h hdrN y hy
      rw [Lk.lower_len]
      unfold maxLen; omega
  · exact ⟨fun x hx => by simp [Al.zero] at hx, fun x hx => by simp [Al.zero] at hx⟩
theorem fkeep_ne {l : List (List UInt8)} : ∀ x ∈ Lk.keep l, x ≠ [] := by
  intro x hx
  unfold Lk.keep at hx
  rw [List.mem_filter] at hx
  intro e
  subst e
  simp at hx
theorem els_full {H : List Hd} {n : List UInt8} : ∀ x ∈ elsH H n, x ≠ [] := fkeep_ne
theorem read_full {q : Rq} {H : List Hd} (h : askI q = 0) : Full (wantQ q) (readA H) := by
  have hm : (wantQ q).m ≠ [] := by
    intro e
    have h1 := (want_tok h).1
    rw [e] at h1
    exact absurd h1 (by decide)
  unfold readA
  split
  · refine ⟨hm, els_full, fun x hx => ?_⟩
    obtain ⟨y, hy, rfl⟩ := List.mem_map.1 hx
    have h1 := els_full y hy
    intro e
    have h2 := congrArg List.length e
    rw [Lk.lower_len] at h2
    exact h1 (List.eq_nil_of_length_eq_zero h2)
  · exact ⟨hm, fun x hx => by simp [Al.zero] at hx, fun x hx => by simp [Al.zero] at hx⟩
end Go.Proofs.YtlkneapidmdpbaaGreatDoor
