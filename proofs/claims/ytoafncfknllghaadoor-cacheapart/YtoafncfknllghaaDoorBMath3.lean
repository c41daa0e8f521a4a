/-
  Entries of one cell beside those of others. Plain lists and numbers. No conditions beyond those of each statement.
-/
import Derived.Test.YtoafncfknllghaaDoorBMath2
import Derived.Test.YtoafncfknllghaaDoorBCover
namespace Go.Proofs.YtoafncfknllghaaDoor

/-- an entry is put where there is room: its time is laid anew, or it is the last -/
def upd (e : En) : List En → List En
  | [] => [e]
  | x :: r => if sameB e x then timed x e.t :: r else x :: upd e r
theorem upd_hit (e : En) : ∀ {l : List En}, l.findIdx (sameB e) < l.length → l.set (l.findIdx (sameB e)) (timed (nthE l (l.findIdx (sameB e))) e.t) = upd e l
  | [], h => by simp at h
  | x :: r, h => by
    unfold upd
    rw [List.findIdx_cons] at h ⊢
    cases hx : sameB e x with
    | true => rfl
    | false =>
      rw [hx] at h
      have h2 : r.findIdx (sameB e) < r.length := by simpa using h
      have h3 := upd_hit e h2
      simp only [cond_false, Bool.false_eq_true, if_false]
      rw [← h3]
      rfl
theorem upd_miss (e : En) : ∀ {l : List En}, ¬ l.findIdx (sameB e) < l.length → l ++ [e] = upd e l
  | [], _ => rfl
  | x :: r, h => by
    unfold upd
    rw [List.findIdx_cons] at h
    cases hx : sameB e x with
    | true => rw [hx] at h; simp at h
    | false =>
      rw [hx] at h
      have h2 : ¬ r.findIdx (sameB e) < r.length := by simpa using h
      have h3 := upd_miss e h2
      simp only [Bool.false_eq_true, if_false]
      rw [← h3]
      rfl
theorem putL_upd {n : Nat} {e : En} {t : Nat} {l : List En} (hp : putB e t = true) (hs : ∀ x ∈ l, t < x.t) (hl : l.length < n) : putL n e t l = upd e l := by
  rw [putL_yes hp, sweepL_all hs]
  by_cases h : l.findIdx (sameB e) < l.length
  · rw [addL_yes h, upd_hit e h]
  · rw [addL_no h, roomL_no (by omega), upd_miss e h]
theorem same_of {e x : En} (h : sameB e x = true) (k : Cl) : ofB k x = ofB k e := by
  unfold sameB at h
  simp only [Bool.and_eq_true] at h
  unfold ofB
  rw [cellB_iff.1 h.1.1]
theorem upd_same {e : En} {k : Cl} (he : ofB k e = true) : ∀ l : List En, (upd e l).filter (ofB k) = upd e (l.filter (ofB k))
  | [] => by simp [upd, he]
  | x :: r => by
    have h1 := upd_same he r
    unfold upd
    cases hx : sameB e x with
    | true =>
      have h2 : ofB k x = true := by rw [same_of hx, he]
      have h3 : ofB k (timed x e.t) = true := h2
      simp only [if_true]
      rw [List.filter_cons_of_pos h3, List.filter_cons_of_pos h2]
      simp [hx]
    | false =>
      simp only [Bool.false_eq_true, if_false]
      cases h2 : ofB k x with
      | true =>
        rw [List.filter_cons_of_pos h2, List.filter_cons_of_pos h2, h1]
        simp [hx]
      | false =>
        rw [List.filter_cons_of_neg (by simp [h2]), List.filter_cons_of_neg (by simp [h2]), h1]
        cases List.filter (ofB k) r <;> rfl
theorem upd_other {e : En} {q : En → Bool} (hq : ∀ x t, q (timed x t) = q x) (hs : ∀ x, sameB e x = true → q x = q e) (he : q e = false) : ∀ l : List En, (upd e l).filter q = l.filter q
  | [] => by simp [upd, he]
  | x :: r => by
    have h1 := upd_other hq hs he r
    unfold upd
    cases hx : sameB e x with
    | true =>
      have h2 : q x = false := by rw [hs x hx, he]
      have h3 : q (timed x e.t) = false := by rw [hq, h2]
      simp only [if_true]
      rw [List.filter_cons_of_neg (by simp [h3]), List.filter_cons_of_neg (by simp [h2])]
    | false =>
      simp only [Bool.false_eq_true, if_false]
      rw [List.filter_cons, List.filter_cons, h1]
theorem upd_count {e : En} {q : En → Bool} (hq : ∀ x t, q (timed x t) = q x) : ∀ l : List En, ((upd e l).filter q).length ≤ (l.filter q).length + 1
  | [] => by unfold upd; exact Nat.le_trans (List.length_filter_le _ _) (by simp)
  | x :: r => by
    have h1 := upd_count hq (e := e) r
    unfold upd
    cases hx : sameB e x with
    | true =>
      simp only [if_true]
      rw [List.filter_cons, List.filter_cons, hq]
      split <;> simp
    | false =>
      simp only [Bool.false_eq_true, if_false]
      rw [List.filter_cons, List.filter_cons]
      split
      · simp; omega
      · exact h1
theorem upd_len (e : En) : ∀ l : List En, (upd e l).length ≤ l.length + 1
  | [] => by simp [upd]
  | x :: r => by
    have h1 := upd_len e r
    unfold upd
    split
    · simp
    · simp; omega
theorem upd_time {e : En} {t : Nat} (he : t < e.t) : ∀ {l : List En}, (∀ x ∈ l, t < x.t) → ∀ x ∈ upd e l, t < x.t
  | [], _, x, hx => by simp [upd] at hx; subst hx; exact he
  | y :: r, h, x, hx => by
    unfold upd at hx
    split at hx
    · rcases List.mem_cons.1 hx with rfl | h2
      · exact he
      · exact h x (by simp [h2])
    · rcases List.mem_cons.1 hx with rfl | h2
      · exact h _ (by simp)
      · exact upd_time he (fun z hz => h z (by simp [hz])) x h2
/-- what holds of both caches at any time: the second has those of the cell; so many others at most -/
structure ApOk (k : Cl) (l l2 : List En) (nn j : Nat) : Prop where
  f : l2 = l.filter (ofB k)
  t : ∀ x ∈ l, 0 < x.t
  len : l.length ≤ j
  cnt : (l.filter (fun x => !ofB k x)).length ≤ nn
theorem ApOk.start (k : Cl) : ApOk k [] [] 0 0 := ⟨rfl, by simp, by simp, by simp⟩
section
variable {k : Cl} {l l2 : List En} {nn j : Nat} {e : En}
theorem ApOk.t2 (h : ApOk k l l2 nn j) : ∀ x ∈ l2, 0 < x.t := fun x hx => h.t x (by rw [h.f] at hx; exact (List.mem_filter.1 hx).1)
theorem ApOk.len2 (h : ApOk k l l2 nn j) : l2.length ≤ j := by rw [h.f]; exact Nat.le_trans (List.length_filter_le _ _) h.len
theorem ApOk.no (h : ApOk k l l2 nn j) : ApOk k l l2 nn (j + 1) := ⟨h.f, h.t, by have := h.len; omega, h.cnt⟩
theorem putB_time {e : En} {t : Nat} (h : putB e t = true) : t < e.t := by
  unfold putB expB at h
  simp at h
  omega
/-- one of the cell: put into both -/
theorem ApOk.same (h : ApOk k l l2 nn j) (hj : j < 64) (he : ofB k e = true) (hp : putB e 0 = true) : ApOk k (putL 64 e 0 l) (putL 64 e 0 l2) nn (j + 1) := by
  have h1 := h.len
  have h2 := h.len2
  rw [putL_upd hp h.t (by omega), putL_upd hp h.t2 (by omega)]
  refine ⟨by rw [upd_same he, ← h.f], upd_time (putB_time hp) h.t, by have := upd_len e l; omega, ?_⟩
  rw [upd_other (fun _ _ => rfl) (fun x hx => by rw [same_of hx]) (by simp [he])]
  exact h.cnt
/-- one of another cell: put into the first -/
theorem ApOk.other (h : ApOk k l l2 nn j) (hj : j < 64) (he : ofB k e = false) (hp : putB e 0 = true) : ApOk k (putL 64 e 0 l) l2 (nn + 1) (j + 1) := by
  have h1 := h.len
  rw [putL_upd hp h.t (by omega)]
  refine ⟨?_, upd_time (putB_time hp) h.t, by have := upd_len e l; omega, ?_⟩
  · rw [upd_other (fun _ _ => rfl) (fun x hx => same_of hx k) he]; exact h.f
  · have h2 := upd_count (e := e) (q := fun x => !ofB k x) (fun _ _ => rfl) l
    have := h.cnt; omega
theorem has_filter {q p : En → Bool} (h : ∀ x, p x = true → q x = true) (t : Nat) (l : List En) : hasL t p (l.filter q) = hasL t p l := by
  unfold hasL
  rw [List.any_filter]
  congr 1
  funext x
  cases h1 : p x with
  | true => rw [h x h1]; simp
  | false => simp
theorem meth_filter (k : Cl) (m : ByteArray) (t : Nat) (l : List En) : methL k m t (l.filter (ofB k)) = methL k m t l :=
  has_filter (fun x hx => by unfold methE at hx; simp only [Bool.and_eq_true] at hx; exact hx.1.1) t l
theorem hdr_filter (k : Cl) (m : ByteArray) (t : Nat) (l : List En) : hdrL k m t (l.filter (ofB k)) = hdrL k m t l :=
  has_filter (fun x hx => by unfold headE at hx; simp only [Bool.and_eq_true] at hx; exact hx.1.1) t l
theorem cov_filter (k : Cl) (m : ByteArray) (ns : List ByteArray) (t : Nat) (l : List En) : covL k m ns t (l.filter (ofB k)) = covL k m ns t l := by
  unfold covL hdrsL
  rw [meth_filter]
  congr 2
  funext h
  exact hdr_filter k h t l
theorem len_parts (q : En → Bool) : ∀ l : List En, l.length = (l.filter q).length + (l.filter (fun x => !q x)).length
  | [] => rfl
  | x :: r => by
    have h1 := len_parts q r
    cases hx : q x <;> simp [hx] <;> omega
theorem ApOk.room (h : ApOk k l l2 nn j) : l.length ≤ l2.length + nn := by have h1 := len_parts (ofB k) l; have := h.cnt; rw [h.f]; omega
theorem ApOk.clear (h : ApOk k l l2 nn j) : l.length - (clearL k l).length = l2.length := by
  have h1 := len_parts (ofB k) l
  rw [h.f]
  unfold clearL
  omega
end
end Go.Proofs.YtoafncfknllghaaDoor
