/-
  Plain mathematics of preflights: what an answer of four headers lets, some of them left out; what another header turns. No conditions beyond those of each statement.
-/
import Derived.Test.YtlkneapidmdpbaaGreatDoorFMath2
namespace Go.Proofs.YtlkneapidmdpbaaGreatDoor

def optH (b : Bool) (n v : List UInt8) : List Hd := if b then [(n, v)] else []
/-- the answer's headers: origin, credentials, methods, names, each of them there or not -/
def ansH (z : Wq) (b0 b1 b2 b3 : Bool) : List Hd := optH b0 orgN z.o ++ (optH b1 crdN truL ++ (optH b2 metN z.m ++ optH b3 hdrN z.n))
theorem vals_opt (b : Bool) (n v m : List UInt8) : valsH (optH b n v) m = if b && Lk.foldL n m then [Lk.trimL v] else [] := by
  cases b
  · rfl
  · simp [optH, vals_cons, vals_nil]
theorem got_opt (b : Bool) (n v m : List UInt8) : gotH (optH b n v) m = (b && Lk.foldL n m) := by
  cases b
  · rfl
  · simp [optH, gotH]
theorem split_tok {m : List UInt8} (h : Lk.tokL m = true) : Lk.splitL m = [m] := by
  rw [Lk.split_none (tok_plain h).1, Lk.keep_one (by rw [vis_trim (tokl_vis h)]; exact (tok_plain h).2), vis_trim (tokl_vis h)]
theorem split_coms : ∀ {l : List (List UInt8)}, (∀ x ∈ l, Lk.tokL x = true) → Lk.splitL (comL l) = l
  | [], _ => by decide
  | [x], h => split_tok (h x (by simp))
  | x :: y :: r, h => by
    have hx := h x (by simp)
    rw [comL, Lk.split_at (tok_plain hx).1, split_coms (l := y :: r) (fun z hz => h z (List.mem_cons_of_mem _ hz)), Lk.keep_one (by rw [vis_trim (tokl_vis hx)]; exact (tok_plain hx).2), vis_trim (tokl_vis hx)]
    rfl
theorem ans_gets {z : Wq} (ho : Lk.trimL z.o = z.o) (hm : Lk.trimL z.m = z.m) (hn : Lk.trimL z.n = z.n) (b0 b1 b2 b3 : Bool) :
    gotH (ansH z b0 b1 b2 b3) orgN = b0 ∧ getH (ansH z b0 b1 b2 b3) orgN = (if b0 then z.o else []) ∧ getH (ansH z b0 b1 b2 b3) crdN = (if b1 then truL else []) ∧
    getH (ansH z b0 b1 b2 b3) metN = (if b2 then z.m else []) ∧ getH (ansH z b0 b1 b2 b3) hdrN = (if b3 then z.n else []) ∧ getH (ansH z b0 b1 b2 b3) agN = [] := by
  have a00 : Lk.foldL orgN orgN = true := by decide
  have a01 : Lk.foldL orgN crdN = false := by decide
  have a02 : Lk.foldL orgN metN = false := by decide
  have a03 : Lk.foldL orgN hdrN = false := by decide
  have a04 : Lk.foldL orgN agN = false := by decide
  have a10 : Lk.foldL crdN orgN = false := by decide
  have a11 : Lk.foldL crdN crdN = true := by decide
  have a12 : Lk.foldL crdN metN = false := by decide
  have a13 : Lk.foldL crdN hdrN = false := by decide
  have a14 : Lk.foldL crdN agN = false := by decide
  have a20 : Lk.foldL metN orgN = false := by decide
  have a21 : Lk.foldL metN crdN = false := by decide
  have a22 : Lk.foldL metN metN = true := by decide
  have a23 : Lk.foldL metN hdrN = false := by decide
  have a24 : Lk.foldL metN agN = false := by decide
  have a30 : Lk.foldL hdrN orgN = false := by decide
  have a31 : Lk.foldL hdrN crdN = false := by decide
  have a32 : Lk.foldL hdrN metN = false := by decide
  have a33 : Lk.foldL hdrN hdrN = true := by decide
  have a34 : Lk.foldL hdrN agN = false := by decide
  have ht : Lk.trimL truL = truL := by decide
  unfold ansH getH
  simp only [vals_append, got_append, vals_opt, got_opt, a00, a01, a02, a03, a04, a10, a11, a12, a13, a14, a20, a21, a22, a23, a24, a30, a31, a32, a33, a34, ho, hm, hn, ht, Bool.and_true, Bool.and_false, Bool.or_false]
  refine ⟨trivial, ?_, ?_, ?_, ?_, ?_⟩
  · cases b0 <;> rfl
  · cases b1 <;> rfl
  · cases b2 <;> rfl
  · cases b3 <;> rfl
  · rfl
theorem want_trims {q : Rq} (h : askI q = 0) : Lk.trimL (wantQ q).o = (wantQ q).o ∧ Lk.trimL (wantQ q).m = (wantQ q).m ∧ Lk.trimL (wantQ q).n = (wantQ q).n :=
  ⟨vis_trim (want_o_vis h).1, vis_trim (tokl_vis (want_tok h).1), by rw [want_nq h]; exact vis_trim coml_vis⟩
theorem ans_read {q : Rq} (h : askI q = 0) (b0 b1 b2 b3 : Bool) : readI (ansH (wantQ q) b0 b1 b2 b3) = 0 ∧ readA (ansH (wantQ q) b0 b1 b2 b3) = ⟨if b2 then [(wantQ q).m] else [], if b3 then namesQ q else [], 5⟩ := by
  obtain ⟨t1, t2, t3⟩ := want_trims h
  obtain ⟨_, _, _, g3, g4, g5⟩ := ans_gets t1 t2 t3 b0 b1 b2 b3
  have e1 : elsH (ansH (wantQ q) b0 b1 b2 b3) metN = if b2 then [(wantQ q).m] else [] := by
    unfold elsH; rw [g3]
    cases b2
    · show Lk.splitL [] = []; decide
    · exact split_tok (want_tok h).1
  have e2 : elsH (ansH (wantQ q) b0 b1 b2 b3) hdrN = if b3 then namesQ q else [] := by
    unfold elsH; rw [g4]
    cases b3
    · show Lk.splitL [] = []; decide
    · show Lk.splitL (wantQ q).n = _
      rw [want_nq h]; exact split_coms (fun x hx => (names_toks.1 x hx).1)
  have k1 : tokAll (elsH (ansH (wantQ q) b0 b1 b2 b3) metN) = true := by
    rw [e1]; cases b2
    · rfl
    · simp [tokAll, (want_tok h).1]
  have k2 : tokAll (elsH (ansH (wantQ q) b0 b1 b2 b3) hdrN) = true := by
    rw [e2]; cases b3
    · rfl
    · show tokAll (namesQ q) = true
      unfold tokAll; rw [List.all_eq_true]; exact fun x hx => (names_toks.1 x hx).1
  have h0 := readI_0 k1 k2
  refine ⟨h0, ?_⟩
  rw [readA_0 h0, e1, e2]
  have e3 : ageH (ansH (wantQ q) b0 b1 b2 b3) = 5 := by unfold ageH; rw [g5]; decide
  have e4 : (if b3 = true then namesQ q else []).map Lk.lower = if b3 then namesQ q else [] := by
    cases b3
    · rfl
    · show (namesQ q).map Lk.lower = namesQ q
      conv => rhs; rw [← List.map_id (namesQ q)]
      exact List.map_congr_left (fun x hx => (names_toks.1 x hx).2.2)
  rw [e3, e4]
theorem ans_chk {q : Rq} (h : askI q = 0) (b0 b1 b2 b3 : Bool) : chkH (wantQ q).o q.cr (ansH (wantQ q) b0 b1 b2 b3) = if b0 = false ∨ (q.cr = true ∧ b1 = false) then 15 else 0 := by
  obtain ⟨t1, t2, t3⟩ := want_trims h
  obtain ⟨g0, g1, g2, _, _, _⟩ := ans_gets t1 t2 t3 b0 b1 b2 b3
  unfold chkH truH chk
  rw [g0, g1, g2]
  cases b0
  · simp
  · cases q.cr <;> cases b1 <;> simp
    decide
theorem memT_self {l : List (List UInt8)} {x : List UInt8} (h : x ∈ l) : memT l x = true := by
  unfold memT; rw [List.any_eq_true]; exact ⟨x, h, by simp⟩
theorem memT_nil (x : List UInt8) : memT [] x = false := rfl
theorem wildT_nil (c : Bool) : wildT [] c = false := by cases c <;> rfl
theorem ans_judge {q : Rq} (h : needsQ q = true) (b0 b1 b2 b3 : Bool) {st : Int} (hs : ¬ (st < 200 ∨ 299 < st)) :
    judgeI q st (ansH (wantQ q) b0 b1 b2 b3) = if b0 = false ∨ (q.cr = true ∧ b1 = false) then 15 else if b2 = false ∧ Lk.safeL (wantQ q).m = false then 5 else if b3 = false ∧ 0 < (namesQ q).length then 6 else 0 := by
  have h0 := needs_ok h
  have hc := ans_chk h0 b0 b1 b2 b3
  obtain ⟨r1, r2⟩ := ans_read h0 b0 b1 b2 b3
  by_cases c1 : b0 = false ∨ (q.cr = true ∧ b1 = false)
  · rw [if_pos c1] at hc ⊢
    exact judge_c h hc (by decide)
  rw [if_neg c1] at hc ⊢
  have hm : hasA (readA (ansH (wantQ q) b0 b1 b2 b3)).ms (wantQ q).m q.cr = (b2 || Lk.safeL (wantQ q).m) := by
    rw [r2]
    unfold hasA
    cases b2
    · show (Lk.safeL _ || (memT [] _ || wildT [] _)) = _
      rw [memT_nil, wildT_nil]; simp
    · show (Lk.safeL _ || (memT [(wantQ q).m] _ || wildT [(wantQ q).m] _)) = _
      rw [memT_self (by simp)]; simp
  have hn : (namesQ q).all (fun s => covA (readA (ansH (wantQ q) b0 b1 b2 b3)).hs s q.cr) = (b3 || decide (¬ 0 < (namesQ q).length)) := by
    rw [r2]
    cases b3
    · cases hl : namesQ q with
      | nil => rfl
      | cons x r =>
        have : covA [] x q.cr = false := by unfold covA; rw [memT_nil, wildT_nil]; simp
        show (covA [] x q.cr && _) = _
        rw [this]; simp
    · show (namesQ q).all (fun s => covA (namesQ q) s q.cr) = _
      rw [Bool.true_or, List.all_eq_true]
      intro x hx
      unfold covA
      rw [(names_toks.1 x hx).2.2, memT_self hx]; rfl
  by_cases c2 : b2 = false ∧ Lk.safeL (wantQ q).m = false
  · rw [if_pos c2]
    exact judge_5 h hc hs r1 (by rw [hm, c2.1, c2.2]; rfl)
  rw [if_neg c2]
  have hm1 : hasA (readA (ansH (wantQ q) b0 b1 b2 b3)).ms (wantQ q).m q.cr = true := by
    rw [hm]
    cases b2
    · cases hs : Lk.safeL (wantQ q).m
      · exact absurd ⟨rfl, hs⟩ c2
      · rfl
    · rfl
  by_cases c3 : b3 = false ∧ 0 < (namesQ q).length
  · rw [if_pos c3]
    exact judge_6 h hc hs r1 hm1 (by rw [hn, c3.1]; simp [c3.2])
  rw [if_neg c3]
  refine judge_0 h hc hs r1 hm1 ?_
  rw [hn]
  cases b3
  · have : ¬ 0 < (namesQ q).length := fun hp => c3 ⟨rfl, hp⟩
    simp [this]
  · rfl
theorem ans_late {q : Rq} (h : needsQ q = true) {st : Int} (hs : st < 200 ∨ 299 < st) : judgeI q st (ansH (wantQ q) true true true true) = 14 := by
  refine judge_14 h ?_ hs
  rw [ans_chk (needs_ok h)]; simp

/-! another header -/
def askedB (n : List UInt8) : Bool := Lk.foldL n orgN || (Lk.foldL n crdN || (Lk.foldL n metN || (Lk.foldL n hdrN || Lk.foldL n agN)))
theorem fvals_put (l m : List Hd) (h : Hd) (n : List UInt8) (hn : Lk.foldL h.1 n = false) : valsH (l ++ [h] ++ m) n = valsH (l ++ m) n := by
  rw [vals_append, vals_append, vals_append, vals_cons, hn, vals_nil]; simp
theorem fget_put (l m : List Hd) (h : Hd) (n : List UInt8) (hn : Lk.foldL h.1 n = false) : getH (l ++ [h] ++ m) n = getH (l ++ m) n := by unfold getH; rw [fvals_put l m h n hn]
theorem fgot_put (l m : List Hd) (h : Hd) (n : List UInt8) (hn : Lk.foldL h.1 n = false) : gotH (l ++ [h] ++ m) n = gotH (l ++ m) n := by rw [got_vals, got_vals, fvals_put l m h n hn]
theorem judge_put (q : Rq) (st : Int) (l : List Hd) (h : Hd) (k : Nat) (h1 : Lk.foldL h.1 orgN = false) (h2 : Lk.foldL h.1 crdN = false) (h3 : Lk.foldL h.1 metN = false) (h4 : Lk.foldL h.1 hdrN = false) (h5 : Lk.foldL h.1 agN = false) :
    judgeI q st (l.take k ++ [h] ++ l.drop k) = judgeI q st l ∧ judgeA q st (l.take k ++ [h] ++ l.drop k) = judgeA q st l := by
  have e1 : ∀ o, chkH o q.cr (l.take k ++ [h] ++ l.drop k) = chkH o q.cr l := by
    intro o; unfold chkH truH
    rw [fget_put _ _ _ _ h1, fgot_put _ _ _ _ h1, fget_put _ _ _ _ h2, List.take_append_drop]
  have e2 : elsH (l.take k ++ [h] ++ l.drop k) metN = elsH l metN := by unfold elsH; rw [fget_put _ _ _ _ h3, List.take_append_drop]
  have e3 : elsH (l.take k ++ [h] ++ l.drop k) hdrN = elsH l hdrN := by unfold elsH; rw [fget_put _ _ _ _ h4, List.take_append_drop]
  have e4 : ageH (l.take k ++ [h] ++ l.drop k) = ageH l := by unfold ageH; rw [fget_put _ _ _ _ h5, List.take_append_drop]
  have e5 : readI (l.take k ++ [h] ++ l.drop k) = readI l := by unfold readI; rw [e2, e3]
  have e6 : readA (l.take k ++ [h] ++ l.drop k) = readA l := by unfold readA; rw [e5, e2, e3, e4]
  have e7 : judgeI q st (l.take k ++ [h] ++ l.drop k) = judgeI q st l := by unfold judgeI; rw [e1, e5, e6]
  exact ⟨e7, by unfold judgeA; rw [e7, e6]⟩
end Go.Proofs.YtlkneapidmdpbaaGreatDoor
