/-
  What holds of preflights at any time, as the calls tell it; a row of wants of the call's own beside a table. No conditions but those of each statement.
-/
import Derived.Test.YtcljmdpnbfefbaaXOne
import Derived.Test.YtcljmdpnbfefbaaKLow
namespace Go.Proofs.Ytcljmdpnbfefbaa
open Go.RowKit

/-- the wants of those with a number below p -/
def seenL (s : Sv) (p : Nat) : List Wt := (s.l.filter (fun q => decide (q.n < p))).map Pv.w
theorem filt_take {l : List Pv} {p k : Nat} (h1 : ∀ j (h : j < l.length), j < k → l[j].n < p) (h2 : ∀ j (h : j < l.length), k ≤ j → p ≤ l[j].n) : l.filter (fun q => decide (q.n < p)) = l.take k := by
  have e : l.filter (fun q => decide (q.n < p)) = (l.take k ++ l.drop k).filter (fun q => decide (q.n < p)) := by rw [List.take_append_drop]
  rw [e, List.filter_append, List.filter_eq_self.2 ?_, List.filter_eq_nil_iff.2 ?_, List.append_nil]
  · intro q hq
    obtain ⟨j, hj, rfl⟩ := List.mem_iff_getElem.1 hq
    rw [List.length_drop] at hj
    rw [List.getElem_drop]
    have := h2 (k + j) (by omega) (by omega)
    simp; omega
  · intro q hq
    obtain ⟨j, hj, rfl⟩ := List.mem_iff_getElem.1 hq
    rw [List.length_take] at hj
    rw [List.getElem_take]
    have := h1 j (by omega) (by omega)
    simp; omega
section
variable {s : Sv} {p : Nat}
theorem seen_one (h : Ok s) : seenL s 1 = [] := by
  unfold seenL
  rw [List.filter_eq_nil_iff.2 (fun q hq => by have := h.lt q hq; simp; omega)]
  rfl
theorem seen_len (s : Sv) (p : Nat) : (seenL s p).length ≤ s.l.length := by unfold seenL; rw [List.length_map]; exact List.length_filter_le _ _
theorem seen_all (h : Ok s) : (seenL s (s.last + 1)).length = s.l.length := by
  unfold seenL
  rw [List.length_map, List.filter_eq_self.2 (fun q hq => by have := h.lt q hq; simp; omega)]
/-- what is told of a number: it is there, with members, all of them its own, and no other want is like its own; or it is not -/
theorem hold_told (h : Ok s) (p : Nat) : (wantO (p : Int) s = true ∧ 0 < (doneR (p : Int) s).length ∧ (∀ i ∈ doneR (p : Int) s, ofN i s = p) ∧ (∀ x ∈ seenL s p, wB x (wantW (p : Int) s) = false) ∧ seenL s (p + 1) = seenL s p ++ [wantW (p : Int) s]) ∨
    (wantO (p : Int) s = false ∧ (doneR (p : Int) s).length = 0 ∧ seenL s (p + 1) = seenL s p) := by
  by_cases hk : spotK (p : Int) s < s.l.length
  · left
    obtain ⟨k, hke⟩ : ∃ k, k = spotK (p : Int) s := ⟨_, rfl⟩
    have hhit : (nthP s.l k).n = p := by
      have h1 := numB_iff.1 (spot_hit hk)
      rw [hke]
      exact Int.ofNat.inj h1
    rw [← hke] at hk
    have hn : s.l[k].n = p := by rw [nthP_eq hk] at hhit; exact hhit
    have hpw := List.pairwise_iff_getElem.1 h.nn
    have hww := List.pairwise_iff_getElem.1 h.ww
    have hii := List.pairwise_iff_getElem.1 h.ii
    have hk2 : spotK (p : Int) s < s.l.length := by rw [← hke]; exact hk
    have ew : wantW (p : Int) s = s.l[k].w := by unfold wantW; rw [if_pos hk2, ← hke, nthP_eq hk]
    have ed : doneR (p : Int) s = s.l[k].i := by unfold doneR; rw [if_pos hk2, ← hke, nthP_eq hk]
    have es : seenL s p = (s.l.take k).map Pv.w := by
      unfold seenL
      rw [filt_take (k := k)]
      · intro j hj hjk; have := hpw j k hj hk hjk; omega
      · intro j hj hjk
        rcases Nat.lt_or_ge k j with h1 | h1
        · have := hpw k j hk hj h1; omega
        · obtain rfl : j = k := by omega
          omega
    refine ⟨by unfold wantO; exact decide_eq_true hk2, ?_, ?_, ?_, ?_⟩
    · rw [ed]; exact List.length_pos_iff.2 (h.ne _ (List.getElem_mem hk))
    · intro i hi
      rw [ed] at hi
      have e1 : homeK i s = k := by
        refine spot_first hk (by rw [nthP_eq hk]; exact hasI_iff.2 hi) ?_
        intro j hj
        rw [nthP_eq (by omega)]
        rw [← Bool.not_eq_true, hasI_iff]
        intro hm
        exact hii j k (by omega) hk hj i hm hi
      show leaveN i s = p
      unfold leaveN
      rw [e1, if_pos hk, nthP_eq hk]
      exact hn
    · intro x hx
      rw [es] at hx
      obtain ⟨q, hq, rfl⟩ := List.mem_map.1 hx
      obtain ⟨j, hj, rfl⟩ := List.mem_iff_getElem.1 hq
      rw [List.length_take] at hj
      rw [List.getElem_take, ew, wB_no]
      exact hww j k (by omega) hk (by omega)
    · rw [es, ew]
      unfold seenL
      rw [filt_take (k := k + 1), List.take_succ_eq_append_getElem hk, List.map_append]
      · rfl
      · intro j hj hjk
        rcases Nat.lt_or_ge j k with h1 | h1
        · have := hpw j k hj hk h1; omega
        · obtain rfl : j = k := by omega
          omega
      · intro j hj hjk; have := hpw k j hk hj hjk; omega
  · right
    refine ⟨by unfold wantO; exact decide_eq_false hk, by unfold doneR; rw [if_neg hk]; rfl, ?_⟩
    unfold seenL
    congr 1
    apply List.filter_congr
    intro q hq
    have h1 : numB (p : Int) q = false := spot_no hk hq
    unfold numB at h1
    have h2 : ¬ ((q.n : Int) = (p : Int)) := by simpa using h1
    have h3 : q.n < p + 1 ↔ q.n < p := by omega
    simp only [h3]
/-- what a join is told, and the number that was given last -/
theorem join_told (k : Wt) (i : Int) (s : Sv) : ∃ (N : Nat) (F : Bool) (C : Nat) (S : Sv), joinN k i s = N ∧ joinF k i s = F ∧ joinC i s = C ∧ joinS k i s = S ∧
    ((C = 0 ∧ F = true ∧ S.last = N ∧ N = s.last + 1) ∨ ((C = 0 ∨ C = 2 ∨ C = 16 ∨ C = 10) ∧ F = false ∧ S.last = s.last)) := by
  refine ⟨_, _, _, _, rfl, rfl, rfl, rfl, ?_⟩
  by_cases hc : joinC i s = 0
  · by_cases hw : wantK k s < s.l.length
    · right
      refine ⟨.inl hc, by unfold joinF; exact decide_eq_false (fun h => h.2 hw), ?_⟩
      unfold joinS
      rw [if_pos hc, if_pos hw]
      rfl
    · left
      refine ⟨hc, by unfold joinF; exact decide_eq_true ⟨hc, hw⟩, ?_, ?_⟩
      · unfold joinS joinN
        rw [if_pos hc, if_neg hw, if_pos hc, if_neg hw]
        rfl
      · unfold joinN
        rw [if_pos hc, if_neg hw]
  · right
    refine ⟨?_, by unfold joinF; exact decide_eq_false (fun h => hc h.1), by unfold joinS; rw [if_neg hc]⟩
    revert hc
    unfold joinC
    split
    · intro _; omega
    split
    · intro _; omega
    split
    · intro _; omega
    · intro h; exact absurd rfl h
end
/-- Low's number, named -/
theorem LowN_any (x n : Int) (w : World) (hn : 1 ≤ n) (hn2 : n ≤ 9223372036854775807) :
    Calls Try.prog 11 #[.int .i64 x, .int .i64 n] w fun e w' => ∃ z : Int, e = .returned (.int .i64 z) ∧ (0 ≤ z ∧ z < n) ∧ w = w' :=
  (Low_any x n w hn hn2).mono fun _ _ ⟨e, h⟩ => ⟨_, e, lowV_bd x hn, h⟩

/-- rows of wants of one's own -/
def wcs (k : Wt) : List Value := [.string k.o, .string k.u, .bool k.c, .string k.m, .string k.s]
def wE : Enc Wt := ⟨wcs, 5, fun _ => rfl, fun _ u hu => by simp [wcs] at hu; rcases hu with rfl | rfl | rfl | rfl | rfl <;> rfl, by decide⟩
def WRow (w : World) (v : Value) (l : List Wt) : Prop := ERow wE 31 w 0 v l
section
variable {w w' : World} {v : Value} {l : List Wt}
theorem WRow.nil : WRow w (.slice none 0 0) [] := ERow.nil
theorem WRow.only {s : List Nat} (h : WRow w v l) (k : Only s w w') (hn : ∀ g ∈ ownL v, g ∉ s) : WRow w' v l := ERow.only h k hn
theorem WRow.old (h : WRow w v l) (k : Only [] w w') : WRow w' v l := h.only k (by simp)
theorem WRow.own (h : WRow w v l) {g : Nat} (hg : g ∈ ownL v) : g < w.heap.size := (ERow.own h hg).2
theorem WRow.slice (h : WRow w v l) : ∃ A cap, v = .slice A l.length cap ∧ l.length ≤ cap ∧ cap ≤ maxLen := ERow.slice h
theorem WRow.at_ {A : Option Addr} {n cap : Nat} (h : WRow w (.slice A n cap) l) (hn : n = l.length) {k : Nat} (hk : k < l.length) : ∃ g, A = some ⟨g, 0, none⟩ ∧ WtAt w g (k * 5) l[k] := by
  subst hn
  obtain ⟨g, c, e, _⟩ := ERow.some_ h (by omega)
  injection e with e1 e2 e3
  subst e1
  have h0 := ERow.el h rfl hk (t := 0) (by decide)
  have h1 := ERow.el h rfl hk (t := 1) (by decide)
  have h2 := ERow.el h rfl hk (t := 2) (by decide)
  have h3 := ERow.el h rfl hk (t := 3) (by decide)
  have h4 := ERow.el h rfl hk (t := 4) (by decide)
  exact ⟨g, rfl, h0, h1, h2, h3, h4⟩
end
abbrev zWV : Value := .agg #[.string ⟨#[]⟩, .string ⟨#[]⟩, .bool false, .string ⟨#[]⟩, .string ⟨#[]⟩]
theorem infoW : (Try.prog.info? 31).map (fun i => (i.zero, i.size, i.bytes)) = some (some zWV, 5, 72) := by kernel_rfl
/-- append(v, want) -/
theorem wpList_append_want {ops : Array Oper} {rest : List Oper} {o : Oper} {a : Act} {Q : Exit → Act → World → Prop} {w : World} (hgd : o.guard = none) (s x : Operand)
    (ho : o.op = .call { callee := .builtin .append, args := #[s, x], argTypes := #[55, 55] })
    (v : Value) (l : List Wt) (hs : a.eval s = v) (hown : WRow w v l) (B : Nat) (u : Wt) (hx : a.eval x = .slice (some ⟨B, 0, none⟩) 1 1) (hb : WtAt w B 0 u) (hsm : l.length ≤ 100000)
    (h : ∀ g2 cap w', Hid (WRow w' (.slice (some ⟨g2, 0, none⟩) (l.length + 1) cap) (l ++ [u])) → Hid (Only (ownL v) w w') → Hid (g2 ∈ ownL v ∨ g2 = w.heap.size) → wpList Try.prog ops Q rest (a.put o.dst (.slice (some ⟨g2, 0, none⟩) (l.length + 1) cap)) w') : wpList Try.prog ops Q (o :: rest) a w :=
  wpList_append_rec wE hgd s x 55 31 ho Try.underlying55 zWV 72 infoW rfl 0 v l hs hown B u hx (fun j hj => by
    match j, hj with
    | 0, _ => exact hb.c0
    | 1, _ => exact hb.c1
    | 2, _ => exact hb.c2
    | 3, _ => exact hb.c3
    | 4, _ => exact hb.c4
    | j + 5, hj => exact absurd hj (by show ¬ j + 5 < 5; omega)) hsm (by omega) (Nat.zero_le _) h
/-- a table of the call's own, and a row of wants beside it -/
structure HoldAt (w W : World) (g : Nat) (f : List Nat) (v : Value) (l : List Wt) (s : Sv) : Prop where
  t : TbN eP 1 w W g f s
  r : WRow W v l
  d : ∀ y ∈ ownL v, y ∉ f ∧ w.heap.size ≤ y
section
variable {w W W' : World} {g : Nat} {f : List Nat} {v v' : Value} {l l' : List Wt} {s : Sv}
theorem HoldAt.old (h : HoldAt w W g f v l s) (o : Only [] W W') : HoldAt w W' g f v l s := ⟨h.t.old o, h.r.old o, h.d⟩
/-- the row anew -/
theorem HoldAt.row (h : HoldAt w W g f v l s) (o : Only (ownL v) W W') (r : WRow W' v' l') (hg : ∀ y ∈ ownL v', y ∈ ownL v ∨ W.heap.size ≤ y) : HoldAt w W' g f v' l' s := by
  refine ⟨h.t.off o (fun x hx => ⟨(h.d x hx).2, (h.d x hx).1⟩), r, fun y hy => ?_⟩
  rcases hg y hy with h1 | h1
  · exact h.d y h1
  · exact ⟨fun hm => by have := h.t.p.lt hm; omega, Nat.le_trans h.t.b.size h1⟩
end
end Go.Proofs.Ytcljmdpnbfefbaa
