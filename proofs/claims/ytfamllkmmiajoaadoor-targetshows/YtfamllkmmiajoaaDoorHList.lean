/-
  Rows of texts of the call's own: what they hold, cut short, one text more. They speak of any program but for the types' numbers. Conditions: those of each statement.
-/
import Derived.Test.YtfamllkmmiajoaaDoorHWords
import Derived.Test.YtfamllkmmiajoaaDoorHMath3
namespace Go.Proofs.YtfamllkmmiajoaaDoor
open Go.RowKit

theorem own_view {w : World} {base : Nat} {e : TypeId} {v : Value} {xs : List Value} (h : w.ownsRow base e 1 v xs.length xs) : ∃ (A : Option Addr) (cap : Nat), v = .slice A xs.length cap ∧ xs.length ≤ cap ∧ cap ≤ maxLen ∧
    (∀ j (hj : j < xs.length), ∃ ad, A = some ad ∧ w.cell? (ad.add j) = some xs[j]) ∧ (∀ m, m ≤ xs.length → w.ownsRow base e 1 (.slice A m cap) m (xs.take m)) := by
  rcases h.2 with ⟨e1, e2⟩ | ⟨g, cap, cur, e1, e2, e3, e4, e5, e6, e7⟩
  · have hl : xs = [] := List.length_eq_zero_iff.1 e2
    subst hl
    refine ⟨none, 0, e1, Nat.zero_le _, Nat.zero_le _, fun j hj => by simp at hj, fun m hm => ?_⟩
    obtain rfl : m = 0 := by simpa using hm
    exact World.ownsRow_nil _ _ _ _
  · refine ⟨some ⟨g, 0, none⟩, cap, e1, e4, e5, fun j hj => ⟨_, rfl, ?_⟩, fun m hm => ?_⟩
    · exact h.cells (g := g) (by rw [e1]; rfl) j _ (by simp [hj])
    · refine ⟨by simp; omega, .inr ⟨g, cap, cur, rfl, e2, e3, by omega, e5, e6, ?_⟩⟩
      simp only [Nat.mul_one] at e7 ⊢
      rw [← e7, List.take_take, Nat.min_eq_left hm]
/-- a row of texts -/
def TRow (w : World) (base : Nat) (v : Value) (l : List (List UInt8)) : Prop := w.ownsRow base 9 1 v l.length (l.map sv)
theorem TRow.below {w w' : World} {base : Nat} {v : Value} {l : List (List UInt8)} (h : TRow w base v l) (hb : Below w.heap.size w w') : TRow w' base v l := ownsRow_below h hb
theorem TRow.nil (w : World) (base : Nat) : TRow w base (.slice none 0 0) [] := World.ownsRow_nil _ _ _ _
theorem TRow.view {w : World} {base : Nat} {v : Value} {l : List (List UInt8)} (h : TRow w base v l) : ∃ (A : Option Addr) (cap : Nat), v = .slice A l.length cap ∧ l.length ≤ cap ∧ cap ≤ maxLen ∧
    (∀ j (hj : j < l.length), ∃ ad, A = some ad ∧ w.cell? (ad.add j) = some (.string (mk l[j]))) ∧ (∀ m, m ≤ l.length → TRow w base (.slice A m cap) (l.take m)) := by
  have h' : w.ownsRow base 9 1 v (l.map sv).length (l.map sv) := by rw [List.length_map]; exact h
  obtain ⟨A, cap, e, h1, h2, h3, h4⟩ := own_view h'
  rw [List.length_map] at e h1
  refine ⟨A, cap, e, h1, h2, fun j hj => ?_, fun m hm => ?_⟩
  · obtain ⟨ad, ea, hc⟩ := h3 j (by simpa using hj)
    exact ⟨ad, ea, by rw [hc]; simp [sv_mk]⟩
  · have := h4 m (by simpa using hm)
    unfold TRow
    rw [List.length_take, Nat.min_eq_left hm, List.map_take]
    exact this
theorem TRow.more {w : World} {base : Nat} {v : Value} {l : List (List UInt8)} {t : ByteArray} (h : w.ownsRow base 9 1 v (l.length + 1) (l.map sv ++ [.string t])) : TRow w base v (l ++ [t.data.toList]) := by
  unfold TRow
  rw [List.length_append, List.map_append]
  have : [Value.string t] = List.map sv [t.data.toList] := by
    rw [List.map_cons, List.map_nil, sv_mk, mk_eq]
  rw [← this]
  exact h
/-- what is kept, put together: one text more -/
def JoinT (P : ByteArray) (ss : List (List UInt8)) (n : Nat) : Prop := P.data.toList = joinS ss ∧ P.size ≤ n
theorem ba_app2 (a b : ByteArray) : (a ++ b).data.toList = a.data.toList ++ b.data.toList := by simp
theorem JoinT.more {P : ByteArray} {ss : List (List UInt8)} {n m : Nat} (h : JoinT P ss n) (x : ByteArray) (s : List UInt8) (hx : x.data.toList = s) (hm : n + 1 + s.length ≤ m) : JoinT (P ++ ByteArray.mk #[47] ++ x) (ss ++ [s]) m := by
  have hz : x.size = s.length := by have := congrArg List.length hx; simpa using this
  refine ⟨?_, ?_⟩
  · rw [ba_app2, ba_app2, h.1, hx, joinS_snoc]; simp
  · have := h.2; simp [ByteArray.size_append]; have : (ByteArray.mk #[47]).size = 1 := rfl; omega
theorem infoS2 : (Tryd.prog.info? 9).map (fun i => (i.zero, i.size, i.bytes)) = some (some (.string ⟨#[]⟩), 1, 16) := by kernel_rfl
theorem step_zero {acc : List (List UInt8)} {s : List UInt8} {b : Bool} (h : dotsL s = 0) : stepL acc s b = acc ++ [s] := by unfold stepL; rw [if_pos h]
theorem step_one {acc : List (List UInt8)} {s : List UInt8} {b : Bool} (h : dotsL s = 1) : stepL acc s b = acc ++ (if b then [[]] else []) := by unfold stepL; rw [if_neg (by rw [h]; decide), if_neg (by rw [h]; decide)]
theorem step_two {acc : List (List UInt8)} {s : List UInt8} {b : Bool} (h : dotsL s = 2) : stepL acc s b = acc.dropLast ++ (if b then [[]] else []) := by unfold stepL; rw [if_neg (by rw [h]; decide), if_pos h]
end Go.Proofs.YtfamllkmmiajoaaDoor
