/-
  Words on rows of headers in memory. No conditions beyond those of each statement.
-/
import Derived.Test.YtinpfkbplflecaaDMath2
import Derived.Test.YtinpfkbplflecaaLOct2
namespace Go.Proofs.Ytinpfkbplflecaa
open Go.RowKit

/-- a header's two texts, as bytes, and back -/
def hd (x : ByteArray × ByteArray) : Hd := (x.1.data.toList, x.2.data.toList)
def mkp (h : Hd) : ByteArray × ByteArray := (mk h.1, mk h.2)
theorem hd_mkp (h : Hd) : hd (mkp h) = h := by simp [hd, mkp, mk_data]
theorem mkp_hd (x : ByteArray × ByteArray) : mkp (hd x) = x := by simp [hd, mkp, mk_eq]

/-- a slice of headers: what its cells hold -/
def PRow (w : World) (B : Nat) (A : Option Addr) (xs : List (ByteArray × ByteArray)) : Prop :=
  ∀ j x, xs[j]? = some x → ∃ ad, A = some ad ∧ ad.block < B ∧ w.cell? (ad.add (j * 2)) = some (.string x.1) ∧ w.cell? ⟨(ad.add (j * 2)).block, (ad.add (j * 2)).off + 1, none⟩ = some (.string x.2)
theorem PRow.below {w w' : World} {B : Nat} {A : Option Addr} {xs : List (ByteArray × ByteArray)} (h : PRow w B A xs) (hb : Below B w w') : PRow w' B A xs := by
  intro j x hj
  obtain ⟨ad, e, hB, hc, hd⟩ := h j x hj
  exact ⟨ad, e, hB, (hb.cell (p := ad.add (j * 2)) (by rw [block_add]; exact hB)).trans hc, (hb.cell (p := ⟨(ad.add (j * 2)).block, (ad.add (j * 2)).off + 1, none⟩) (by show (ad.add (j * 2)).block < B; rw [block_add]; exact hB)).trans hd⟩
theorem PRow.mono {w : World} {B B' : Nat} {A : Option Addr} {xs : List (ByteArray × ByteArray)} (h : PRow w B A xs) (hb : B ≤ B') : PRow w B' A xs := by
  intro j x hj
  obtain ⟨ad, e, hB, hc⟩ := h j x hj
  exact ⟨ad, e, by omega, hc⟩
theorem PRow.nil (w : World) (B : Nat) (A : Option Addr) : PRow w B A [] := fun j x h => by simp at h

def HArg (w : World) (a : Option Addr) (c : Nat) (xs : List (ByteArray × ByteArray)) : Prop :=
  PRow w w.heap.size a xs ∧ (∀ x ∈ xs, x.1.size ≤ maxLen ∧ x.2.size ≤ maxLen) ∧ xs.length ≤ c ∧ c ≤ maxLen ∧ (a = none → c = 0)
theorem HArg.none_ (w : World) : HArg w none 0 [] := ⟨fun j x h => by simp at h, by simp, Nat.le_refl _, Nat.zero_le _, fun _ => rfl⟩

/-- a row of headers of the call's own -/
def hcs (l : List Hd) : List Value := l.flatMap (fun h => [sv h.1, sv h.2])
theorem hcs_cons (h : Hd) (l : List Hd) : hcs (h :: l) = sv h.1 :: sv h.2 :: hcs l := rfl
theorem hcs_append (l m : List Hd) : hcs (l ++ m) = hcs l ++ hcs m := by simp [hcs]
theorem hcs_len (l : List Hd) : (hcs l).length = l.length * 2 := by
  induction l with
  | nil => rfl
  | cons h r ih => rw [hcs_cons, List.length_cons, List.length_cons, ih, List.length_cons]; omega
theorem hcs_at : ∀ (l : List Hd) (j : Nat) (h : j < l.length), (hcs l)[j * 2]? = some (sv l[j].1) ∧ (hcs l)[j * 2 + 1]? = some (sv l[j].2)
  | h :: r, 0, _ => ⟨rfl, rfl⟩
  | h :: r, j + 1, hj => by
    have := hcs_at r j (by simpa using hj)
    rw [hcs_cons, show (j + 1) * 2 = j * 2 + 1 + 1 by omega]
    simpa using this
theorem hcs_one (l : List Hd) : ∀ u ∈ hcs l, u.oneCell' = true := by
  intro u hu
  simp only [hcs, List.mem_flatMap] at hu
  obtain ⟨h, _, hu⟩ := hu
  simp at hu
  rcases hu with rfl | rfl <;> rfl
def HdRow (w : World) (base : Nat) (v : Value) (l : List Hd) : Prop := w.ownsRow base 41 2 v l.length (hcs l)
theorem HdRow.below {w w' : World} {base : Nat} {v : Value} {l : List Hd} (h : HdRow w base v l) (hb : Below w.heap.size w w') : HdRow w' base v l := ownsRow_below h hb
theorem HdRow.nil (w : World) (base : Nat) : HdRow w base (.slice none 0 0) [] := World.ownsRow_nil _ _ _ _
theorem HdRow.base {w : World} {b b' : Nat} {v : Value} {l : List Hd} (h : HdRow w b v l) (hb : b' ≤ b) : HdRow w b' v l := ownsRow_base h hb
theorem add_own (g k : Nat) : (⟨g, 0, none⟩ : Addr).add k = ⟨g, k, none⟩ := by
  unfold Addr.add; split
  · subst_vars; rfl
  · simp
theorem HdRow.prow {w : World} {base : Nat} {v : Value} {l : List Hd} (h : HdRow w base v l) : ∃ (A : Option Addr) (cap : Nat), v = .slice A l.length cap ∧ l.length ≤ cap ∧ cap ≤ maxLen ∧ PRow w w.heap.size A (l.map mkp) := by
  have h0 := h
  unfold HdRow at h0
  rcases h0.2 with ⟨e1, e2⟩ | ⟨g, cap, cur, e1, _, e3, e4, e5, _⟩
  · have : l = [] := List.length_eq_zero_iff.1 e2
    subst this
    exact ⟨none, 0, e1, Nat.le_refl _, Nat.zero_le _, PRow.nil _ _ _⟩
  · refine ⟨_, cap, e1, e4, e5, ?_⟩
    intro j x hj
    have hlt : g < w.heap.size := by
      rcases Nat.lt_or_ge g w.heap.size with h | h
      · exact h
      · rw [Array.getElem?_eq_none h] at e3; cases e3
    rw [List.getElem?_map] at hj
    cases hl : l[j]? with
    | none => rw [hl] at hj; cases hj
    | some y =>
      rw [hl] at hj
      obtain rfl : mkp y = x := by simpa using hj
      obtain ⟨hjl, hy⟩ := List.getElem?_eq_some_iff.1 hl
      obtain ⟨c1, c2⟩ := hcs_at l j hjl
      rw [hy] at c1 c2
      have k1 := h0.cells (g := g) (by rw [e1]; rfl) _ _ c1
      have k2 := h0.cells (g := g) (by rw [e1]; rfl) _ _ c2
      refine ⟨_, rfl, hlt, k1, ?_⟩
      rw [add_own] at k2 ⊢
      exact k2
theorem add_pair (a : Addr) (k : Nat) : a.add (k * 2 + 1) = ⟨(a.add (k * 2)).block, (a.add (k * 2)).off + 1, none⟩ := by
  unfold Addr.add
  rw [if_neg (by omega)]
  split
  · rename_i h; rw [h]
  · rfl
theorem sv_data (x : ByteArray) : sv x.data.toList = .string x := by rw [sv_mk, mk_eq]
theorem PRow.cells {w : World} {B : Nat} {ad : Addr} {xs : List (ByteArray × ByteArray)} (h : PRow w B (some ad) xs) : ∀ j u, (hcs (xs.map hd))[j]? = some u → w.cell? (ad.add j) = some u := by
  intro j u hj
  have hlt : j < xs.length * 2 := by
    have := (List.getElem?_eq_some_iff.1 hj).1
    rw [hcs_len] at this; simpa using this
  obtain ⟨k, hk⟩ : ∃ k, j = k * 2 ∨ j = k * 2 + 1 := ⟨j / 2, by omega⟩
  have hkl : k < xs.length := by omega
  obtain ⟨c1, c2⟩ := hcs_at (xs.map hd) k (by simpa using hkl)
  obtain ⟨ad', e, _, d1, d2⟩ := h k xs[k] (List.getElem?_eq_getElem hkl)
  obtain rfl : ad = ad' := by simpa using e
  rcases hk with rfl | rfl
  · rw [c1] at hj
    rw [d1, ← hj, List.getElem_map]
    exact congrArg some (sv_data _).symm
  · rw [c2] at hj
    rw [add_pair, d2, ← hj, List.getElem_map]
    exact congrArg some (sv_data _).symm
theorem HdRow.more {w : World} {base : Nat} {v : Value} {l : List Hd} {a b : ByteArray} (h : w.ownsRow base 41 2 v (l.length + 1) (hcs l ++ [.string a, .string b])) : HdRow w base v (l ++ [(a.data.toList, b.data.toList)]) := by
  unfold HdRow
  rw [List.length_append, hcs_append]
  have : hcs [(a.data.toList, b.data.toList)] = [.string a, .string b] := by
    show [sv _, sv _] = _
    rw [sv_mk, sv_mk, mk_eq, mk_eq]
  rw [this]
  exact h
theorem infoH : (Try.prog.info? 41).map (fun i => (i.zero, i.size, i.bytes)) = some (some (.agg #[.string ⟨#[]⟩, .string ⟨#[]⟩]), 2, 32) := by kernel_rfl

theorem hcs_set : ∀ (l : List Hd) (k : Nat) (h : Hd), ((hcs l).set (k * 2) (sv h.1)).set (k * 2 + 1) (sv h.2) = hcs (l.set k h)
  | [], _, _ => rfl
  | x :: r, 0, h => rfl
  | x :: r, k + 1, h => by
    rw [hcs_cons, show (k + 1) * 2 = k * 2 + 1 + 1 by omega, List.set_cons_succ, List.set_cons_succ, List.set_cons_succ, List.set_cons_succ, hcs_set r k h, List.set_cons_succ, hcs_cons]
theorem HdRow.slot {w : World} {base g n cap : Nat} {l : List Hd} (h : HdRow w base (.slice (some ⟨g, 0, none⟩) n cap) l) (hn : n = l.length) (k : Nat) (hk : k < l.length) :
    w.cell? ⟨g, k * 2, none⟩ = some (.string (mk l[k].1)) ∧ w.cell? ⟨g, k * 2 + 1, none⟩ = some (.string (mk l[k].2)) ∧ w.frozen? ⟨g, k * 2, none⟩ = false ∧ w.frozen? ⟨g, k * 2 + 1, none⟩ = false := by
  subst hn
  unfold HdRow at h
  obtain ⟨c1, c2⟩ := hcs_at l k hk
  exact ⟨(h.cellAt (k * 2) (by omega)).trans c1, (h.cellAt (k * 2 + 1) (by omega)).trans c2, h.frozenAt _, h.frozenAt _⟩
theorem HdRow.set {w : World} {base g n cap : Nat} {l : List Hd} (h : HdRow w base (.slice (some ⟨g, 0, none⟩) n cap) l) (hn : n = l.length) (k : Nat) (a b : ByteArray) :
    HdRow ((w.setCell ⟨g, k * 2, none⟩ (.string a)).setCell ⟨g, k * 2 + 1, none⟩ (.string b)) base (.slice (some ⟨g, 0, none⟩) n cap) (l.set k (a.data.toList, b.data.toList)) := by
  subst hn
  unfold HdRow at h ⊢
  have h1 := ((h.stored (k * 2) (.string a)).1.stored (k * 2 + 1) (.string b)).1
  rw [List.length_set, ← hcs_set]
  rw [show sv (a.data.toList, b.data.toList).1 = .string a by rw [sv_mk]; exact congrArg _ (mk_eq a), show sv (a.data.toList, b.data.toList).2 = .string b by rw [sv_mk]; exact congrArg _ (mk_eq b)]
  exact h1
theorem hcs_rep (n : Nat) : hcs (List.replicate n ([], [])) = List.replicate (n * 2) (Value.string ⟨#[]⟩) := by
  induction n with
  | zero => rfl
  | succ n ih => rw [List.replicate_succ, hcs_cons, ih, show (n + 1) * 2 = n * 2 + 1 + 1 by omega, List.replicate_succ, List.replicate_succ]; rfl
theorem made_two (n : Nat) : (madeCells #[Value.string ⟨#[]⟩, Value.string ⟨#[]⟩] (n * 2)).toList = hcs (List.replicate n ([], [])) := by
  rw [hcs_rep]
  apply List.ext_getElem
  · simp [madeCells]
  · intro j h1 h2
    simp only [madeCells, Array.toList_map, List.getElem_map, List.getElem_replicate, Array.toList_range, List.getElem_range]
    have : j % 2 = 0 ∨ j % 2 = 1 := by omega
    show (#[Value.string ⟨#[]⟩, Value.string ⟨#[]⟩] : Array Value)[j % 2]! = _
    rcases this with e | e <;> rw [e] <;> rfl
def greatGo : Nat → List (ByteArray × ByteArray) → Bool
  | n, [] => decide (12000 < n)
  | n, h :: r => if 100 < h.1.size || 5000 < h.2.size then true else greatGo (n + h.2.size) r

set_option maxHeartbeats 1000000 in
theorem Great_any (A : Option Addr) (len c B : Nat) (xs : List (ByteArray × ByteArray)) (w : World) (hlen : len = xs.length) (hx : PRow w B A xs) (hl : xs.length ≤ maxLen) (hs : ∀ x ∈ xs, x.1.size ≤ maxLen ∧ x.2.size ≤ maxLen) :
    Calls Try.prog 10 #[.slice A len c] w fun e w' => e = .returned (.bool (decide (40 < xs.length) || greatGo 0 xs)) ∧ w = w' := by
  subst hlen
  unfold maxLen at hl
  have HX := Lib.hid hx
  have HS := Lib.hid hs
  clear hx hs
  by_cases h40 : 40 < xs.length
  · go_enter Try.func10, Try.ntmps10
    go_wp2
    go_ret
    exact ⟨ret_bool (by simp [h40]), rfl⟩
  go_enter Try.func10, Try.ntmps10
  go_wp2
  go_loop [3, 4] (fun m i => ∃ k q : Nat, k ≤ xs.length ∧ i = .int .i64 k ∧ m = .int .i64 q ∧ q ≤ 5000 * k ∧ greatGo 0 xs = greatGo q (xs.drop k)) (fun _ i => xs.length - (intOf i).toNat)
  case atStart => exact ⟨0, 0, Nat.zero_le _, rfl, rfl, Nat.le_refl _, rfl⟩
  case round =>
    obtain ⟨k, q, hk, rfl, rfl, hq, he⟩ := hrel
    have HE := Lib.hid he
    clear he
    by_cases hlt : k < xs.length
    · obtain ⟨ad, hA, hB, hc1, hc2⟩ := HX.out k xs[k] (List.getElem?_eq_getElem hlt)
      have hz := HS.out xs[k] (List.getElem_mem hlt)
      unfold maxLen at hz
      have HD : Hid (xs.drop k = xs[k] :: xs.drop (k + 1)) := List.drop_eq_getElem_cons hlt
      generalize xs[k] = x at *
      obtain ⟨x1, x2⟩ := x
      subst hA
      by_cases h1 : 100 < x1.size
      · go_wp2
        go_ret
        exact ⟨ret_bool (by rw [HE.out, HD.out, greatGo]; simp [h1]), rfl⟩
      by_cases h2 : 5000 < x2.size
      · go_wp2
        go_ret
        exact ⟨ret_bool (by rw [HE.out, HD.out, greatGo]; simp [h2]), rfl⟩
      go_wp2
      go_round
      case rel => exact ⟨k + 1, q + x2.size, by omega, by go_num, by go_num, by omega, by rw [HE.out, HD.out, greatGo, if_neg (by simp; omega)]⟩
      case measure => simp [intOf]; omega
    · go_wp2
      go_ret
      exact ⟨ret_bool (by rw [HE.out, List.drop_of_length_le (by omega)]; simp [greatGo]; omega), rfl⟩
end Go.Proofs.Ytinpfkbplflecaa
