/-
  The contracts of layer 12's awake and of Long at one text over this seat's program; what calls are told of small tables. No conditions but those of each statement.
-/
import Derived.Test.YtbnmldfiheffoaaNKeys
import Derived.Test.YtbnmldfiheffoaaNUse2
namespace Go.Proofs.Ytbnmldfiheffoaa
open Go.RowKit

theorem use_miss {M : Nat} {l : List Ho} {k : ByteArray} (h : ∀ x ∈ l, x.1 ≠ k) (hm : l.length < M) : useG M l k = ⟨#[]⟩ ∧ useC M l k = 0 ∧ useS M l k = l ++ [(k, 1)] := by
  have h1 : ¬ l.findIdx (keyB k) < l.length := by rw [place_none (fun x hx => keyB_no.2 (h x hx))]; omega
  unfold useG useC useS
  rw [if_neg h1, if_neg h1, if_neg h1, if_pos hm, if_pos hm, if_pos hm]
  exact ⟨rfl, rfl, rfl⟩
theorem place_one {k : ByteArray} {n : Nat} : [((k, n) : Ho)].findIdx (keyB k) = 0 := place_first (by simp) (by simp [nthH, keyB]) (fun j hj => by omega)
theorem use_one {M : Nat} {k : ByteArray} {n : Nat} (h : n < 6) : useG M [(k, n)] k = ⟨#[]⟩ ∧ useC M [(k, n)] k = 0 ∧ useS M [(k, n)] k = [(k, n + 1)] := by
  unfold useG useC useS
  rw [place_one]
  simp [nthH]
  omega
theorem use_six {M : Nat} {k : ByteArray} : useG M [(k, 6)] k = ⟨#[]⟩ ∧ useC M [(k, 6)] k = 10 ∧ useS M [(k, 6)] k = [(k, 6)] := by
  unfold useG useC useS
  rw [place_one]
  simp [nthH]
theorem free_one {k : ByteArray} {n : Nat} : freeC [(k, n + 1)] k = 0 ∧ freeS [(k, n + 1)] k = [(k, n)] := by
  unfold freeC freeS
  rw [place_one]
  simp [nthH]
theorem free_miss {l : List Ho} {k : ByteArray} (h : ∀ x ∈ l, x.1 ≠ k) : freeC l k = 11 ∧ freeS l k = l := by
  have h1 : ¬ l.findIdx (keyB k) < l.length := by rw [place_none (fun x hx => keyB_no.2 (h x hx))]; omega
  unfold freeC freeS
  rw [if_neg h1, if_neg h1]
  exact ⟨rfl, rfl⟩
theorem used_one {k : ByteArray} {n : Nat} : usedC [(k, n)] k = n := by unfold usedC; rw [place_one]; simp [nthH]
theorem has_miss {l : List Ho} {k : ByteArray} (h : ∀ x ∈ l, x.1 ≠ k) : hasC l k = false := by
  have h1 : ¬ l.findIdx (keyB k) < l.length := by rw [place_none (fun x hx => keyB_no.2 (h x hx))]; omega
  unfold hasC
  exact decide_eq_false h1
theorem ne_ab : (ByteArray.mk #[97]) ≠ (ByteArray.mk #[98]) := by intro h; injection h with h; exact absurd h (by decide)
theorem use_b1 : useG 1 [(⟨#[97]⟩, 1)] ⟨#[98]⟩ = ⟨#[]⟩ ∧ useC 1 [(⟨#[97]⟩, 1)] ⟨#[98]⟩ = 10 ∧ useS 1 [(⟨#[97]⟩, 1)] ⟨#[98]⟩ = [(⟨#[97]⟩, 1)] := by
  have h1 : [((⟨#[97]⟩, 1) : Ho)].findIdx (keyB ⟨#[98]⟩) = 1 := place_none (l := [((⟨#[97]⟩, 1) : Ho)]) (fun x hx => by simp at hx; subst hx; exact keyB_no.2 ne_ab)
  have h2 : [((⟨#[97]⟩, 1) : Ho)].findIdx idleB = 1 := place_none (l := [((⟨#[97]⟩, 1) : Ho)]) (fun x hx => by simp at hx; subst hx; rfl)
  unfold useG useC useS
  rw [h1, h2]
  simp
theorem use_b2 : useG 1 [(⟨#[97]⟩, 0)] ⟨#[98]⟩ = ⟨#[97]⟩ ∧ useC 1 [(⟨#[97]⟩, 0)] ⟨#[98]⟩ = 0 ∧ useS 1 [(⟨#[97]⟩, 0)] ⟨#[98]⟩ = [(⟨#[98]⟩, 1)] := by
  have h1 : [((⟨#[97]⟩, 0) : Ho)].findIdx (keyB ⟨#[98]⟩) = 1 := place_none (l := [((⟨#[97]⟩, 0) : Ho)]) (fun x hx => by simp at hx; subst hx; exact keyB_no.2 ne_ab)
  have h2 : [((⟨#[97]⟩, 0) : Ho)].findIdx idleB = 0 := place_first (by simp) (by simp [nthH, idleB]) (fun j hj => by omega)
  unfold useG useC useS
  rw [h1, h2]
  simp [nthH]

/-- a table of the call's own: all its blocks are new -/
structure TbNew (w W : World) (g M : Nat) (v : Value) (l : List Ho) : Prop where
  t : TbAt 106 W g M v l
  b : Below w.heap.size w W
  g0 : w.heap.size ≤ g
  v0 : ∀ x ∈ ownL v, w.heap.size ≤ x
theorem TbNew.step {w W W' : World} {g M : Nat} {v v' : Value} {l l' : List Ho} (h : TbNew w W g M v l) (t : TbAt 106 W' g M v' l') (o : Only (g :: ownL v) W W') (hv : ∀ x ∈ ownL v', x ∈ ownL v ∨ W.heap.size ≤ x) : TbNew w W' g M v' l' :=
  ⟨t, Only.below h.b o h.b.size (fun x hx => by rcases List.mem_cons.1 hx with rfl | h1; exact h.g0; exact h.v0 x h1), h.g0, fun x hx => by rcases hv x hx with h1 | h1; exact h.v0 x h1; exact Nat.le_trans h.b.size h1⟩
theorem TbNew.same {w W W' : World} {g M : Nat} {v : Value} {l l' : List Ho} (h : TbNew w W g M v l) (t : TbAt 106 W' g M v l') (o : Only (ownL v) W W') : TbNew w W' g M v l' :=
  h.step t (o.mono (fun _ hx => List.mem_cons_of_mem _ hx)) (fun _ hx => .inl hx)
theorem TbNew.old {w W W' : World} {g M : Nat} {v : Value} {l : List Ho} (h : TbNew w W g M v l) (o : Only [] W W') : TbNew w W' g M v l := h.same (h.t.old o) (o.mono (by simp))
theorem TbNew.new {w0 w W : World} {M : Nat} (b : Below w0.heap.size w0 w) (t : TbAt 106 W w.heap.size M (.slice none 0 0) []) (o : Only [] w W) : TbNew w0 W w.heap.size M (.slice none 0 0) [] :=
  ⟨t, Only.below b o b.size (by simp), b.size, by intro x hx; simp [ownL, Value.ownBlock] at hx⟩
theorem hUseN_any {w W : World} {g M : Nat} {v : Value} {l : List Ho} (key : ByteArray) (h : TbNew w W g M v l) :
    Calls Try.prog 50 #[.pointer (some ⟨g, 0, none⟩), .string key] W fun e W' => e = .returned (.tuple #[.string (useG M l key), .int .i64 (useC M l key : Int)]) ∧ ∃ v', TbNew w W' g M v' (useS M l key) ∧ Only (g :: ownL v) W W' :=
  (hUse_any g M v l key W h.t).mono fun _ _ ⟨e, v', t, o, hv⟩ => ⟨e, v', h.step t o hv, o⟩
theorem hFreeN_any {w W : World} {g M : Nat} {v : Value} {l : List Ho} (key : ByteArray) (h : TbNew w W g M v l) :
    Calls Try.prog 40 #[.pointer (some ⟨g, 0, none⟩), .string key] W fun e W' => e = .returned (.int .i64 (freeC l key : Int)) ∧ TbNew w W' g M v (freeS l key) ∧ Only (ownL v) W W' :=
  (hFree_any g M v l key W h.t).mono fun _ _ ⟨e, t, o⟩ => ⟨e, h.same t o, o⟩
theorem hUsedN_any {w W : World} {g M : Nat} {v : Value} {l : List Ho} (key : ByteArray) (h : TbNew w W g M v l) :
    Calls Try.prog 47 #[.pointer (some ⟨g, 0, none⟩), .string key] W fun e W' => e = .returned (.int .i64 (usedC l key : Int)) ∧ TbNew w W' g M v l ∧ Only [] W W' :=
  (hUsed_any g M v l key W h.t).mono fun _ _ ⟨e, o⟩ => ⟨e, h.old o, o⟩
theorem hHasN_any {w W : World} {g M : Nat} {v : Value} {l : List Ho} (key : ByteArray) (h : TbNew w W g M v l) :
    Calls Try.prog 51 #[.pointer (some ⟨g, 0, none⟩), .string key] W fun e W' => e = .returned (.bool (hasC l key)) ∧ TbNew w W' g M v l ∧ Only [] W W' :=
  (hHas_any g M v l key W h.t).mono fun _ _ ⟨e, o⟩ => ⟨e, h.old o, o⟩

set_option maxHeartbeats 800000 in
/-- Long at one text -/
theorem Long1_any (n B : Nat) (x : ByteArray) (w : World) (hc : w.cell? ⟨B, 0, none⟩ = some (.string x)) (hn : n ≤ 100000) :
    Calls Try.prog 8 #[.int .i64 (n : Int), .slice (some ⟨B, 0, none⟩) 1 1] w fun e w' => e = .returned (.bool (decide (n ≤ x.size))) ∧ w = w' := by
  by_cases h : n ≤ x.size
  · go_enter Try.func8, Try.ntmps8
    go_wp2_with fail
    go_loop [0, 5] (fun m i => m = .int .i64 (n : Int) ∧ i = .int .i64 0) (fun _ i => 2 - (intOf i).toNat)
    case atStart => exact ⟨rfl, rfl⟩
    case round =>
      obtain ⟨rfl, rfl⟩ := hrel
      go_wp2
      go_ret
      exact ⟨ret_bool (by simp), rfl⟩
  · go_enter Try.func8, Try.ntmps8
    go_wp2_with fail
    go_loop [0, 5] (fun m i => (∃ q : Int, m = .int .i64 q ∧ (i = .int .i64 0 ∧ q = (n : Int) ∨ i = .int .i64 1))) (fun _ i => 2 - (intOf i).toNat)
    case atStart => exact ⟨n, rfl, .inl ⟨rfl, rfl⟩⟩
    case round =>
      obtain ⟨q, rfl, hq⟩ := hrel
      rcases hq with ⟨rfl, rfl⟩ | rfl
      · go_wp2
        go_round
        case rel => exact ⟨_, rfl, .inr rfl⟩
        case measure => simp [intOf]
      · go_wp2
        go_ret
        exact ⟨ret_bool (by simp), rfl⟩
end Go.Proofs.Ytbnmldfiheffoaa
