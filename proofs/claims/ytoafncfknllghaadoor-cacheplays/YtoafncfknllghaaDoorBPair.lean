/-
  Two caches side by side, a cell in a box and a call that was read; the statements' helper great. Conditions: those of each statement.
-/
import Derived.Test.YtoafncfknllghaaDoorBAwake
import Derived.Test.YtoafncfknllghaaDoorBOpen
namespace Go.Proofs.YtoafncfknllghaaDoor
open Go.RowKit

/-- two caches of the call's own that have no block in common, and a cell in a box -/
structure PairC (w W : World) (g h n : Nat) (v u : Value) (l l2 : List En) (B : Nat) (k : Cl) : Prop where
  p : CaNew w W g n v l
  m : CaNew w W h n u l2
  d : ∀ x ∈ g :: ownL v, x ∉ h :: ownL u
  k : ClBox W B k
  b1 : B ∉ g :: ownL v
  b2 : B ∉ h :: ownL u
theorem Grow.mem {n g : Nat} {v v' : Value} (h : Grow n v v') {x : Nat} (hx : x ∈ g :: ownL v') : x ∈ g :: ownL v ∨ n ≤ x := by
  rcases List.mem_cons.1 hx with h1 | h1
  · exact .inl (by simp [h1])
  · rcases h x h1 with h2 | h2
    · exact .inl (by simp [h2])
    · exact .inr h2
section
variable {w W W' : World} {g h n B : Nat} {v u : Value} {l l2 l' : List En} {k : Cl}
theorem PairC.old (h' : PairC w W g h n v u l l2 B k) (o : Only [] W W') : PairC w W' g h n v u l l2 B k := ⟨h'.p.old o, h'.m.old o, h'.d, h'.k.old o, h'.b1, h'.b2⟩
theorem PairC.stepP (h' : PairC w W g h n v u l l2 B k) (s : CaStep W W' g n v l') : ∃ v', PairC w W' g h n v' u l' l2 B k ∧ Only (g :: ownL v) W W' ∧ Grow W.heap.size v v' := by
  obtain ⟨v', h1, h2, h3⟩ := h'.p.step s
  refine ⟨v', ⟨h1, h'.m.only h2 (fun x hx hm => h'.d x hm hx) h'.p.up, fun x hx hm => ?_, h'.k.only h2 h'.b1, fun hm => ?_, h'.b2⟩, h2, h3⟩
  · rcases h3.mem hx with h4 | h4
    · exact h'.d x h4 hm
    · have := h'.m.c.own hm; omega
  · rcases h3.mem hm with h4 | h4
    · exact h'.b1 h4
    · have := h'.k.lt; omega
theorem PairC.stepM (h' : PairC w W g h n v u l l2 B k) (s : CaStep W W' h n u l') : ∃ u', PairC w W' g h n v u' l l' B k ∧ Only (h :: ownL u) W W' ∧ Grow W.heap.size u u' := by
  obtain ⟨u', h1, h2, h3⟩ := h'.m.step s
  refine ⟨u', ⟨h'.p.only h2 h'.d h'.m.up, h1, fun x hx hm => ?_, h'.k.only h2 h'.b2, h'.b1, fun hm => ?_⟩, h2, h3⟩
  · rcases h3.mem hm with h4 | h4
    · exact h'.d x hx h4
    · have := h'.p.c.own hx; omega
  · rcases h3.mem hm with h4 | h4
    · exact h'.b2 h4
    · have := h'.k.lt; omega
end
/-- an entry and what stands beside it, in a box: from a cell on -/
structure EnFrom (W : World) (b o : Nat) (e : En) : Prop where
  c0 : W.cell? ⟨b, o, none⟩ = some (.string e.k.o)
  c1 : W.cell? ⟨b, o + 1, none⟩ = some (.string e.k.u)
  c2 : W.cell? ⟨b, o + 2, none⟩ = some (.bool e.k.c)
  c3 : W.cell? ⟨b, o + 3, none⟩ = some (.string e.m)
  c4 : W.cell? ⟨b, o + 4, none⟩ = some (.string e.h)
  c5 : W.cell? ⟨b, o + 5, none⟩ = some (.int .u64 (e.t : Int))
theorem long_fits {xs : List ByteArray} (h : xs.length ≤ 10) : xs.length ≤ maxLen := by unfold maxLen; omega
set_option maxHeartbeats 800000 in
theorem great_any (e : En) (w : World) (he : EnWf e) : Calls Tryd.prog 9 #[entV e] w fun r w' => ∃ b, r = .returned (.bool b) ∧ Only [] w w' := by
  obtain ⟨W1, hW1⟩ : ∃ W1, W1 = w.alloc (.cells #[.string e.k.o, .string e.k.u, .bool e.k.c, .string e.m, .string e.h, .int .u64 (e.t : Int)] 34) := ⟨_, rfl⟩
  obtain ⟨W2, hW2⟩ : ∃ W2, W2 = W1.alloc (.cells #[.string e.k.o, .string e.k.u, .string e.m, .string e.h] 9) := ⟨_, rfl⟩
  have HO2 : Hid (Only [] w W2) := by show Only _ _ _; rw [hW2, hW1]; exact ((Only.refl _ _).alloc _).alloc _
  obtain ⟨B2, hB2⟩ : ∃ B2, B2 = W1.heap.size := ⟨_, rfl⟩
  have hB2s : B2 = w.heap.size + 1 := by rw [hB2, hW1]; simp
  have HR2 : Hid (SRow W2 (W1.heap.size + 1) (some ⟨B2, 0, none⟩) [e.k.o, e.k.u, e.m, e.h]) := by show SRow _ _ _ _; rw [hW2, hB2]; exact SRow.new _ _ _ _ rfl
  obtain ⟨o, u, m, h, _⟩ := he
  have hlong := Long_any 300 (some ⟨B2, 0, none⟩) 4 4 [e.k.o, e.k.u, e.m, e.h] W2 (W1.heap.size + 1) (by omega) (by omega) rfl HR2.out (long_fits (by simp)) (by simp only [List.mem_cons, List.not_mem_nil, or_false]; rintro x (rfl | rfl | rfl | rfl) <;> assumption)
  generalize Lk.longL (300 : Int).toNat ([e.k.o, e.k.u, e.m, e.h].map ByteArray.size) = q at *
  simp only [entV]
  clear o u m h
  go_enter Tryd.func9, Tryd.ntmps9
  go_wp2_with fail
  rw [← hB2s, ← hW1, ← hW2]
  clear hW1 hW2 hB2 hB2s
  refine hlong.mono ?_
  rintro r w' ⟨rfl, rfl⟩
  clear hlong
  go_wp2
  go_ret
  exact ⟨q, rfl, HO2.out⟩
end Go.Proofs.YtoafncfknllghaaDoor
