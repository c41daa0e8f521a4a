/-
  Rows of numbers of one's own: the library's Sort at such a row, nil or not, and the statements' helper Ints at two that are alike, over this seat's program. Conditions: those of each statement.
-/
import Derived.Test.YtcljmdpnbfefbaaKRec
import Derived.Test.YtcljmdpnbfefbaaKMix
namespace Go.Proofs.Ytcljmdpnbfefbaa
open Go.RowKit

def nE : Enc Int := ⟨fun n => [.int .i64 n], 1, fun _ => rfl, fun _ u hu => by simp at hu; subst hu; rfl, Nat.one_pos⟩
/-- a row of numbers of one's own -/
def IRow (w : World) (v : Value) (l : List Int) : Prop := ERow nE 3 w 0 v l
theorem ics_eq (l : List Int) : ecs nE l = l.map (Value.int .i64) := by
  induction l with
  | nil => rfl
  | cons x r ih => rw [ecs_cons, ih]; rfl
theorem IRow.nil {w : World} : IRow w (.slice none 0 0) [] := ERow.nil
theorem IRow.only {s : List Nat} {w w' : World} {v : Value} {l : List Int} (h : IRow w v l) (k : Only s w w') (hn : ∀ g ∈ ownL v, g ∉ s) : IRow w' v l := ERow.only h k hn
theorem IRow.old {w w' : World} {v : Value} {l : List Int} (h : IRow w v l) (k : Only [] w w') : IRow w' v l := h.only k (by simp)
theorem IRow.own {w : World} {v : Value} {l : List Int} (h : IRow w v l) {g : Nat} (hg : g ∈ ownL v) : g < w.heap.size := (ERow.own h hg).2
theorem IRow.slice {w : World} {v : Value} {l : List Int} (h : IRow w v l) : ∃ A cap, v = .slice A l.length cap ∧ l.length ≤ cap ∧ cap ≤ maxLen := ERow.slice h
theorem IRow.at_ {w : World} {n cap : Nat} {A : Option Addr} {l : List Int} (h : IRow w (.slice A n cap) l) (hn : n = l.length) {k : Nat} (hk : k < l.length) : ∃ g, A = some ⟨g, 0, none⟩ ∧ w.cell? ⟨g, k, none⟩ = some (.int .i64 l[k]) := by
  subst hn
  rcases ERow.form h with ⟨_, rfl⟩ | ⟨g, cap2, e, _, _, _, _⟩
  · simp at hk
  · injection e with e1 e2 e3
    subst e1
    refine ⟨g, rfl, ?_⟩
    have := ERow.el h rfl hk (t := 0) (by decide)
    simpa [nE] using this
theorem infoI : (Try.prog.info? 3).map (fun i => (i.zero, i.size, i.bytes)) = some (some (.int .i64 0), 1, 8) := by kernel_rfl
/-- one number, just laid -/
theorem IRow.one {w : World} {B : Nat} {x : Int} (hB : w.heap[B]? = some (.cells #[.int .i64 x] 3 (0, 0))) : IRow w (.slice (some ⟨B, 0, none⟩) 1 1) [x] := by
  refine ⟨rfl, .inr ⟨B, 1, _, rfl, Nat.zero_le _, hB, Nat.le_refl _, by unfold maxLen; omega, rfl, ?_⟩⟩
  rfl
/-- append(v, number) -/
theorem wpList_append_int {ops : Array Oper} {rest : List Oper} {o : Oper} {a : Act} {Q : Exit → Act → World → Prop} {w : World} (hgd : o.guard = none) (s x : Operand)
    (ho : o.op = .call { callee := .builtin .append, args := #[s, x], argTypes := #[42, 42] })
    (v : Value) (l : List Int) (hs : a.eval s = v) (hown : IRow w v l) (B : Nat) (u : Int) (hx : a.eval x = .slice (some ⟨B, 0, none⟩) 1 1)
    (hc : w.cell? ⟨B, 0, none⟩ = some (.int .i64 u)) (hsm : l.length ≤ 100000)
    (h : ∀ g2 cap w', Hid (IRow w' (.slice (some ⟨g2, 0, none⟩) (l.length + 1) cap) (l ++ [u])) → Hid (Only (ownL v) w w') → Hid (g2 ∈ ownL v ∨ g2 = w.heap.size) → wpList Try.prog ops Q rest (a.put o.dst (.slice (some ⟨g2, 0, none⟩) (l.length + 1) cap)) w') : wpList Try.prog ops Q (o :: rest) a w :=
  wpList_append_rec nE hgd s x 42 3 ho Try.underlying42 (.int .i64 0) 8 infoI rfl 0 v l hs hown B u hx (fun j hj => by obtain rfl : j = 0 := Nat.lt_one_iff.1 hj; exact hc) hsm (by omega) (Nat.zero_le _) h


set_option maxHeartbeats 1000000 in
/-- Ints at two rows of the same numbers -/
theorem Ints_any (ra rb : Value) (l : List Int) (w : World) (ha : IRow w ra l) (hb : IRow w rb l) :
    Calls Try.prog 16 #[ra, rb] w fun e w' => e = .returned (.bool true) ∧ Only [] w w' := by
  obtain ⟨A1, c1, e1, hc1, hm1⟩ := ha.slice
  obtain ⟨A2, c2, e2, hc2, hm2⟩ := hb.slice
  subst e1 e2
  unfold maxLen at hm1 hm2
  have HA := Lib.hid ha
  have HB := Lib.hid hb
  clear ha hb
  go_enter Try.func16, Try.ntmps16
  go_wp2_with fail
  go_loopw [5] (fun i wr => ∃ k : Nat, k ≤ l.length ∧ i = .int .i64 k ∧ Only [] w wr) (fun i _ => l.length - (intOf i).toNat)
  case atStart => exact ⟨0, Nat.zero_le _, rfl, Only.refl _ _⟩
  case round =>
    obtain ⟨k, hk, rfl, ho⟩ := hrel
    have HO := Lib.hid ho
    clear ho
    by_cases hlt : k < l.length
    · obtain ⟨g1, rfl, f1⟩ := (HA.out.only HO.out (by simp)).at_ rfl hlt
      obtain ⟨g2, rfl, f2⟩ := (HB.out.only HO.out (by simp)).at_ rfl hlt
      obtain ⟨x, hx⟩ : ∃ x, x = l[k] := ⟨_, rfl⟩
      rw [← hx] at f1 f2
      clear hx
      go_wp2_with fail
      go_quiet (fail)
      go_wp2_with fail
      go_roundw
      case rel => exact ⟨k + 1, by omega, by go_num, HO.out.drewN _⟩
      case measure => simp [intOf]; omega
    · obtain rfl : k = l.length := by omega
      go_wp2
      go_ret
      exact ⟨rfl, HO.out⟩
end Go.Proofs.Ytcljmdpnbfefbaa
