/-
  The body of a range over a function, walked as any other code: what is shown of a region outside a round holds inside one, if it defers nothing. It speaks of any program. Conditions: those of each statement.
-/
import Derived.Test.YtbnmldfiheffoaaKMix
import Derived.RangeFuncNested
import Derived.RangeFuncBound
import Derived.RangeFuncCalls
import Derived.RangeFuncLeaves
namespace Go.Proofs.Ytbnmldfiheffoaa

/-- no operation is a defer statement -/
def noDefer (ops : Array Oper) : Bool := ops.toList.all fun o => match o.op with | .defer _ => false | _ => true
theorem noDefer_at {ops : Array Oper} (h : noDefer ops = true) {i : Nat} {o : Oper} (ho : ops[i]? = some o) : ∀ c, o.op ≠ .defer c := by
  intro c e
  have hm : o ∈ ops.toList := by
    rw [← Array.getElem?_toList] at ho
    exact List.mem_of_getElem? ho
  have h1 := List.all_eq_true.1 h o hm
  rw [e] at h1
  cases h1
section
variable {l n : Nat} {P : Program} {ops : Array Oper} {Q : Exit → Act → World → Prop}
theorem round_calls {f : FuncId} {args : Array Value} {w : World} {R : Ending → World → Prop} (h : Calls P f args w R) : CallsIn (Fence.wide.inRound l) n P f args w R := CallsIn.inRound l (callsIn_wide.2 h)
theorem round_rows {row : String} {args : Array Value} {w : World} {R : Value → World → Prop} (h : Rows P row args w R) : RowsIn (Fence.wide.inRound l) n P row args w R := fun c cs _ => by
  obtain ⟨v, w', r, s⟩ := h c cs
  exact ⟨v, w', r, stepsIn_wide.2 s⟩
theorem round_ops (hnd : noDefer ops = true) (hlo : ¬ LetsOut Q) : ∀ (L : List Nat) (a : Act) (w : World), wpOps P ops Q L a w → wpOpsIn (Fence.wide.inRound l) n P ops Q L a w
  | [], _, _, h => h
  | i :: rest, a, w, h => by
    unfold wpOps at h
    unfold wpOpsIn
    cases ho : ops[i]? with
    | none =>
      rw [ho] at h
      exact round_ops hnd hlo rest a w h
    | some o =>
      rw [ho] at h
      simp only at h ⊢
      by_cases hw : Region.wanted o (yielded ops a.tmps) = true
      · rw [if_pos hw] at h
        rw [if_pos hw]
        rcases h with h | h
        · refine ⟨fun _ _ => trivial, ?_⟩
          rw [show (Fence.wide.inRound l).round = some l from rfl, Oper.semAt_eq (some l) a.eval o (noDefer_at hnd ho)]
          unfold Oper.wp at h
          generalize (execOp a.eval o).run P w = r at h ⊢
          cases r with
          | ok nx w' =>
            cases nx <;> simp only [Oper.upon, Oper.uponIn] at h ⊢
            case value u => exact round_ops hnd hlo rest _ _ h
            case skip => exact round_ops hnd hlo rest _ _ h
            case defer d => exact round_ops hnd hlo rest _ _ h
            case enter f args =>
              refine ⟨fun hd => by simp [Fence.wide] at hd, round_calls (Calls.mono h fun e w'' he => ?_)⟩
              cases e with
              | returned u => exact round_ops hnd hlo rest _ _ he
              | panicked c => exact he
              | outgrown => exact he
            case row row args => exact ⟨fun hd => by simp [Fence.wide] at hd, round_rows (Rows.mono h fun u w'' he => round_ops hnd hlo rest _ _ he)⟩
          | halt x w' =>
            cases x <;> simp only [Oper.upon, Oper.uponIn] at h ⊢
            case panic u => exact h
        · exact absurd h.2 hlo
      · rw [if_neg hw] at h
        rw [if_neg hw]
        exact ⟨fun _ _ => trivial, round_ops hnd hlo rest _ _ h⟩
/-- a region that draws nothing -/
theorem round_list {id : Nat} {a : Act} {w : World} (hnd : noDefer ops = true) (hlo : ¬ LetsOut Q) (h : wpList P ops Q ops.toList a w) : (Code.region id ops false).wpIn (Fence.wide.inRound l) n P Q a w :=
  wpIn_region (round_ops hnd hlo _ _ _ (by rw [List.range_eq_range', ← Array.length_toList, wpOps_eq_wpList ops.toList 0 (by simp)]; exact h))
theorem letsOut_noPanic (h : ¬ LetsOut Q) : ¬ LetsOut (NoPanic Q) := fun ⟨a, w, k⟩ => h ⟨a, w, k⟩
/-- a region that draws its order -/
theorem round_mix {id : Nat} {a : Act} {w : World} (F : World → Prop) (hm : P.follows .mixedOrders = true) (hnd : noDefer ops = true) (hlo : ¬ LetsOut Q)
    (h : Mix P ops Q F ops.size (Array.replicate ops.size false) a w.drew) : (Code.region id ops true).wpIn (Fence.wide.inRound l) n P Q a w :=
  wpIn_mono (wpIn_region_draw (Q := NoPanic Q) fun t => by
    simp only [Region.schedule, hm, Bool.true_or, if_true]
    exact round_ops hnd (letsOut_noPanic hlo) _ _ _ (wpAny_sound ops.size t _ a _ (wpAny_of_held _ _ _ _ h))) NoPanic.imp
theorem letsOut_then {K : Act → World → Prop} (h : ¬ LetsOut Q) : ¬ LetsOut (Exit.then K Q) := fun ⟨a, w, k⟩ => h ⟨a, w, k⟩
theorem letsOut_inBlock {id : Nat} (h : ¬ LetsOut Q) : ¬ LetsOut (Exit.inBlock id Q) := fun ⟨a, w, k⟩ => h ⟨a, w, k⟩
end
end Go.Proofs.Ytbnmldfiheffoaa
