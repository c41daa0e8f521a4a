/-
  A region that draws its order of evaluation and holds calls that write, loads and guards, walked by a plan: the numbers of the operations that may be taken first, and the calls one by one. What is kept of memory all through is named once. It speaks of any program. Conditions: those of each statement.
-/
import Derived.Test.YtcljmdpnbfefbaaKBase
import Derived.Deep.RegionHeld3
import Derived.Deep.QuietTactic
import Derived.BigQuiet
namespace Go.Proofs.Ytcljmdpnbfefbaa

/-- a world of which F holds, as one thing: so that facts on it are rules for any such world -/
structure Held (F : World → Prop) where
  w : World
  h : F w
def InHeld (F : World → Prop) (W : World) : Prop := ∃ p : Held F, W = p.w
@[simp] theorem inHeld_forall {F : World → Prop} {φ : World → Prop} : (∀ w, InHeld F w → φ w) ↔ ∀ p : Held F, φ p.w := ⟨fun h p => h _ ⟨p, rfl⟩, fun h _ ⟨p, e⟩ => e ▸ h p⟩
theorem InHeld.mk {F : World → Prop} {W : World} (h : F W) : InHeld F W := ⟨⟨W, h⟩, rfl⟩

/-- operations that yield a value or halt, and enter no function -/
def plainOp (o : Oper) : Bool :=
  match o.op with
  | .move _ | .assign _ | .pick _ _ _ | .load _ _ | .binOp _ _ _ _ _ | .unOp _ _ _ | .convert _ _ _ | .slice _ _ _ _ _ | .fieldAddr _ _ _
  | .nilCheck _ | .build _ _ | .field _ _ _ | .indexAddr _ _ _ | .index _ _ _ | .extract _ _ | .makeInterface _ _ | .lookup _ _ _ _ | .typeAssert _ _ _ _ => true
  | .call c => match c.callee with | .builtin .len | .builtin .cap => true | _ => false
  | _ => false

theorem andThen_value {w' : World} {r : Result Value} {n : Next} (h : (r.andThen fun x w => .ok (Next.value x) w) = .ok n w') : ∃ v, n = .value v := by
  cases r with
  | ok x w1 => simp at h; exact ⟨x, h.1.symm⟩
  | halt x w1 => simp at h

theorem plain_value {o : Oper} (h : plainOp o = true) {ρ : Operand → Value} {P : Program} {w w' : World} {n : Next} (hr : (execOp ρ o).run P w = .ok n w') : ∃ v, n = .value v := by
  obtain ⟨dst, op, type, pos, after, guard⟩ := o
  cases op
  case call c =>
    obtain ⟨callee, args, argTypes⟩ := c
    cases callee
    case builtin b =>
      cases b
      case len =>
        simp only [execOp, resolve, invoke, builtin, Sem.run_bind, Sem.run_pure, Result.andThen_ok] at hr
        exact andThen_value hr
      case cap =>
        simp only [execOp, resolve, invoke, builtin, Sem.run_bind, Sem.run_pure, Result.andThen_ok] at hr
        exact andThen_value hr
      all_goals (simp [plainOp] at h; done)
    all_goals (simp [plainOp] at h; done)
  case pick c a b =>
    simp only [execOp, Sem.run_bind, Sem.run_pure] at hr
    cases hb : (asBool (ρ c)).run P w with
    | ok x w1 => rw [hb] at hr; simp at hr; exact ⟨_, hr.1.symm⟩
    | halt x w1 => rw [hb] at hr; simp at hr
  case nilCheck x =>
    simp only [execOp] at hr
    repeat' split at hr
    all_goals first
      | (simp only [Sem.run_pure] at hr; injection hr with h1 h2; exact ⟨_, h1.symm⟩)
      | (simp [runtimePanic] at hr; done)
      | skip
    simp only [Sem.run_bind] at hr
    cases hp : Sem.run P program w with
    | halt x w1 => rw [hp] at hr; simp at hr
    | ok q w1 =>
      rw [hp, Result.andThen_ok] at hr
      generalize hq : Sem.run P (nilAhead _ _ _ _) w1 = r at hr
      cases r with
      | halt x w2 => simp at hr
      | ok b w2 =>
        rw [Result.andThen_ok] at hr
        split at hr
        · simp at hr
        · simp only [Sem.run_pure] at hr
          injection hr with h1 h2
          exact ⟨_, h1.symm⟩
  all_goals first
    | (simp [plainOp] at h; done)
    | (simp only [execOp, Sem.run_pure] at hr; injection hr with h1 h2; exact ⟨_, h1.symm⟩)
    | (simp only [execOp, Sem.run_bind, Sem.run_pure] at hr; exact andThen_value hr)

section
variable {P : Program} {ops : Array Oper} {Q : Exit → Act → World → Prop} {F : World → Prop}

/-- the operations of these numbers -/
def pickOp : List Oper → Nat → List Oper → List Oper
  | [], _, r => r
  | o :: _, 0, r => o :: r
  | _ :: l, n + 1, r => pickOp l n r
def pickOps (l : List Oper) : List Nat → List Oper
  | [] => []
  | i :: r => pickOp l i (pickOps l r)
def segOf (ops : Array Oper) (idx : List Nat) : List Oper := pickOps ops.toList idx
theorem pickOp_some {r : List Oper} {o : Oper} (l : List Oper) : ∀ (i : Nat), l[i]? = some o → pickOp l i r = o :: r := by
  induction l with
  | nil => intro i h; simp at h
  | cons x l ih =>
    intro i h
    cases i with
    | zero => simp at h; subst h; rfl
    | succ i => exact ih i (by simpa using h)
theorem segOf_cons {ops : Array Oper} {i : Nat} {r : List Nat} {o : Oper} (h : ops[i]? = some o) : segOf ops (i :: r) = o :: segOf ops r := by
  show pickOp ops.toList i (segOf ops r) = _
  exact pickOp_some ops.toList i (by simpa using h)
/-- they may be taken first, one behind the other -/
def segOk (ops : Array Oper) : List Nat → Array Bool → Bool
  | [], _ => true
  | i :: r, listed => (match ops[i]? with | some o => plainOp o | none => false) && Region.free .any ops listed i && (Region.ready .any ops listed).contains i && segOk ops r (listed.setIfInBounds i true)
def segListed : List Nat → Array Bool → Array Bool
  | [], l => l
  | i :: r, l => segListed r (l.setIfInBounds i true)

/-- where the walk through the region stands -/
def Mix (P : Program) (ops : Array Oper) (Q : Exit → Act → World → Prop) (F : World → Prop) (fuel : Nat) (listed : Array Bool) (a : Act) (w : World) : Prop :=
  wpAnyH P .any ops (NoPanic Q) (InHeld F) fuel listed a w

theorem yieldsIf_of_quiet {o : Oper} {a : Act} {v : Value} (hp : plainOp o = true) (hw : Region.wanted o (yielded ops a.tmps) = true) (h : ∀ w, InHeld F w → o.quietAt P a (InHeld F) w v) : YieldsIf P ops (InHeld F) o v a := by
  refine .inl ⟨hw, fun w hS => ?_⟩
  have h1 := h w hS
  unfold Oper.quietAt at h1
  cases hr : (execOp a.eval o).run P w with
  | ok n w' =>
    obtain ⟨u, rfl⟩ := plain_value hp hr
    rw [hr] at h1
    obtain ⟨rfl, rfl⟩ := h1
    rfl
  | halt x w' => rw [hr] at h1; exact absurd h1 (by simp [Oper.quietUpon])

theorem mix_seg_aux (hs : Region.noSelect ops = true) {w : World} (hF : F w) :
    ∀ (idx : List Nat) (fuel : Nat) (listed : Array Bool) (a : Act), segOk ops idx listed = true →
      wpQuiet P ops (InHeld F) (fun a' => Mix P ops Q F fuel (segListed idx listed) a' w) (segOf ops idx) a → Mix P ops Q F (fuel + idx.length) listed a w
  | [], _, _, _, _, h => h
  | i :: r, fuel, listed, a, hok, h => by
    simp only [segOk, Bool.and_eq_true] at hok
    obtain ⟨⟨⟨h1, h2⟩, h3⟩, h4⟩ := hok
    cases ho : ops[i]? with
    | none => rw [ho] at h1; cases h1
    | some o =>
      rw [ho] at h1
      have e : segOf ops (i :: r) = o :: segOf ops r := segOf_cons ho
      rw [e] at h
      unfold wpQuiet at h
      by_cases hw : Region.wanted o (yielded ops a.tmps) = true
      · rw [if_pos hw] at h
        obtain ⟨v, hv, hk⟩ := h
        exact wpAnyH_take ho hs h2 h3 (fun _ _ _ h => h) (yieldsIf_of_quiet h1 hw hv) (InHeld.mk hF) (mix_seg_aux hs hF r fuel _ _ h4 hk)
      · rw [if_neg hw] at h
        exact wpAnyH_take ho hs h2 h3 (fun _ _ _ h => h) (.inr ⟨by simpa using hw, rfl⟩) (InHeld.mk hF) (mix_seg_aux hs hF r fuel _ _ h4 h)

/-- these operations are taken first -/
theorem mix_seg (idx : List Nat) {fuel : Nat} {listed : Array Bool} {a : Act} {w : World} (hok : (segOk ops idx listed && Region.noSelect ops && decide (idx.length ≤ fuel)) = true) (hF : F w)
    (h : wpQuiet P ops (InHeld F) (fun a' => Mix P ops Q F (fuel - idx.length) (segListed idx listed) a' w) (segOf ops idx) a) : Mix P ops Q F fuel listed a w := by
  simp only [Bool.and_eq_true, decide_eq_true_eq] at hok
  obtain ⟨⟨h1, h2⟩, h3⟩ := hok
  have := mix_seg_aux h2 hF idx (fuel - idx.length) listed a h1 h
  rwa [Nat.sub_add_cancel h3] at this

/-- what is asked behind a call -/
def MixPost (P : Program) (ops : Array Oper) (Q : Exit → Act → World → Prop) (F : World → Prop) (fuel : Nat) (listed : Array Bool) : Exit → Act → World → Prop
  | .normal, a, w => F w ∧ Mix P ops Q F fuel listed a w
  | e, a, w => NoPanic Q e a w
theorem MixPost.normal {fuel : Nat} {listed : Array Bool} {a : Act} {w : World} (hF : F w) (h : Mix P ops Q F fuel listed a w) : MixPost P ops Q F fuel listed .normal a w := ⟨hF, h⟩

/-- the one operation that may come up is carried out -/
theorem mix_run (i : Nat) {fuel : Nat} {listed : Array Bool} {a : Act} {w : World} (hr : (Region.ready .any ops listed == [i] && decide (1 ≤ fuel)) = true)
    (h : wpList P ops (MixPost P ops Q F (fuel - 1) (listed.setIfInBounds i true)) (segOf ops [i]) a w) : Mix P ops Q F fuel listed a w := by
  simp only [Bool.and_eq_true, decide_eq_true_eq, beq_iff_eq] at hr
  obtain ⟨hr, hf⟩ := hr
  obtain ⟨n, rfl⟩ : ∃ n, fuel = n + 1 := ⟨fuel - 1, by omega⟩
  refine wpAnyH_all hr (by simp) fun j hj => ?_
  obtain rfl : j = i := by simpa using hj
  unfold wpOp
  cases ho : ops[j]? with
  | none =>
    have hm : j ∈ Region.ready .any ops listed := by rw [hr]; simp
    obtain ⟨_, o, ho', _⟩ := mem_ready.1 hm
    rw [ho] at ho'; cases ho'
  | some o =>
    have e : segOf ops [j] = [o] := segOf_cons ho
    rw [e] at h
    unfold wpList at h
    have hn : ∀ a' w', MixPost P ops Q F (n + 1 - 1) (listed.setIfInBounds j true) .normal a' w' → InHeld F w' ∧ wpAnyH P .any ops (NoPanic Q) (InHeld F) n (listed.setIfInBounds j true) a' w' :=
      fun a' w' h => ⟨InHeld.mk h.1, h.2⟩
    have hl : LetsOut (MixPost P ops Q F (n + 1 - 1) (listed.setIfInBounds j true)) → LetsOut (NoPanic Q) := fun h => h
    simp only
    split
    · rename_i hw
      rw [if_pos hw] at h
      rcases h with h | h
      · refine .inl ?_
        unfold Oper.wp at h ⊢
        generalize (execOp a.eval o).run P w = r at h ⊢
        cases r with
        | ok nx w' =>
          cases nx <;> simp only [Oper.upon] at h ⊢
          case value u => exact hn _ _ h
          case skip => exact hn _ _ h
          case defer d => exact hn _ _ h
          case enter f args =>
            refine Calls.mono h fun e w'' he => ?_
            cases e with
            | returned u => exact hn _ _ he
            | panicked c => exact he
            | outgrown => exact hl he
          case row row args => exact Rows.mono h fun u w'' he => hn _ _ he
        | halt x w' =>
          cases x <;> simp only [Oper.upon] at h ⊢
          case panic u => exact h
      · exact .inr ⟨h.1, hl h.2⟩
    · rename_i hw
      rw [if_neg hw] at h
      exact hn _ _ h

/-- several operations may come up: each of them is carried out, in an arm of its own -/
theorem mix_several (l : List Nat) {fuel : Nat} {listed : Array Bool} {a : Act} {w : World} (hr : (Region.ready .any ops listed == l && decide (1 ≤ fuel) && !l.isEmpty) = true)
    (h : ∀ i ∈ l, wpList P ops (MixPost P ops Q F (fuel - 1) (listed.setIfInBounds i true)) (segOf ops [i]) a w) : Mix P ops Q F fuel listed a w := by
  simp only [Bool.and_eq_true, decide_eq_true_eq, beq_iff_eq] at hr
  obtain ⟨⟨hr, hf⟩, hne⟩ := hr
  obtain ⟨n, rfl⟩ : ∃ n, fuel = n + 1 := ⟨fuel - 1, by omega⟩
  refine wpAnyH_all hr (by rintro rfl; simp at hne) fun j hj => ?_
  replace h := h j hj
  unfold wpOp
  cases ho : ops[j]? with
  | none =>
    have hm : j ∈ Region.ready .any ops listed := by rw [hr]; exact hj
    obtain ⟨_, o, ho', _⟩ := mem_ready.1 hm
    rw [ho] at ho'; cases ho'
  | some o =>
    have e : segOf ops [j] = [o] := segOf_cons ho
    rw [e] at h
    unfold wpList at h
    have hn : ∀ a' w', MixPost P ops Q F (n + 1 - 1) (listed.setIfInBounds j true) .normal a' w' → InHeld F w' ∧ wpAnyH P .any ops (NoPanic Q) (InHeld F) n (listed.setIfInBounds j true) a' w' :=
      fun a' w' h => ⟨InHeld.mk h.1, h.2⟩
    have hl : LetsOut (MixPost P ops Q F (n + 1 - 1) (listed.setIfInBounds j true)) → LetsOut (NoPanic Q) := fun h => h
    simp only
    split
    · rename_i hw
      rw [if_pos hw] at h
      rcases h with h | h
      · refine .inl ?_
        unfold Oper.wp at h ⊢
        generalize (execOp a.eval o).run P w = r at h ⊢
        cases r with
        | ok nx w' =>
          cases nx <;> simp only [Oper.upon] at h ⊢
          case value u => exact hn _ _ h
          case skip => exact hn _ _ h
          case defer d => exact hn _ _ h
          case enter f args =>
            refine Calls.mono h fun e w'' he => ?_
            cases e with
            | returned u => exact hn _ _ he
            | panicked c => exact he
            | outgrown => exact hl he
          case row row args => exact Rows.mono h fun u w'' he => hn _ _ he
        | halt x w' =>
          cases x <;> simp only [Oper.upon] at h ⊢
          case panic u => exact h
      · exact .inr ⟨h.1, hl h.2⟩
    · rename_i hw
      rw [if_neg hw] at h
      exact hn _ _ h

/-- the beginning: F names what is kept all through the region -/
theorem mix_start {id : Nat} {a : Act} {w : World} (F : World → Prop) (hm : P.follows .mixedOrders = true) (h : Mix P ops Q F ops.size (Array.replicate ops.size false) a w.drew) : (Code.region id ops true).wp P Q a w :=
  wp_region_noPanic (wp_region_held hm h)
/-- the end -/
theorem mix_done {fuel : Nat} {listed : Array Bool} {a : Act} {w : World} (hr : (Region.ready .any ops listed == []) = true) (h : Q .normal a w) : Mix P ops Q F fuel listed a w :=
  wpAnyH_done (Q := NoPanic Q) (by simpa using hr) (NoPanic.normal h) fuel
end
end Go.Proofs.Ytcljmdpnbfefbaa
