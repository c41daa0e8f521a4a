/-
  More of the plain mathematics of layer 4: a path put together of segments, what is kept of it step by step. It speaks of no program. No conditions.
-/
import Derived.Test.YtfamllkmmiajoaaDoorHMath2
namespace Go.Proofs.YtfamllkmmiajoaaDoor

def stepsL (acc : List (List UInt8)) : List (List UInt8) → List (List UInt8)
  | [] => acc
  | s :: r => stepsL (stepL acc s false) r
theorem keep_append : ∀ (a b acc : List (List UInt8)), b ≠ [] → keepL acc (a ++ b) = keepL (stepsL acc a) b
  | [], b, acc, _ => rfl
  | s :: r, b, acc, hb => by
    have : (r ++ b).isEmpty = false := by
      cases r with
      | nil => cases b with
        | nil => exact absurd rfl hb
        | cons _ _ => rfl
      | cons _ _ => rfl
    rw [List.cons_append, keepL, this, keep_append r b _ hb]; rfl
theorem steps_append : ∀ (a b acc : List (List UInt8)), stepsL acc (a ++ b) = stepsL (stepsL acc a) b
  | [], _, _ => rfl
  | s :: r, b, acc => by rw [List.cons_append, stepsL, steps_append r b]; rfl
theorem steps_plain : ∀ (a acc : List (List UInt8)), (∀ s ∈ a, dotsL s = 0) → stepsL acc a = acc ++ a
  | [], acc, _ => by simp [stepsL]
  | s :: r, acc, h => by
    rw [stepsL, steps_plain r _ (fun t ht => h t (by simp [ht]))]
    unfold stepL
    rw [if_pos (h s (by simp))]; simp
theorem step_up {acc : List (List UInt8)} {s : List UInt8} (h : dotsL s = 2) : stepL acc s false = acc.dropLast := by
  unfold stepL; rw [if_neg (by rw [h]; decide), if_pos h]; simp
theorem steps_ups : ∀ (a acc : List (List UInt8)), (∀ s ∈ a, dotsL s = 2) → stepsL acc a = acc.take (acc.length - a.length)
  | [], acc, _ => by simp [stepsL]
  | s :: r, acc, h => by
    rw [stepsL, step_up (h s (by simp)), steps_ups r _ (fun t ht => h t (by simp [ht])), List.dropLast_eq_take, List.take_take, List.length_take]
    congr 1
    simp
    omega
/-- segments, a slash behind each -/
def catS : List (List UInt8) → List UInt8
  | [] => []
  | s :: r => s ++ 47 :: catS r
theorem catS_append : ∀ a b : List (List UInt8), catS (a ++ b) = catS a ++ catS b
  | [], _ => rfl
  | s :: r, b => by simp [catS, catS_append r b]
theorem cat_join : ∀ a : List (List UInt8), joinS (a ++ [[]]) = 47 :: catS a
  | [] => rfl
  | s :: r => by simp [joinS, catS, cat_join r]
theorem clean_ups {a u : List (List UInt8)} (ha : ∀ s ∈ a, dotsL s = 0) (hu : ∀ s ∈ u, dotsL s = 2) (na : ∀ s ∈ a, noSl s) (nu : ∀ s ∈ u, noSl s) :
    cleanL (47 :: catS (a ++ u)) = 47 :: catS (a.take (a.length - u.length)) := by
  rw [← cat_join, clean_join (by simp) (by
    intro t ht
    simp only [List.mem_append, List.mem_cons, List.not_mem_nil, or_false] at ht
    rcases ht with (ht | ht) | rfl
    · exact na t ht
    · exact nu t ht
    · intro b hb; simp at hb)]
  rw [keep_append _ _ _ (by simp), steps_append, steps_plain a [] ha, List.nil_append, steps_ups u a hu]
  have : keepL (a.take (a.length - u.length)) [[]] = a.take (a.length - u.length) ++ [[]] := keep_id _ _ (by intro s hs; simp at hs; subst hs; exact dots_nil)
  rw [this, cat_join]
end Go.Proofs.YtfamllkmmiajoaaDoor
