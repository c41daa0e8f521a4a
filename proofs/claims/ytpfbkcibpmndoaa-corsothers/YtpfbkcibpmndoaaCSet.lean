/-
  A set of texts, as a map of the call's own from texts to true, over this seat's program: made, filled, asked. Conditions: those of each statement.
-/
import Derived.Maps.Views
import Derived.Maps.OwnOps
import Derived.Test.YtpfbkcibpmndoaaCMath
namespace Go.Proofs.Ytpfbkcibpmndoaa
open Go.RowKit Go.Maps Go.WideMaps

theorem keyS : Keyed Try.prog 9 := string_keyed Try.underlying9
theorem zeroBool (w : World) : (zeroValue 4).run Try.prog w = .ok (.bool false) w := by kernel_rfl
def tru : DataW Unit := .lit (.bool true)
/-- the set of these texts, as a map that is read -/
def setD (S : List (List UInt8)) : DataW Unit := setOf tru (S.map Lit.string)
/-- block b of w is the set of these texts, of at most n entries -/
def SetAt (w : World) (b n : Nat) (S : List (List UInt8)) : Prop := w.ownsMap Try.prog 9 (plainElem Try.prog 4) b n (setD S)
theorem SetAt.new (w : World) : SetAt (w.alloc (.map #[] 0)) w.heap.size 0 [] := World.ownsMap_made w _ _ _
theorem SetAt.lt {w : World} {b n : Nat} {S : List (List UInt8)} (h : SetAt w b n S) : b < w.heap.size := World.ownsMap.lt h
theorem SetAt.below {w w' : World} {b n B : Nat} {S : List (List UInt8)} (h : SetAt w b n S) (hb : Below B w w') (hB : b < B) : SetAt w' b n S := by
  obtain ⟨es, clock, h1, F, h2, h3⟩ := h
  exact ⟨es, clock, (hb.block b hB).trans h1, F, h2, h3⟩
theorem isKey_str (S : List (List UInt8)) : ∀ x ∈ S.map Lit.string, WideAt.IsKeyLit x := by
  intro x hx
  obtain ⟨s, _, rfl⟩ := List.mem_map.1 hx
  trivial
theorem setD_snoc (S : List (List UInt8)) (s : List UInt8) : setD (S ++ [s]) = (setD S).put (.string s) tru := by
  unfold setD
  rw [List.map_append, List.map_cons, List.map_nil, setOf_snoc]
theorem atKey_fold (u z : DataW Unit) (k : Lit) : ∀ (acc : List Lit) (m : DataW Unit), IsMap m → (∀ x ∈ acc, WideAt.IsKeyLit x) →
    (acc.foldl (fun m x => m.put x u) m).atKey k z = if acc.any (fun x => x.sameKey k) then u else m.atKey k z
  | [], m, _, _ => by simp
  | x :: r, m, hm, h => by
    rw [List.foldl_cons, atKey_fold u z k r (m.put x u) (hm.put x u) (fun y hy => h y (by simp [hy])), List.any_cons]
    by_cases e : k = x
    · subst e
      rw [atKey_put_same hm (h k (by simp)), WideAt.sameKey_self (h k (by simp))]
      simp
    · rw [atKey_put_other e, sameKey_ne (fun e' => e e'.symm)]
      simp
theorem setD_at (S : List (List UInt8)) (s : List UInt8) : (setD S).atKey (.string s) (.lit (.bool false)) = .lit (.bool (memS S s)) := by
  have h := atKey_fold tru (.lit (.bool false)) (.string s) (S.map Lit.string) (.map []) isMap_empty (isKey_str S)
  have e : (S.map Lit.string).any (fun x => x.sameKey (.string s)) = memS S s := by
    unfold memS
    rw [List.any_map]
    rfl
  rw [e] at h
  unfold setD setOf
  rw [h]
  cases memS S s <;> rfl
theorem elem_bool {v : Value} {x : Bool} {ps : List MemPlace} (h : plainElem (H := Unit) Try.prog 4 v = some (.lit (.bool x), ps)) : v = .bool x := by
  unfold plainElem at h
  rw [Try.underlying4] at h
  cases v <;> simp at h
  rw [h.1]
/-- m[s] -/
theorem SetAt.look {w : World} {b n : Nat} {S : List (List UInt8)} (h : SetAt w b n S) (s : ByteArray) (hs : s.size ≤ maxLen) :
    (Instr.lookup 46 (.map (some b)) (.string s) false).run Try.prog w = .ok (.bool (memS S s.data.toList)) w := by
  obtain ⟨v, ps, hrun, hv⟩ := World.ownsMap.lookup h keyS Try.underlying46 (zeroBool w) (plainElem_bool Try.underlying4 false) (keyOf_string_mk Try.underlying9 hs)
  rw [setD_at] at hv
  rw [hrun, elem_bool hv]
end Go.Proofs.Ytpfbkcibpmndoaa
