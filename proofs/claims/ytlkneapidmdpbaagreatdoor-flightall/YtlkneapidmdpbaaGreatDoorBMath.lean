/-
  Mathematics of a preflight cache: entries in a list, the oldest first; what a call is told and what is behind it. Plain lists and numbers. No conditions beyond those of each statement.
-/
import Derived.Test.YtlkneapidmdpbaaGreatDoorLOct2
namespace Go.Proofs.YtlkneapidmdpbaaGreatDoor

/-- a cell: an origin, a URL, with or without credentials -/
structure Cl where
  o : ByteArray
  u : ByteArray
  c : Bool
/-- an entry: its cell, its method, its header, its time -/
structure En where
  k : Cl
  m : ByteArray
  h : ByteArray
  t : Nat
abbrev noT : ByteArray := ⟨#[]⟩
abbrev starT : ByteArray := ⟨#[42]⟩
abbrev authT : ByteArray := ⟨#[97, 117, 116, 104, 111, 114, 105, 122, 97, 116, 105, 111, 110]⟩
def tB (a b : ByteArray) : Bool := a.toList == b.toList
theorem tB_iff {a b : ByteArray} : tB a b = true ↔ a = b := by
  unfold tB
  rw [beq_iff_eq]
  constructor
  · intro e; exact WideShapes.bytes_inj (by rw [ByteArray.toList_eq, ByteArray.toList_eq] at e; exact e)
  · intro e; rw [e]
theorem tB_self (a : ByteArray) : tB a a = true := tB_iff.2 rfl
theorem tB_no {a b : ByteArray} : tB a b = false ↔ a ≠ b := by rw [← Bool.not_eq_true, tB_iff]
theorem tB_comm (a b : ByteArray) : tB a b = tB b a := by rw [Bool.eq_iff_iff, tB_iff, tB_iff]; exact eq_comm
def cellB (a b : Cl) : Bool := tB a.o b.o && tB a.u b.u && (a.c == b.c)
theorem cellB_iff {a b : Cl} : cellB a b = true ↔ a = b := by
  unfold cellB
  rw [Bool.and_eq_true, Bool.and_eq_true, tB_iff, tB_iff, beq_iff_eq]
  constructor
  · rintro ⟨⟨h1, h2⟩, h3⟩; cases a; cases b; simp at h1 h2 h3; simp [h1, h2, h3]
  · rintro rfl; exact ⟨⟨rfl, rfl⟩, rfl⟩
theorem cellB_self (a : Cl) : cellB a a = true := cellB_iff.2 rfl
theorem cellB_no {a b : Cl} : cellB a b = false ↔ a ≠ b := by rw [← Bool.not_eq_true, cellB_iff]
theorem cellB_comm (a b : Cl) : cellB a b = cellB b a := by rw [Bool.eq_iff_iff, cellB_iff, cellB_iff]; exact eq_comm
def noB (a : ByteArray) : Bool := tB a noT
/-- one of method and header is there, not both -/
def okE (e : En) : Bool := noB e.m != noB e.h
def expB (t : Nat) (e : En) : Bool := decide (e.t ≤ t)
def ofB (k : Cl) (e : En) : Bool := cellB e.k k
/-- they permit the same -/
def sameB (e x : En) : Bool := cellB x.k e.k && tB x.m e.m && tB x.h e.h
def putB (e : En) (t : Nat) : Bool := okE e && !expB t e
def sweepL (t : Nat) (l : List En) : List En := l.filter (fun e => !expB t e)
def clearL (k : Cl) (l : List En) : List En := l.filter (fun e => !ofB k e)
def zE : En := ⟨⟨noT, noT, false⟩, noT, noT, 0⟩
def nthE (l : List En) (k : Nat) : En := l.getD k zE
theorem nthE_eq {l : List En} {k : Nat} (h : k < l.length) : nthE l k = l[k] := by simp [nthE, h]
theorem nthE_mem {l : List En} {k : Nat} (h : k < l.length) : nthE l k ∈ l := by rw [nthE_eq h]; exact List.getElem_mem h
/-- the first of the least of the first k -/
def leastI (l : List En) : Nat → Nat
  | 0 => 0
  | k + 1 => if (nthE l k).t < (nthE l (leastI l k)).t then k else leastI l k
theorem leastI_lt (l : List En) : ∀ {k : Nat}, 0 < k → leastI l k < k
  | 1, _ => by unfold leastI; split <;> simp [leastI]
  | k + 2, _ => by
    have h := leastI_lt l (k := k + 1) (by omega)
    rw [leastI]; split <;> omega
theorem leastI_one (l : List En) : leastI l 1 = 0 := by have := leastI_lt l (k := 1) (by omega); omega
def roomL (n : Nat) (l : List En) : List En := if n ≤ l.length then l.eraseIdx (leastI l l.length) else l
def timed (x : En) (t : Nat) : En := { x with t := t }
def addL (n : Nat) (e : En) (l : List En) : List En :=
  if l.findIdx (sameB e) < l.length then l.set (l.findIdx (sameB e)) (timed (nthE l (l.findIdx (sameB e))) e.t) else roomL n l ++ [e]
def putL (n : Nat) (e : En) (t : Nat) (l : List En) : List En := if putB e t then addL n e (sweepL t l) else l
/-- a method is let by an entry -/
def methE (k : Cl) (m : ByteArray) (e : En) : Bool := cellB e.k k && noB e.h && (tB e.m m || !k.c && tB e.m starT)
def headE (k : Cl) (h : ByteArray) (e : En) : Bool := cellB e.k k && noB e.m && (tB e.h h || (!k.c && !tB h authT) && tB e.h starT)
def hasL (t : Nat) (p : En → Bool) (l : List En) : Bool := l.any (fun e => !expB t e && p e)
def methL (k : Cl) (m : ByteArray) (t : Nat) (l : List En) : Bool := hasL t (methE k m) l
def lowA (s : ByteArray) : ByteArray := ⟨(Lk.lower s.data.toList).toArray⟩
def hdrL (k : Cl) (h : ByteArray) (t : Nat) (l : List En) : Bool := hasL t (headE k (lowA h)) l
def hdrsL (k : Cl) (ns : List ByteArray) (t : Nat) (l : List En) : Bool := ns.all (fun h => hdrL k h t l)
/-- the first place of which p holds; below 0: there is none -/
def spotI (p : En → Bool) (l : List En) : Int := if l.findIdx p < l.length then (l.findIdx p : Int) else -1
theorem spot_hit {p : En → Bool} {l : List En} (h : l.findIdx p < l.length) : p (nthE l (l.findIdx p)) = true := by
  rw [nthE_eq h]; exact List.findIdx_getElem
theorem spot_first {p : En → Bool} {l : List En} {k : Nat} (hk : k < l.length) (h1 : p (nthE l k) = true) (h2 : ∀ j, j < k → p (nthE l j) = false) : l.findIdx p = k := by
  rw [List.findIdx_eq hk]
  refine ⟨by rw [← nthE_eq hk]; exact h1, fun j hj => ?_⟩
  rw [← nthE_eq (by omega)]; exact h2 j hj
theorem spotI_yes {p : En → Bool} {l : List En} (h : l.findIdx p < l.length) : spotI p l = (l.findIdx p : Int) := by unfold spotI; rw [if_pos h]
theorem spotI_no {p : En → Bool} {l : List En} (h : ¬ l.findIdx p < l.length) : spotI p l = -1 := by unfold spotI; rw [if_neg h]
theorem spot_any {p : En → Bool} {l : List En} : decide (0 ≤ spotI p l) = l.any p := by
  rw [Bool.eq_iff_iff, decide_eq_true_iff]
  by_cases h : l.findIdx p < l.length
  · rw [spotI_yes h]
    exact ⟨fun _ => List.any_eq_true.2 ⟨_, nthE_mem h, spot_hit h⟩, fun _ => by omega⟩
  · rw [spotI_no h]
    constructor
    · intro h1; omega
    · intro h1
      obtain ⟨x, hx, hp⟩ := List.any_eq_true.1 h1
      exact absurd (List.findIdx_lt_length_of_exists ⟨x, hx, hp⟩) h
theorem keepE_take {p : En → Bool} {l : List En} {k : Nat} (hk : k < l.length) : (l.take (k + 1)).filter p = if p (nthE l k) then (l.take k).filter p ++ [nthE l k] else (l.take k).filter p := by
  rw [List.take_succ_eq_append_getElem hk, List.filter_append, ← nthE_eq hk]
  by_cases h : p (nthE l k) = true
  · rw [if_pos h]; simp [h]
  · rw [if_neg h]; simp [h]
theorem keepE_len {p : En → Bool} {l : List En} {k : Nat} (hk : k ≤ l.length) : ((l.take k).filter p).length ≤ k := by
  have := List.length_filter_le p (l.take k)
  rw [List.length_take] at this; omega
theorem sweepL_len (t : Nat) (l : List En) : (sweepL t l).length ≤ l.length := List.length_filter_le _ _
theorem clearL_len (k : Cl) (l : List En) : (clearL k l).length ≤ l.length := List.length_filter_le _ _
theorem roomL_len {n : Nat} {l : List En} (hn : 1 ≤ n) (h : l.length ≤ n) : (roomL n l).length < n ∧ (roomL n l).length = min l.length (n - 1) := by
  unfold roomL
  by_cases h1 : n ≤ l.length
  · rw [if_pos h1, List.length_eraseIdx, if_pos (leastI_lt l (by omega))]; omega
  · rw [if_neg h1]; omega
theorem addL_len {n : Nat} {l : List En} (e : En) (hn : 1 ≤ n) (h : l.length ≤ n) : (addL n e l).length ≤ n := by
  unfold addL
  split
  · rw [List.length_set]; exact h
  · rw [List.length_append]; have := (roomL_len hn h).1; simp; omega
theorem putL_len {n : Nat} {l : List En} (e : En) (t : Nat) (hn : 1 ≤ n) (h : l.length ≤ n) : (putL n e t l).length ≤ n := by
  unfold putL
  split
  · exact addL_len e hn (Nat.le_trans (sweepL_len t l) h)
  · exact h
theorem putL_no {n : Nat} {l : List En} {e : En} {t : Nat} (h : putB e t = false) : putL n e t l = l := by unfold putL; rw [h]; rfl
theorem putL_yes {n : Nat} {l : List En} {e : En} {t : Nat} (h : putB e t = true) : putL n e t l = addL n e (sweepL t l) := by unfold putL; rw [if_pos h]
theorem addL_yes {n : Nat} {l : List En} {e : En} (h : l.findIdx (sameB e) < l.length) : addL n e l = l.set (l.findIdx (sameB e)) (timed (nthE l (l.findIdx (sameB e))) e.t) := by unfold addL; rw [if_pos h]
theorem addL_no {n : Nat} {l : List En} {e : En} (h : ¬ l.findIdx (sameB e) < l.length) : addL n e l = roomL n l ++ [e] := by unfold addL; rw [if_neg h]
theorem roomL_yes {n : Nat} {l : List En} (h : n ≤ l.length) : roomL n l = l.eraseIdx (leastI l l.length) := by unfold roomL; rw [if_pos h]
theorem roomL_no {n : Nat} {l : List En} (h : ¬ n ≤ l.length) : roomL n l = l := by unfold roomL; rw [if_neg h]
def clampE (n : Int) : Nat := if n < 1 then 1 else if 64 < n then 64 else n.toNat
theorem clampE_bd (n : Int) : 1 ≤ clampE n ∧ clampE n ≤ 64 := by unfold clampE; split <;> (try split) <;> omega
end Go.Proofs.YtlkneapidmdpbaaGreatDoor
