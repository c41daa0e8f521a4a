/-
  What holds all through a statement of layer 14: what an answer lets lies in its block, its rows where it says; the calls in these words, over this seat's program. Conditions: the table of methods is as it is laid.
-/
import Derived.Test.YtnoiciakbbkngaaDoorEAwake
namespace Go.Proofs.YtnoiciakbbkngaaDoor
open Go.RowKit

structure StF (w W : World) (g : Nat) (a : Av) (z : Al) : Prop where
  bel : Below w.heap.size w W
  env0 : MEnv w
  at_ : AlAt W g a
  is_ : AvIs W a z
theorem StF.next {w W W' : World} {g : Nat} {a : Av} {z : Al} (h : StF w W g a z) (hb : Below W.heap.size W W') : StF w W' g a z :=
  ⟨h.bel.trans (hb.mono h.bel.size), h.env0, h.at_.up hb, h.is_.below hb⟩
theorem StF.env {w W : World} {g : Nat} {a : Av} {z : Al} (h : StF w W g a z) : MEnv W := h.env0.below h.bel
theorem StF.new {w W : World} {a : Av} {z : Al} (hb : Below w.heap.size w W) (he : MEnv w) (ha : AvIs W a z) (t : TypeId) : StF w (W.alloc (.cells #[.slice a.A1 a.n1 a.c1, .slice a.A2 a.n2 a.c2, .int .u64 a.g] t)) W.heap.size a z :=
  ⟨hb.alloc hb.size _, he, AlAt.new W a t, ha.below ((Below.refl _ _).alloc (Nat.le_refl _) _)⟩
theorem StF.drewN {w W : World} {g : Nat} {a : Av} {z : Al} (h : StF w W g a z) (n : Nat) : StF w (W.drewN n) g a z := h.next (below_drewN (Below.refl _ _) n)

theorem Has_st {w W : World} {g : Nat} {a : Av} {z : Al} (h : StF w W g a z) (s : ByteArray) (creds b : Bool) (hs : s.size ≤ maxLen) (hb : hasA z.ms s.data.toList creds = b) :
    Calls Tryd.prog 13 #[a.v, .string s, .bool creds] W fun e W' => e = .returned (.bool b) ∧ StF w W' g a z := by
  refine (Has_any a z s creds W h.is_ hs h.env).mono ?_
  rintro e W' ⟨rfl, h1⟩
  exact ⟨by rw [hb], h.next h1⟩
theorem Covers_st {w W : World} {g : Nat} {a : Av} {z : Al} (h : StF w W g a z) (s : ByteArray) (creds b : Bool) (hs : s.size ≤ maxLen) (hb : covA z.hs s.data.toList creds = b) :
    Calls Tryd.prog 15 #[a.v, .string s, .bool creds] W fun e W' => e = .returned (.bool b) ∧ StF w W' g a z := by
  refine (Covers_any a z s creds W h.is_ hs).mono ?_
  rintro e W' ⟨rfl, h1⟩
  exact ⟨by rw [hb], h.next h1⟩
theorem awake_st {w W : World} {g : Nat} {a : Av} {z : Al} (h : StF w W g a z) :
    Calls Tryd.prog 9 #[] W fun e W' => e = .returned (.bool true) ∧ StF w W' g a z := by
  refine (awake14_any W h.env).mono ?_
  rintro e W' ⟨rfl, h1⟩
  exact ⟨rfl, h.next h1⟩
theorem Safe_st {w W : World} {g : Nat} {a : Av} {z : Al} (h : StF w W g a z) (s : ByteArray) (b : Bool) (hs : s.size ≤ maxLen) (hb : Lk.safeL s.data.toList = b) :
    Calls Tryd.prog 18 #[.string s] W fun e W' => e = .returned (.bool b) ∧ StF w W' g a z := by
  refine (Safe_any s W hs h.env).mono ?_
  rintro e W' ⟨rfl, n, rfl⟩
  exact ⟨by rw [hb], h.drewN n⟩
theorem Fold_st {w W : World} {g : Nat} {a : Av} {z : Al} (h : StF w W g a z) (s t : ByteArray) (b : Bool) (hs : s.size ≤ maxLen) (ht : t.size ≤ maxLen) (hb : Lk.foldL s.data.toList t.data.toList = b) :
    Calls Tryd.prog 19 #[.string s, .string t] W fun e W' => e = .returned (.bool b) ∧ StF w W' g a z := by
  refine (Fold_any s t W hs ht).mono ?_
  rintro e W' ⟨rfl, n, rfl⟩
  exact ⟨by rw [hb], h.drewN n⟩
/-- Flip: another case of letters, as it comes -/
theorem Flip_ex (s : ByteArray) (bits : Int) (hs : s.size ≤ maxLen) (hb0 : 0 ≤ bits) (hb1 : bits ≤ 18446744073709551615) : ∃ t : ByteArray, Lk.lower t.data.toList = Lk.lower s.data.toList ∧ t.size = s.size ∧
    ∀ w, Calls Tryd.prog 17 #[.string s, .int .u64 bits] w fun e w' => e = .returned (.string t) ∧ Below w.heap.size w w' := by
  refine ⟨mk (flipL bits s.data.toList), by rw [mk_data]; exact flip_low _ _, ?_, fun w => FlipF_any s bits w hs hb0 hb1⟩
  have h1 := congrArg List.length (mk_data (flipL bits s.data.toList))
  rw [flip_len] at h1
  simp at h1
  omega
end Go.Proofs.YtnoiciakbbkngaaDoor
