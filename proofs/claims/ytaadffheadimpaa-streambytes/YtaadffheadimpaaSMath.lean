/-
  Mathematics of a stream: its marks, its state, what a call is told and what is behind it. Plain lists and numbers. No conditions.
-/
import Derived.Test.YtaadffheadimpaaRPut
namespace Go.Proofs.Ytaadffheadimpaa

/-- the high mark, the low mark as New takes them -/
def clampH (h : Int) : Nat := if h < 1 then 1 else if 1024 < h then 1024 else h.toNat
def clampW (H : Nat) (l : Int) : Nat := if l < 0 then 0 else if (H : Int) - 1 < l then H - 1 else l.toNat
theorem clampH_bd (h : Int) : 1 ≤ clampH h ∧ clampH h ≤ 1024 := by unfold clampH; split <;> (try split) <;> omega
theorem clampW_bd {H : Nat} (hH : 1 ≤ H) (l : Int) : clampW H l < H := by unfold clampW; split <;> (try split) <;> omega
theorem clampH_id {h : Nat} (h1 : 1 ≤ h) (h2 : h ≤ 1024) : clampH (h : Int) = h := by unfold clampH; rw [if_neg (by omega), if_neg (by omega)]; omega
theorem clampW_id {H l : Nat} (h1 : l < H) : clampW H (l : Int) = l := by unfold clampW; rw [if_neg (by omega), if_neg (by omega)]; omega

/-- what a stream is: its state, whether it is paused, its bytes -/
structure Sv where
  st : Nat
  p : Bool
  l : List UInt8
def chunkC (s : Sv) (b : List UInt8) : Nat := if s.st ≠ 1 then 12 else if b.length < 1 ∨ 64 < b.length then 4 else if s.p = true then 10 else 0
def chunkS (H : Nat) (s : Sv) (b : List UInt8) : Sv := if chunkC s b = 0 then ⟨1, decide (H ≤ (s.l ++ b).length), s.l ++ b⟩ else s
def endC (s : Sv) : Nat := if s.st ≠ 1 then 12 else 0
def endS (s : Sv) : Sv := if s.st ≠ 1 then s else ⟨2, false, s.l⟩
def readS (L : Nat) (s : Sv) (n : Int) : Sv := ⟨s.st, if (s.l.drop (upto n s.l)).length ≤ L then false else s.p, s.l.drop (upto n s.l)⟩
def stopC (s : Sv) : Bool := decide (s.st ≠ 3)
def stopS (s : Sv) : Sv := if s.st = 3 then s else ⟨3, false, []⟩
def overC (s : Sv) : Bool := decide (s.st = 3 ∨ s.st = 2 ∧ s.l.length = 0)

/-- what holds of a stream at any time -/
structure SvOk (H L : Nat) (s : Sv) : Prop where
  h1 : 1 ≤ H
  h2 : H ≤ 1024
  lo : L < H
  st : s.st = 1 ∨ s.st = 2 ∨ s.st = 3
  room : s.st = 1 → s.p = false → s.l.length < H
  fits : s.l.length ≤ H + 63
theorem SvOk.new {H L : Nat} (h1 : 1 ≤ H) (h2 : H ≤ 1024) (lo : L < H) : SvOk H L ⟨1, false, []⟩ := ⟨h1, h2, lo, .inl rfl, fun _ _ => by simp; omega, by simp⟩
theorem chunk_free {s : Sv} {b : List UInt8} (h : chunkC s b = 0) : s.st = 1 ∧ 1 ≤ b.length ∧ b.length ≤ 64 ∧ s.p = false := by
  unfold chunkC at h
  split at h
  · omega
  · split at h
    · omega
    · split at h
      · omega
      · rename_i h1 h2 h3
        refine ⟨by omega, by omega, by omega, by simpa using h3⟩
theorem SvOk.chunk {H L : Nat} {s : Sv} (h : SvOk H L s) (b : List UInt8) : SvOk H L (chunkS H s b) := by
  unfold chunkS
  split
  · rename_i h0
    obtain ⟨e1, e2, e3, e4⟩ := chunk_free h0
    have := h.room e1 e4
    refine ⟨h.h1, h.h2, h.lo, .inl rfl, fun _ hp => ?_, ?_⟩
    · simp only [decide_eq_false_iff_not] at hp
      show (s.l ++ b).length < H
      omega
    · show (s.l ++ b).length ≤ _
      rw [List.length_append]; omega
  · exact h
theorem SvOk.end_ {H L : Nat} {s : Sv} (h : SvOk H L s) : SvOk H L (endS s) := by
  unfold endS
  split
  · exact h
  · exact ⟨h.h1, h.h2, h.lo, .inr (.inl rfl), fun e => by simp at e, h.fits⟩
theorem SvOk.read {H L : Nat} {s : Sv} (h : SvOk H L s) (n : Int) : SvOk H L (readS L s n) := by
  have hd : (s.l.drop (upto n s.l)).length ≤ s.l.length := by rw [List.length_drop]; omega
  have hlo := h.lo
  refine ⟨h.h1, h.h2, h.lo, h.st, fun e hp => ?_, Nat.le_trans hd h.fits⟩
  show (s.l.drop (upto n s.l)).length < H
  simp only [readS] at hp e
  split at hp
  · omega
  · have := h.room e hp; omega
theorem SvOk.stop {H L : Nat} {s : Sv} (h : SvOk H L s) : SvOk H L (stopS s) := by
  unfold stopS
  split
  · exact h
  · exact ⟨h.h1, h.h2, h.lo, .inr (.inr rfl), fun e => by simp at e, by simp⟩
/-- what a free stream is put finds room -/
theorem roomed_free {H L : Nat} {s : Sv} (h : SvOk H L s) {b : List UInt8} (h0 : chunkC s b = 0) : roomed (H + 63) s.l b = b.length := by
  obtain ⟨e1, e2, e3, e4⟩ := chunk_free h0
  have := h.room e1 e4
  have := h.h1
  unfold roomed
  omega
end Go.Proofs.Ytaadffheadimpaa
