/-
  The contract of the statements' helper Flip, over this seat's program: it returns a text that is the same in small letters, and nothing that was there has turned. Conditions: the text's size is such as any text's; the bits fit uint64.
-/
import Derived.Test.YtfamllkmmiajoaaDoorOLower
namespace Go.Proofs.YtfamllkmmiajoaaDoor
open Go.RowKit

theorem xor32_all : ∀ n : Fin 256, (decide (65 ≤ n.val) && decide (n.val ≤ 90) || decide (97 ≤ n.val) && decide (n.val ≤ 122)) = true →
    (Go.bits BinOp.xor IntKind.u8 (n.val : Int) 32 == (((UInt8.ofNat n.val) ^^^ 32).toNat : Int) && (Lk.lowU ((UInt8.ofNat n.val) ^^^ 32) == Lk.lowU (UInt8.ofNat n.val))) = true := by decide +kernel
theorem xor32 (c : UInt8) (h : (65 ≤ (c.toNat : Int) ∧ (c.toNat : Int) ≤ 90) ∨ (97 ≤ (c.toNat : Int) ∧ (c.toNat : Int) ≤ 122)) :
    Go.bits BinOp.xor IntKind.u8 (c.toNat : Int) 32 = ((c ^^^ 32).toNat : Int) ∧ Lk.lowU (c ^^^ 32) = Lk.lowU c := by
  have := xor32_all ⟨c.toNat, c.toNat_lt⟩ (by simp; omega)
  simpa using this
theorem lower_set {l : List UInt8} {k : Nat} {c d : UInt8} (h : k < l.length) (hc : l[k] = c) (hd : Lk.lowU d = Lk.lowU c) : Lk.lower (l.set k d) = Lk.lower l := by
  unfold Lk.lower
  rw [List.map_set, hd, ← hc]
  apply List.ext_getElem
  · simp
  · intro i h1 h2
    by_cases e : k = i
    · subst e; simp
    · simp [e]

def FlipPost (s : List UInt8) (w : World) (e : Ending) (w' : World) : Prop :=
  ∃ l : List UInt8, e = .returned (.string ⟨l.toArray⟩) ∧ Lk.lower l = Lk.lower s ∧ Below w.heap.size w w'

set_option maxHeartbeats 2000000 in
theorem Flip_any (s : ByteArray) (bits : Int) (w : World) (hs : s.size ≤ maxLen) (_hb0 : 0 ≤ bits) (_hb1 : bits ≤ 18446744073709551615) :
    Calls Tryd.prog 22 #[.string s, .int .u64 bits] w (FlipPost s.data.toList w) := by
  unfold maxLen at hs
  obtain ⟨cap, hconv⟩ := conv_to w s
  have hb0 := BRow.of_string w s cap 5
  have HB := Lib.hid hb0
  clear hb0
  go_enter Tryd.func22, Tryd.ntmps22
  go_wp2
  clear hconv
  go_loopw [6, 7, 8] (fun i _ _ wr => ∃ (k : Nat) (l : List UInt8), k ≤ s.size ∧ i = .int .i64 k ∧ l.length = s.size ∧ BRow wr w.heap.size l ∧ Lk.lower l = Lk.lower s.data.toList ∧ Below w.heap.size w wr) (fun i _ _ _ => s.size - (intOf i).toNat)
  case atStart => exact ⟨0, s.data.toList, Nat.zero_le _, rfl, by simp, HB.out, rfl, ((Below.refl _ _).alloc (Nat.le_refl _) _).drew⟩
  case round =>
    obtain ⟨k, l, hk, rfl, hll, hr, hlo, hb⟩ := hrel
    have HR := Lib.hid hr
    have HO := Lib.hid hlo
    have HLL := Lib.hid hll
    have hll2 : s.size ≤ l.length := by omega
    clear hr hlo hll
    by_cases hlt : k < s.size
    · have hl : k < l.length := by omega
      obtain ⟨hc, hf⟩ := HR.out k hl
      have hbd := Lk.byte_bd l[k]
      generalize hcc : l[k] = c at *
      have HCC := Lib.hid hcc
      clear hcc
      have h32 : ((k : Int) < (s.size : Int)) := by omega
      have fin0 : ∀ nq : Nat, ∃ (k_1 : Nat) (l : List UInt8), k_1 ≤ s.size ∧ Value.int IntKind.i64 (↑k + 1) = Value.int IntKind.i64 ↑k_1 ∧ l.length = s.size ∧ BRow (wr.drewN nq) w.heap.size l ∧ Lk.lower l = Lk.lower s.data.toList ∧ Below w.heap.size w (wr.drewN nq) := fun nq =>
        ⟨k + 1, l, by omega, by go_num, HLL.out, HR.out, HO.out, below_drewN hb nq⟩
      have fin1 : ((65 ≤ (c.toNat : Int) ∧ (c.toNat : Int) ≤ 90) ∨ (97 ≤ (c.toNat : Int) ∧ (c.toNat : Int) ≤ 122)) → ∀ nq : Nat, ∃ (k_1 : Nat) (l : List UInt8), k_1 ≤ s.size ∧ Value.int IntKind.i64 (↑k + 1) = Value.int IntKind.i64 ↑k_1 ∧ l.length = s.size ∧ BRow ((wr.drewN nq).setCell ⟨w.heap.size, k, none⟩ (.int .u8 (Go.bits BinOp.xor IntKind.u8 (c.toNat : Int) 32))) w.heap.size l ∧ Lk.lower l = Lk.lower s.data.toList ∧ Below w.heap.size w ((wr.drewN nq).setCell ⟨w.heap.size, k, none⟩ (.int .u8 (Go.bits BinOp.xor IntKind.u8 (c.toNat : Int) 32))) := fun hh nq => by
        obtain ⟨x1, x2⟩ := xor32 c hh
        rw [x1]
        exact ⟨k + 1, l.set k (c ^^^ 32), by omega, by go_num, by simpa using HLL.out, BRow.set_ (w := wr.drewN nq) HR.out k _ hl, by rw [lower_set hl HCC.out x2]; exact HO.out, below_set (below_drewN hb nq) _⟩
      have F0 := Lib.hid fin0
      have F1 := Lib.hid fin1
      clear fin0 fin1
      rcases (show (c.toNat : Int) < 65 ∨ (65 ≤ (c.toNat : Int) ∧ (c.toNat : Int) ≤ 90) ∨ (90 < (c.toNat : Int) ∧ (c.toNat : Int) < 97) ∨ (97 ≤ (c.toNat : Int) ∧ (c.toNat : Int) ≤ 122) ∨ 122 < (c.toNat : Int) from by omega) with h1 | h1 | h1 | h1 | h1
      · have g1 : decide (65 ≤ (c.toNat : Int)) = false := by simp; omega
        have g2 : decide (97 ≤ (c.toNat : Int)) = false := by simp; omega
        go_wp2
        go_quiet (fail)
        go_wp2
        exact ⟨F0.out _, by simp [intOf]; omega⟩
      · have g1 : decide (65 ≤ (c.toNat : Int)) = true := by simp; omega
        have g2 : decide (97 ≤ (c.toNat : Int)) = false := by simp; omega
        have g3 : decide ((c.toNat : Int) ≤ 90) = true := by simp; omega
        go_wp2
        go_quiet (fail)
        go_wp2
        · exact ⟨F1.out (.inl h1) _, by simp [intOf]; omega⟩
        · exact ⟨F0.out _, by simp [intOf]; omega⟩
      · have g1 : decide (65 ≤ (c.toNat : Int)) = true := by simp; omega
        have g2 : decide (97 ≤ (c.toNat : Int)) = false := by simp; omega
        have g3 : decide ((c.toNat : Int) ≤ 90) = false := by simp; omega
        go_wp2
        go_quiet (fail)
        go_wp2
        exact ⟨F0.out _, by simp [intOf]; omega⟩
      · have g1 : decide (65 ≤ (c.toNat : Int)) = true := by simp; omega
        have g2 : decide (97 ≤ (c.toNat : Int)) = true := by simp; omega
        have g3 : decide ((c.toNat : Int) ≤ 90) = false := by simp; omega
        have g4 : decide ((c.toNat : Int) ≤ 122) = true := by simp; omega
        go_wp2
        go_quiet (fail)
        go_wp2
        · exact ⟨F1.out (.inr h1) _, by simp [intOf]; omega⟩
        · exact ⟨F0.out _, by simp [intOf]; omega⟩
      · have g1 : decide (65 ≤ (c.toNat : Int)) = true := by simp; omega
        have g2 : decide (97 ≤ (c.toNat : Int)) = true := by simp; omega
        have g3 : decide ((c.toNat : Int) ≤ 90) = false := by simp; omega
        have g4 : decide ((c.toNat : Int) ≤ 122) = false := by simp; omega
        go_wp2
        go_quiet (fail)
        go_wp2
        exact ⟨F0.out _, by simp [intOf]; omega⟩
    · have hcv := conv_back (cap := cap) HR.out (n := s.size) HLL.out.symm
      go_wp2
      go_ret
      exact ⟨l, rfl, HO.out, hb⟩
end Go.Proofs.YtfamllkmmiajoaaDoor
