/-
  The contract of the statements' helper Flip as a function, over this seat's program: at the same text and the same bits it returns the same text. Conditions: the text's size is such as any text's; the bits fit uint64.
-/
import Derived.Test.YtfamllkmmiajoaaDoorOFlip
import Derived.Test.YtfamllkmmiajoaaDoorHMath3
import Derived.Test.YtfamllkmmiajoaaDoorOWords
namespace Go.Proofs.YtfamllkmmiajoaaDoor
open Go.RowKit

def flipB (bits : Int) (k : Nat) : Bool := Go.bits BinOp.and IntKind.u64 (bits / 2 ^ (k % 64)) 1 == 1
def letU (c : UInt8) : Bool := (decide (65 ≤ c.toNat) && decide (c.toNat ≤ 90)) || (decide (97 ≤ c.toNat) && decide (c.toNat ≤ 122))
def flipU (bits : Int) (k : Nat) (c : UInt8) : UInt8 := if letU c && flipB bits k then c ^^^ 32 else c
def flipL (bits : Int) (l : List UInt8) : List UInt8 := l.mapIdx (flipU bits)
theorem letU_yes {c : UInt8} (h : (65 ≤ (c.toNat : Int) ∧ (c.toNat : Int) ≤ 90) ∨ (97 ≤ (c.toNat : Int) ∧ (c.toNat : Int) ≤ 122)) : letU c = true := by
  unfold letU; simp; omega
theorem letU_no {c : UInt8} (h : ¬ ((65 ≤ (c.toNat : Int) ∧ (c.toNat : Int) ≤ 90) ∨ (97 ≤ (c.toNat : Int) ∧ (c.toNat : Int) ≤ 122))) : letU c = false := by
  cases hc : letU c
  · rfl
  · exfalso; apply h; unfold letU at hc; simp at hc; omega
theorem letU_of {c : UInt8} (h : letU c = true) : (65 ≤ (c.toNat : Int) ∧ (c.toNat : Int) ≤ 90) ∨ (97 ≤ (c.toNat : Int) ∧ (c.toNat : Int) ≤ 122) := by
  unfold letU at h; simp at h; omega
theorem flipU_low (bits : Int) (k : Nat) (c : UInt8) : Lk.lowU (flipU bits k c) = Lk.lowU c := by
  unfold flipU
  cases hc : letU c
  · rfl
  · cases flipB bits k
    · rfl
    · exact (xor32 c (letU_of hc)).2
theorem flip_low (bits : Int) (l : List UInt8) : Lk.lower (flipL bits l) = Lk.lower l := by
  unfold flipL Lk.lower
  apply List.ext_getElem
  · simp
  · intro i h1 h2
    simp [flipU_low]
theorem flip_dots (bits : Int) (l : List UInt8) : dotsL (flipL bits l) = dotsL l := by unfold dotsL; rw [flip_low]
theorem flip_len (bits : Int) (l : List UInt8) : (flipL bits l).length = l.length := by simp [flipL]
theorem flip_noSl (bits : Int) {l : List UInt8} (h : noSl l) : noSl (flipL bits l) := by
  intro b hb hx
  unfold flipL at hb
  obtain ⟨i, hi, e⟩ := List.mem_mapIdx.1 hb
  have h1 := flipU_low bits i l[i]
  rw [e, hx] at h1
  exact h l[i] (List.getElem_mem hi) ((low_low47 l[i]).1 h1.symm)
theorem turn_same {f : Nat → UInt8 → UInt8} {l : List UInt8} {k : Nat} (h : k < l.length) (e : f k l[k] = l[k]) : Lk.turned f l (k + 1) = Lk.turned f l k := by
  rw [← Lk.turned_succ f l k h, e]
  conv => lhs; rw [← Lk.turned_at f l k h]
  exact List.set_getElem_self _

set_option maxHeartbeats 2000000 in
theorem FlipF_any (s : ByteArray) (bits : Int) (w : World) (hs : s.size ≤ maxLen) (_hb0 : 0 ≤ bits) (_hb1 : bits ≤ 18446744073709551615) :
    Calls Tryd.prog 22 #[.string s, .int .u64 bits] w fun e w' => e = .returned (.string (mk (flipL bits s.data.toList))) ∧ Below w.heap.size w w' := by
  unfold maxLen at hs
  obtain ⟨cap, hconv⟩ := conv_to w s
  have hb0 := BRow.of_string w s cap 5
  have HB := Lib.hid hb0
  clear hb0
  go_enter Tryd.func22, Tryd.ntmps22
  go_wp2
  clear hconv
  go_loopw [6, 7, 8] (fun i _ _ wr => ∃ (k : Nat), k ≤ s.size ∧ i = .int .i64 k ∧ BRow wr w.heap.size (Lk.turned (flipU bits) s.data.toList k) ∧ Below w.heap.size w wr) (fun i _ _ _ => s.size - (intOf i).toNat)
  case atStart => exact ⟨0, Nat.zero_le _, rfl, by rw [Lk.turned_zero]; exact HB.out, ((Below.refl _ _).alloc (Nat.le_refl _) _).drew⟩
  case round =>
    obtain ⟨k, hk, rfl, hr, hb⟩ := hrel
    have HR := Lib.hid hr
    clear hr
    by_cases hlt : k < s.size
    · have hl0 : k < s.data.toList.length := by simpa using hlt
      have hl : k < (Lk.turned (flipU bits) s.data.toList k).length := by rw [Lk.turned_len]; exact hl0
      obtain ⟨hc, hf⟩ := HR.out k hl
      rw [Lk.turned_at _ _ _ hl0] at hc
      have hbd := Lk.byte_bd s.data.toList[k]
      have h32 : ((k : Int) < (s.size : Int)) := by omega
      have fin0 : flipU bits k s.data.toList[k] = s.data.toList[k] → ∀ nq : Nat, ∃ (k_1 : Nat), k_1 ≤ s.size ∧ Value.int IntKind.i64 (↑k + 1) = Value.int IntKind.i64 ↑k_1 ∧ BRow (wr.drewN nq) w.heap.size (Lk.turned (flipU bits) s.data.toList k_1) ∧ Below w.heap.size w (wr.drewN nq) := fun hh nq =>
        ⟨k + 1, by omega, by go_num, by rw [turn_same hl0 hh]; exact HR.out, below_drewN hb nq⟩
      have fin1 : ((65 ≤ (s.data.toList[k].toNat : Int) ∧ (s.data.toList[k].toNat : Int) ≤ 90) ∨ (97 ≤ (s.data.toList[k].toNat : Int) ∧ (s.data.toList[k].toNat : Int) ≤ 122)) → flipB bits k = true → ∀ nq : Nat, ∃ (k_1 : Nat), k_1 ≤ s.size ∧ Value.int IntKind.i64 (↑k + 1) = Value.int IntKind.i64 ↑k_1 ∧ BRow ((wr.drewN nq).setCell ⟨w.heap.size, k, none⟩ (.int .u8 (Go.bits BinOp.xor IntKind.u8 (s.data.toList[k].toNat : Int) 32))) w.heap.size (Lk.turned (flipU bits) s.data.toList k_1) ∧ Below w.heap.size w ((wr.drewN nq).setCell ⟨w.heap.size, k, none⟩ (.int .u8 (Go.bits BinOp.xor IntKind.u8 (s.data.toList[k].toNat : Int) 32))) := fun hh hq nq => by
        obtain ⟨x1, _⟩ := xor32 s.data.toList[k] hh
        rw [x1]
        have ef : flipU bits k s.data.toList[k] = s.data.toList[k] ^^^ 32 := by unfold flipU; rw [letU_yes hh, hq]; rfl
        refine ⟨k + 1, by omega, by go_num, ?_, below_set (below_drewN hb nq) _⟩
        have := BRow.set_ (w := wr.drewN nq) HR.out k (s.data.toList[k] ^^^ 32) hl
        rw [← ef, Lk.turned_succ _ _ _ hl0] at this
        rw [← ef]
        exact this
      have fin2 : letU s.data.toList[k] = false → flipU bits k s.data.toList[k] = s.data.toList[k] := fun hh => by unfold flipU; rw [hh]; rfl
      have fin3 : flipB bits k = false → flipU bits k s.data.toList[k] = s.data.toList[k] := fun hh => by unfold flipU; rw [hh]; simp
      generalize s.data.toList[k] = c at *
      have F0 := Lib.hid fin0
      have F1 := Lib.hid fin1
      have F2 := Lib.hid fin2
      have F3 := Lib.hid fin3
      clear fin0 fin1 fin2 fin3 hl hl0
      rcases (show (c.toNat : Int) < 65 ∨ (65 ≤ (c.toNat : Int) ∧ (c.toNat : Int) ≤ 90) ∨ (90 < (c.toNat : Int) ∧ (c.toNat : Int) < 97) ∨ (97 ≤ (c.toNat : Int) ∧ (c.toNat : Int) ≤ 122) ∨ 122 < (c.toNat : Int) from by omega) with h1 | h1 | h1 | h1 | h1
      · have g1 : decide (65 ≤ (c.toNat : Int)) = false := by simp; omega
        have g2 : decide (97 ≤ (c.toNat : Int)) = false := by simp; omega
        go_wp2
        go_quiet (fail)
        go_wp2
        exact ⟨F0.out (F2.out (letU_no (by omega))) _, by simp [intOf]; omega⟩
      · have g1 : decide (65 ≤ (c.toNat : Int)) = true := by simp; omega
        have g2 : decide (97 ≤ (c.toNat : Int)) = false := by simp; omega
        have g3 : decide ((c.toNat : Int) ≤ 90) = true := by simp; omega
        go_wp2
        go_quiet (fail)
        go_wp2
        · rename_i hq; exact ⟨F1.out (.inl h1) hq _, by simp [intOf]; omega⟩
        · rename_i hq; exact ⟨F0.out (F3.out hq) _, by simp [intOf]; omega⟩
      · have g1 : decide (65 ≤ (c.toNat : Int)) = true := by simp; omega
        have g2 : decide (97 ≤ (c.toNat : Int)) = false := by simp; omega
        have g3 : decide ((c.toNat : Int) ≤ 90) = false := by simp; omega
        go_wp2
        go_quiet (fail)
        go_wp2
        exact ⟨F0.out (F2.out (letU_no (by omega))) _, by simp [intOf]; omega⟩
      · have g1 : decide (65 ≤ (c.toNat : Int)) = true := by simp; omega
        have g2 : decide (97 ≤ (c.toNat : Int)) = true := by simp; omega
        have g3 : decide ((c.toNat : Int) ≤ 90) = false := by simp; omega
        have g4 : decide ((c.toNat : Int) ≤ 122) = true := by simp; omega
        go_wp2
        go_quiet (fail)
        go_wp2
        · rename_i hq; exact ⟨F1.out (.inr h1) hq _, by simp [intOf]; omega⟩
        · rename_i hq; exact ⟨F0.out (F3.out hq) _, by simp [intOf]; omega⟩
      · have g1 : decide (65 ≤ (c.toNat : Int)) = true := by simp; omega
        have g2 : decide (97 ≤ (c.toNat : Int)) = true := by simp; omega
        have g3 : decide ((c.toNat : Int) ≤ 90) = false := by simp; omega
        have g4 : decide ((c.toNat : Int) ≤ 122) = false := by simp; omega
        go_wp2
        go_quiet (fail)
        go_wp2
        exact ⟨F0.out (F2.out (letU_no (by omega))) _, by simp [intOf]; omega⟩
    · have hcv := conv_back (cap := cap) HR.out (n := s.size) (by rw [Lk.turned_len]; simp)
      rw [Lk.turned_all _ _ _ (by simp; omega)] at hcv
      go_wp2
      go_ret
      exact ⟨rfl, hb⟩
end Go.Proofs.YtfamllkmmiajoaaDoor
