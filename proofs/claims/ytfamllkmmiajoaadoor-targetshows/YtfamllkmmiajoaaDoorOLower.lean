/-
  The contract of octet's Lower, over this seat's program: it returns the text in small letters, and nothing that was there has turned. Conditions: the text's size is such as any text's.
-/
import Derived.Test.YtfamllkmmiajoaaDoorOBytes
namespace Go.Proofs.YtfamllkmmiajoaaDoor
open Go.RowKit

/-- '[]byte(s)' and back, in the walk's form -/
theorem conv_to (w : World) (s : ByteArray) : ∃ cap, (convert 9 59 (.string s)).run Tryd.prog w = .ok (.slice (some ⟨w.heap.size, 0, none⟩) s.size cap) (w.drew.alloc (.cells (bytesRow s cap) 5 ((bytesRow s cap).size, (bytesRow s cap).size + 1))) :=
  ⟨_, run_bytes_of_string w 9 59 5 s Tryd.underlying9 Tryd.underlying59 Tryd.underlying5⟩
theorem conv_back {w : World} {g n cap : Nat} {l : List UInt8} (h : BRow w g l) (hn : n = l.length) :
    (convert 59 9 (.slice (some ⟨g, 0, none⟩) n cap)).run Tryd.prog w = .ok (.string ⟨l.toArray⟩) w := by
  subst hn
  exact run_convert_bytes_back w 59 9 5 ⟨g, 0, none⟩ cap l Tryd.underlying59 Tryd.underlying5 Tryd.underlying9 (fun j hj => by
    have e : (⟨g, 0, none⟩ : Addr).add j = ⟨g, j, none⟩ := by unfold Addr.add; split <;> simp_all
    rw [e]; exact (h j hj).1)
/-- block 'g' alone may have turned since: what one store of a byte leaves -/
theorem below_set {w wr : World} {k : Nat} (h : Below w.heap.size w wr) (u : Value) : Below w.heap.size w (wr.setCell ⟨w.heap.size, k, none⟩ u) := h.setCell (Nat.le_refl _) u

set_option maxHeartbeats 1000000 in
theorem Lower_any (s : ByteArray) (w : World) (hs : s.size ≤ maxLen) :
    Calls Tryd.prog 46 #[.string s] w fun e w' => e = .returned (.string ⟨(Lk.lower s.data.toList).toArray⟩) ∧ Below w.heap.size w w' := by
  unfold maxLen at hs
  obtain ⟨cap, hconv⟩ := conv_to w s
  have hb0 := BRow.of_string w s cap 5
  have HB := Lib.hid hb0
  clear hb0
  go_enter Tryd.func46, Tryd.ntmps46
  go_wp2
  clear hconv
  go_loopw [4, 5, 10] (fun _ _ i wr => ∃ k : Nat, k ≤ s.size ∧ i = .int .i64 k ∧ BRow wr w.heap.size (Lk.turned (fun _ => Lk.lowU) s.data.toList k) ∧ Below w.heap.size w wr) (fun _ _ i _ => s.size - (intOf i).toNat)
  case atStart => exact ⟨0, Nat.zero_le _, rfl, by rw [Lk.turned_zero]; exact HB.out, ((Below.refl _ _).alloc (Nat.le_refl _) _).drew⟩
  case round =>
    obtain ⟨k, hk, rfl, hr, hb⟩ := hrel
    have HR := Lib.hid hr
    clear hr
    by_cases hlt : k < s.size
    · have hl : k < s.data.toList.length := by simpa using hlt
      have hl2 : k < (Lk.turned (fun _ => Lk.lowU) s.data.toList k).length := by rw [Lk.turned_len]; exact hl
      obtain ⟨hc, hf⟩ := HR.out k hl2
      rw [Lk.turned_at _ _ _ hl] at hc
      have hbd := Lk.byte_bd s.data.toList[k]
      have HN : Hid (BRow (wr.setCell ⟨w.heap.size, k, none⟩ (.int .u8 (Lk.lowI s.data.toList[k].toNat))) w.heap.size (Lk.turned (fun _ => Lk.lowU) s.data.toList (k + 1))) := by
        have := HR.out.set_ k (Lk.lowU s.data.toList[k]) hl2
        rw [Lk.turned_succ (fun _ => Lk.lowU) _ _ hl, Lk.lowU_toNat] at this
        exact this
      generalize s.data.toList[k] = c at *
      clear hl hl2
      go_wp2_with (go_at_call 63; refine (lowerByte_any _ _ hbd.1 hbd.2).mono ?_; rintro e w' ⟨rfl, rfl⟩)
      go_roundw
      case rel => exact ⟨k + 1, by omega, by go_num, HN.out, below_set hb _⟩
      case measure => simp [intOf]; omega
    · have hcv := conv_back (cap := cap) HR.out (n := s.size) (by rw [Lk.turned_len]; simp)
      rw [Lk.turned_all _ _ _ (by simp; omega), Lk.mapIdx_const] at hcv
      go_wp2
      go_ret
      exact ⟨rfl, hb⟩
end Go.Proofs.YtfamllkmmiajoaaDoor
