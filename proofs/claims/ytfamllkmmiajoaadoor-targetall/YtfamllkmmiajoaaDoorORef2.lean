/-
  Contracts of the document's own answer of layer 1, the rest: Lower, Fold, Split, Join. Conditions: the texts' sizes are such as any text's; what is split has at most 2^40 bytes; what is joined too.
-/
import Derived.Test.YtfamllkmmiajoaaDoorORef
import Derived.Test.YtfamllkmmiajoaaDoorOLower
namespace Go.Proofs.YtfamllkmmiajoaaDoor
open Go.RowKit

set_option maxHeartbeats 1000000 in
theorem refLower_any (s : ByteArray) (w : World) (hs : s.size ≤ maxLen) :
    Calls Tryd.prog 53 #[.string s] w fun e w' => e = .returned (.string ⟨(Lk.lower s.data.toList).toArray⟩) ∧ Below w.heap.size w w' := by
  unfold maxLen at hs
  obtain ⟨cap, hconv⟩ := conv_to w s
  have HB := Lib.hid (BRow.of_string w s cap 5)
  go_enter Tryd.func53, Tryd.ntmps53
  go_wp2
  clear hconv
  go_loopw [4] (fun i wr => ∃ k : Nat, k ≤ s.size ∧ i = .int .i64 k ∧ BRow wr w.heap.size (Lk.turned (fun _ => Lk.lowU) s.data.toList k) ∧ Below w.heap.size w wr) (fun i _ => s.size - (intOf i).toNat)
  case atStart => exact ⟨0, Nat.zero_le _, rfl, by rw [Lk.turned_zero]; exact HB.out, ((Below.refl _ _).alloc (Nat.le_refl _) _).drew⟩
  case round =>
    obtain ⟨k, hk, rfl, hr, hb⟩ := hrel
    have HR := Lib.hid hr
    clear hr
    by_cases hlt : k < s.size
    · have hl : k < s.data.toList.length := by simpa using hlt
      have hl2 : k < (Lk.turned (fun _ => Lk.lowU) s.data.toList k).length := by rw [Lk.turned_len]; exact hl
      obtain ⟨hc, hf⟩ := HR.out k hl2
      have HT := Lib.hid (Lk.turned_at (fun _ => Lk.lowU) _ _ hl)
      rw [HT.out] at hc
      have hbd := Lk.byte_bd s.data.toList[k]
      have HN : Hid (BRow (wr.setCell ⟨w.heap.size, k, none⟩ (.int .u8 (Lk.lowI s.data.toList[k].toNat))) w.heap.size (Lk.turned (fun _ => Lk.lowU) s.data.toList (k + 1))) := by
        have := HR.out.set_ k (Lk.lowU s.data.toList[k]) hl2
        rw [Lk.turned_succ (fun _ => Lk.lowU) _ _ hl, Lk.lowU_toNat] at this
        exact this
      have HS : Hid (Lk.lowI s.data.toList[k].toNat = s.data.toList[k].toNat → BRow wr w.heap.size (Lk.turned (fun _ => Lk.lowU) s.data.toList (k + 1))) := by
        intro he
        have h1 : Lk.lowU s.data.toList[k] = s.data.toList[k] := Lk.u8_eq (by rw [Lk.lowU_toNat, he])
        have h2 : (Lk.turned (fun _ => Lk.lowU) s.data.toList k).set k (Lk.turned (fun _ => Lk.lowU) s.data.toList k)[k] = Lk.turned (fun _ => Lk.lowU) s.data.toList k := List.set_getElem_self _
        rw [← Lk.turned_succ (fun _ => Lk.lowU) _ _ hl, h1, ← HT.out, h2]
        exact HR.out
      clear HT
      generalize s.data.toList[k] = c at *
      clear hl hl2
      by_cases h65 : 65 ≤ (c.toNat : Int)
      · by_cases h90 : (c.toNat : Int) ≤ 90
        · rw [Lk.lowI_up h65 h90] at HN
          clear HS
          go_wp2
          go_roundw
          case rel => exact ⟨k + 1, by omega, by go_num, HN.out, below_set hb _⟩
          case measure => simp [intOf]; omega
        · have hs2 := HS.out (Lk.lowI_not (by omega))
          have HS2 := Lib.hid hs2
          clear hs2 HN HS
          go_wp2
          go_roundw
          case rel => exact ⟨k + 1, by omega, by go_num, HS2.out, hb⟩
          case measure => simp [intOf]; omega
      · have hs2 := HS.out (Lk.lowI_not (by omega))
        have HS2 := Lib.hid hs2
        clear hs2 HN HS
        go_wp2
        go_roundw
        case rel => exact ⟨k + 1, by omega, by go_num, HS2.out, hb⟩
        case measure => simp [intOf]; omega
    · have hcv := conv_back (cap := cap) HR.out (n := s.size) (by rw [Lk.turned_len]; simp)
      rw [Lk.turned_all _ _ _ (by simp; omega), Lk.mapIdx_const] at hcv
      go_wp2
      go_ret
      exact ⟨rfl, hb⟩

theorem split_here {l : List UInt8} {f i : Nat} (hfi : f ≤ i) (hi : i < l.length) (hc : l[i] = 44) (hn : ∀ b ∈ (l.drop f).take (i - f), b ≠ 44) :
    Lk.splitL (l.drop f) = Lk.keep [(l.drop f).take (i - f)] ++ Lk.splitL (l.drop (i + 1)) := by
  have e : l.drop f = (l.drop f).take (i - f) ++ 44 :: l.drop (i + 1) := by
    have h1 : l.drop i = (l.drop f).drop (i - f) := by rw [List.drop_drop]; congr 1; omega
    have h2 : l.drop i = l[i] :: l.drop (i + 1) := List.drop_eq_getElem_cons hi
    rw [hc] at h2
    rw [← h2, h1, List.take_append_drop]
  exact (congrArg Lk.splitL e).trans (Lk.split_at hn)

end Go.Proofs.YtfamllkmmiajoaaDoor
