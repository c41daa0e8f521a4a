/-
  Contracts of the document's own answer of layer 1 over this seat's program. Conditions: those of each statement.
-/
import Derived.Test.YtoafncfknllghaaDoorLOct2
namespace Go.Proofs.YtoafncfknllghaaDoor
open Go.RowKit

theorem spB_yes {c : Int} (h : Lk.spB c = true) : (c == 9) = true ∨ ((c == 9) = false ∧ (c == 10) = true) ∨ ((c == 9) = false ∧ (c == 10) = false ∧ (c == 13) = true) ∨ ((c == 9) = false ∧ (c == 10) = false ∧ (c == 13) = false ∧ (c == 32) = true) := by
  unfold Lk.spB at h
  cases h1 : (c == 9) <;> cases h2 : (c == 10) <;> cases h3 : (c == 13) <;> cases h4 : (c == 32) <;> simp_all
theorem spB_no {c : Int} (h : Lk.spB c = false) : (c == 9) = false ∧ (c == 10) = false ∧ (c == 13) = false ∧ (c == 32) = false := by
  unfold Lk.spB at h
  cases h1 : (c == 9) <;> cases h2 : (c == 10) <;> cases h3 : (c == 13) <;> cases h4 : (c == 32) <;> simp_all

theorem tok_ref (c : UInt8) : Lk.tokB c.toNat = (Lk.plB c.toNat || (Lk.inL c.toNat [33, 35, 36, 37, 38, 39, 42, 43, 45, 46, 94, 95, 124, 126] || (c.toNat : Int) == 96)) := by
  have : ∀ n : Fin 256, Lk.tokB (UInt8.ofNat n.val).toNat = (Lk.plB (UInt8.ofNat n.val).toNat || (Lk.inL (UInt8.ofNat n.val).toNat [33, 35, 36, 37, 38, 39, 42, 43, 45, 46, 94, 95, 124, 126] || ((UInt8.ofNat n.val).toNat : Int) == 96)) := by decide +kernel
  have h := this ⟨c.toNat, c.toNat_lt⟩
  simpa using h

end Go.Proofs.YtoafncfknllghaaDoor

namespace Go.Proofs.YtoafncfknllghaaDoor
open Go.RowKit

set_option maxHeartbeats 1000000 in
theorem refLower_any (s : ByteArray) (w : World) (hs : s.size ≤ maxLen) :
    Calls Tryd.prog 39 #[.string s] w fun e w' => e = .returned (.string ⟨(Lk.lower s.data.toList).toArray⟩) ∧ Below w.heap.size w w' := by
  unfold maxLen at hs
  obtain ⟨cap, hconv⟩ := conv_to w s
  have HB := Lib.hid (BRow.of_string w s cap 5)
  go_enter Tryd.func39, Tryd.ntmps39
  go_wp2
  clear hconv
  go_loopw [4] (fun i wr => ∃ k : Nat, k ≤ s.size ∧ i = .int .i64 k ∧ BRow wr w.heap.size (Lk.turned (fun _ => Lk.lowU) s.data.toList k) ∧ Below w.heap.size w wr) (fun i _ => s.size - (intOf i).toNat)
  case atStart => exact ⟨0, Nat.zero_le _, rfl, by rw [Lk.turned_zero]; exact HB.out, ((Below.refl _ _).alloc (Nat.le_refl _) _).drew⟩
  case round =>
    obtain ⟨k, hk, rfl, hr, hb⟩ := hrel
    have HR := Lib.hid hr
    clear hr
    by_cases hlt : k < s.size
    · have hl : k < s.data.toList.length := by simpa using hlt
      have hl2 : k < (Lk.turned (fun _ => Lk.lowU) s.data.toList k).length := by rw [Lk.turned_len]; exact hl
      obtain ⟨hc, hf⟩ := HR.out k hl2
      have HT := Lib.hid (Lk.turned_at (fun _ => Lk.lowU) _ _ hl)
      rw [HT.out] at hc
      have hbd := Lk.byte_bd s.data.toList[k]
      have HN : Hid (BRow (wr.setCell ⟨w.heap.size, k, none⟩ (.int .u8 (Lk.lowI s.data.toList[k].toNat))) w.heap.size (Lk.turned (fun _ => Lk.lowU) s.data.toList (k + 1))) := by
        have := HR.out.set_ k (Lk.lowU s.data.toList[k]) hl2
        rw [Lk.turned_succ (fun _ => Lk.lowU) _ _ hl, Lk.lowU_toNat] at this
        exact this
      have HS : Hid (Lk.lowI s.data.toList[k].toNat = s.data.toList[k].toNat → BRow wr w.heap.size (Lk.turned (fun _ => Lk.lowU) s.data.toList (k + 1))) := by
        intro he
        have h1 : Lk.lowU s.data.toList[k] = s.data.toList[k] := Lk.u8_eq (by rw [Lk.lowU_toNat, he])
        have h2 : (Lk.turned (fun _ => Lk.lowU) s.data.toList k).set k (Lk.turned (fun _ => Lk.lowU) s.data.toList k)[k] = Lk.turned (fun _ => Lk.lowU) s.data.toList k := List.set_getElem_self _
        rw [← Lk.turned_succ (fun _ => Lk.lowU) _ _ hl, h1, ← HT.out, h2]
        exact HR.out
      clear HT
      generalize s.data.toList[k] = c at *
      clear hl hl2
      by_cases h65 : 65 ≤ (c.toNat : Int)
      · by_cases h90 : (c.toNat : Int) ≤ 90
        · rw [Lk.lowI_up h65 h90] at HN
          clear HS
          go_wp2
          go_roundw
          case rel => exact ⟨k + 1, by omega, by go_num, HN.out, below_set hb _⟩
          case measure => simp [intOf]; omega
        · have hs2 := HS.out (Lk.lowI_not (by omega))
          have HS2 := Lib.hid hs2
          clear hs2 HN HS
          go_wp2
          go_roundw
          case rel => exact ⟨k + 1, by omega, by go_num, HS2.out, hb⟩
          case measure => simp [intOf]; omega
      · have hs2 := HS.out (Lk.lowI_not (by omega))
        have HS2 := Lib.hid hs2
        clear hs2 HN HS
        go_wp2
        go_roundw
        case rel => exact ⟨k + 1, by omega, by go_num, HS2.out, hb⟩
        case measure => simp [intOf]; omega
    · have hcv := conv_back (cap := cap) HR.out (n := s.size) (by rw [Lk.turned_len]; simp)
      rw [Lk.turned_all _ _ _ (by simp; omega), Lk.mapIdx_const] at hcv
      go_wp2
      go_ret
      exact ⟨rfl, hb⟩

set_option maxHeartbeats 400000 in
theorem refFold_any (a b : ByteArray) (w : World) (ha : a.size ≤ maxLen) (hb : b.size ≤ maxLen) :
    Calls Tryd.prog 50 #[.string a, .string b] w fun e w' => e = .returned (.bool (Lk.foldL a.data.toList b.data.toList)) ∧ Below w.heap.size w w' := by
  obtain ⟨x, hx⟩ : ∃ x : ByteArray, x = ⟨(Lk.lower a.data.toList).toArray⟩ := ⟨_, rfl⟩
  obtain ⟨y, hy⟩ : ∃ y : ByteArray, y = ⟨(Lk.lower b.data.toList).toArray⟩ := ⟨_, rfl⟩
  have HE : Hid ((x.toList == y.toList) = Lk.foldL a.data.toList b.data.toList) := by
    show _ = _
    rw [ByteArray.toList_eq, ByteArray.toList_eq, hx, hy]; rfl
  go_enter Tryd.func50, Tryd.ntmps50
  go_wp2_with fail
  refine (refLower_any a _ ha).mono ?_
  rintro e w1 ⟨rfl, hb1⟩
  rw [← hx]
  clear hx
  go_wp2_with fail
  refine (refLower_any b _ hb).mono ?_
  rintro e w2 ⟨rfl, hb2⟩
  rw [← hy]
  clear hy
  go_wp2
  go_ret
  exact ⟨ret_bool HE.out, hb1.trans (hb2.mono hb1.size)⟩

theorem split_here {l : List UInt8} {f i : Nat} (hfi : f ≤ i) (hi : i < l.length) (hc : l[i] = 44) (hn : ∀ b ∈ (l.drop f).take (i - f), b ≠ 44) :
    Lk.splitL (l.drop f) = Lk.keep [(l.drop f).take (i - f)] ++ Lk.splitL (l.drop (i + 1)) := by
  have e : l.drop f = (l.drop f).take (i - f) ++ 44 :: l.drop (i + 1) := by
    have h1 : l.drop i = (l.drop f).drop (i - f) := by rw [List.drop_drop]; congr 1; omega
    have h2 : l.drop i = l[i] :: l.drop (i + 1) := List.drop_eq_getElem_cons hi
    rw [hc] at h2
    rw [← h2, h1, List.take_append_drop]
  exact (congrArg Lk.splitL e).trans (Lk.split_at hn)

end Go.Proofs.YtoafncfknllghaaDoor
