/-
  Contracts of the document's own answer of layer 4: bytes of paths and of queries, the first place of some bytes, over this seat's program, by the same plain mathematics as target's. Conditions: the texts' sizes are such as any text's.
-/
import Derived.Test.YtfamllkmmiajoaaDoorHSmall
import Derived.Test.YtfamllkmmiajoaaDoorOJoin
namespace Go.Proofs.YtfamllkmmiajoaaDoor
open Go.RowKit

theorem inL_contains (c : UInt8) (l : List UInt8) : Lk.inL (c.toNat : Int) l = l.contains c := by
  unfold Lk.inL
  induction l with
  | nil => rfl
  | cons x r ih =>
    rw [List.any_cons, List.contains_cons, ih]
    congr 1
    rw [Bool.eq_iff_iff, beq_iff_eq, beq_iff_eq]
    constructor
    · intro h; exact (UInt8.toNat_inj.1 (by omega)).symm
    · rintro rfl; rfl
theorem In_as (c : UInt8) (s : ByteArray) (b : Bool) (w : World) (hs : s.size ≤ maxLen) (hb : b = s.data.toList.contains c) :
    Calls Tryd.prog 24 #[.int .u8 (c.toNat : Int), .string s] w fun e w' => e = .returned (.bool b) ∧ w = w' := by
  rw [hb, ← inL_contains]; exact In_any _ s w hs

set_option maxHeartbeats 1000000 in
theorem byteOf_any (c : UInt8) (s : ByteArray) (w : World) (hs : s.size ≤ maxLen) :
    Calls Tryd.prog 56 #[.int .u8 (c.toNat : Int), .string s] w fun e w' => e = .returned (.bool (freeB s.data.toList c)) ∧ w = w' := by
  have hb := Lk.byte_bd c
  by_cases h1 : c.toNat < 33
  · have HN := Lib.hid (freeB_lo (bar := s.data.toList) h1)
    go_enter Tryd.func56, Tryd.ntmps56
    go_wp2
    go_ret
    exact ⟨ret_bool HN.out.symm, rfl⟩
  by_cases h2 : 126 < c.toNat
  · have HN := Lib.hid (freeB_hi (bar := s.data.toList) h2)
    go_enter Tryd.func56, Tryd.ntmps56
    go_wp2
    go_ret
    exact ⟨ret_bool HN.out.symm, rfl⟩
  obtain ⟨b, hbb⟩ : ∃ b, b = s.data.toList.contains c := ⟨_, rfl⟩
  have HG : Hid (freeB s.data.toList c = !b) := by show _ = _; rw [hbb]; exact freeB_mid (bar := s.data.toList) h1 h2
  have HI := Lib.hid (In_as c s b w hs hbb)
  clear hbb
  go_enter Tryd.func56, Tryd.ntmps56
  go_wp2_with fail
  refine HI.out.mono ?_
  rintro e w' ⟨rfl, rfl⟩
  go_wp2
  go_ret
  exact ⟨ret_bool HG.out.symm, rfl⟩
theorem path96 (c : UInt8) : freeB noPathL c = (freeB [34, 35, 60, 62, 63, 92, 94, 123, 124, 125] c && ((c.toNat : Int) != 96)) := by
  have : ∀ n : Fin 256, freeB noPathL (UInt8.ofNat n.val) = (freeB [34, 35, 60, 62, 63, 92, 94, 123, 124, 125] (UInt8.ofNat n.val) && (((UInt8.ofNat n.val).toNat : Int) != 96)) := by decide +kernel
  have h := this ⟨c.toNat, c.toNat_lt⟩
  simpa using h

set_option maxHeartbeats 1000000 in
theorem pathByte_any (c : UInt8) (w : World) :
    Calls Tryd.prog 33 #[.int .u8 (c.toNat : Int)] w fun e w' => e = .returned (.bool (freeB noPathL c)) ∧ w = w' := by
  have HP := Lib.hid (path96 c)
  cases hf : freeB [34, 35, 60, 62, 63, 92, 94, 123, 124, 125] c
  · have HF : Hid (freeB (ByteArray.mk #[34, 35, 60, 62, 63, 92, 94, 123, 124, 125]).data.toList c = false) := hf
    go_enter Tryd.func33, Tryd.ntmps33
    go_wp2_with fail
    refine (byteOf_any c _ _ (by decide)).mono ?_
    rintro e w' ⟨rfl, rfl⟩
    rw [HF.out]
    go_wp2
    go_ret
    exact ⟨ret_bool (by rw [HP.out, hf]; rfl), rfl⟩
  · have HF : Hid (freeB (ByteArray.mk #[34, 35, 60, 62, 63, 92, 94, 123, 124, 125]).data.toList c = true) := hf
    go_enter Tryd.func33, Tryd.ntmps33
    go_wp2_with fail
    refine (byteOf_any c _ _ (by decide)).mono ?_
    rintro e w' ⟨rfl, rfl⟩
    rw [HF.out]
    go_wp2
    go_ret
    exact ⟨ret_bool (by rw [HP.out, hf]; rfl), rfl⟩
set_option maxHeartbeats 1000000 in
theorem queryByte_any (c : UInt8) (w : World) :
    Calls Tryd.prog 34 #[.int .u8 (c.toNat : Int)] w fun e w' => e = .returned (.bool (freeB noQueryL c)) ∧ w = w' := by
  go_enter Tryd.func34, Tryd.ntmps34
  go_wp2_with fail
  refine (byteOf_any c _ _ (by decide)).mono ?_
  rintro e w' ⟨rfl, rfl⟩
  go_wp2
  go_ret
  exact ⟨rfl, rfl⟩

/-- the first place from f on of which P does not hold -/
def firstN (P : UInt8 → Bool) (l : List UInt8) (f : Nat) : Nat := f + ((l.drop f).takeWhile P).length
theorem firstN_step {P : UInt8 → Bool} {l : List UInt8} {k : Nat} (hk : k < l.length) (hp : P l[k] = true) : firstN P l (k + 1) = firstN P l k := by
  unfold firstN
  rw [List.drop_eq_getElem_cons hk, List.takeWhile_cons, if_pos hp]; simp; omega
theorem firstN_stop {P : UInt8 → Bool} {l : List UInt8} {k : Nat} (hk : k < l.length) (hp : P l[k] = false) : firstN P l k = k := by
  unfold firstN
  rw [List.drop_eq_getElem_cons hk, List.takeWhile_cons, hp]; simp
theorem firstN_end {P : UInt8 → Bool} {l : List UInt8} {k : Nat} (hk : l.length ≤ k) : firstN P l k = k := by
  unfold firstN
  rw [List.drop_of_length_le hk]; simp
theorem firstN_le {P : UInt8 → Bool} {l : List UInt8} {f : Nat} (hf : f ≤ l.length) : firstN P l f ≤ l.length ∧ f ≤ firstN P l f := by
  unfold firstN
  have h := (List.takeWhile_sublist P (l := l.drop f)).length_le
  rw [List.length_drop] at h
  omega
def notIn (bar : List UInt8) (b : UInt8) : Bool := !bar.contains b

set_option maxHeartbeats 1000000 in
theorem first_any (s bar : ByteArray) (f : Nat) (w : World) (hs : s.size ≤ 140737488355328) (hb : bar.size ≤ maxLen) (hf : f ≤ s.size) :
    Calls Tryd.prog 31 #[.string s, .int .i64 (f : Int), .string bar] w fun e w' => e = .returned (.int .i64 (firstN (notIn bar.data.toList) s.data.toList f)) ∧ w = w' := by
  have hl : s.data.toList.length = s.size := by simp
  have HL := Lib.hid hl
  clear hl
  go_enter Tryd.func31, Tryd.ntmps31
  go_wp2
  go_loop [7] (fun i => ∃ k : Nat, k ≤ s.size ∧ i = .int .i64 k ∧ firstN (notIn bar.data.toList) s.data.toList f = firstN (notIn bar.data.toList) s.data.toList k) (fun i => s.size - (intOf i).toNat)
  case atStart => exact ⟨f, hf, rfl, rfl⟩
  case round =>
    obtain ⟨k, hk, rfl, he⟩ := hrel
    have HE := Lib.hid he
    clear he
    by_cases hlt : k < s.size
    · have hll : k < s.data.toList.length := by rw [HL.out]; exact hlt
      have eg : s.data.toList[k] = s[k] := rfl
      obtain ⟨b, hbb⟩ : ∃ b, b = bar.data.toList.contains s[k] := ⟨_, rfl⟩
      have HI := Lib.hid (In_as s[k] bar b w hb hbb)
      cases b
      · have HN : Hid (firstN (notIn bar.data.toList) s.data.toList f = firstN (notIn bar.data.toList) s.data.toList (k + 1)) := by
          show _ = _; rw [HE.out, firstN_step hll (by rw [eg, notIn, ← hbb]; rfl)]
        clear hbb eg
        go_wp2_with (go_at_call 24; refine HI.out.mono ?_; rintro e w' ⟨rfl, rfl⟩)
        go_round
        case rel => exact ⟨k + 1, by omega, by go_num, HN.out⟩
        case measure => simp [intOf]; omega
      · have HN : Hid (firstN (notIn bar.data.toList) s.data.toList f = k) := by
          show _ = _; rw [HE.out, firstN_stop hll (by rw [eg, notIn, ← hbb]; rfl)]
        clear hbb eg
        go_wp2_with (go_at_call 24; refine HI.out.mono ?_; rintro e w' ⟨rfl, rfl⟩)
        go_ret
        exact ⟨ret_int (by rw [HN.out]), rfl⟩
    · go_wp2
      go_ret
      exact ⟨ret_int (by rw [HE.out, firstN_end (by rw [HL.out]; omega)]), rfl⟩
end Go.Proofs.YtfamllkmmiajoaaDoor
