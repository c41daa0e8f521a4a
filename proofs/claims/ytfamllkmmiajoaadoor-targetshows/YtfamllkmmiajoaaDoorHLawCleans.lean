/-
  The walk of the law TargetCleans: whatever the path, it returns true, and nothing that was there has turned. Conditions: the argument is such as any that comes in; the library's variables are as they are laid.
-/
import Derived.Test.YtfamllkmmiajoaaDoorHWords
namespace Go.Proofs.YtfamllkmmiajoaaDoor
open Go.RowKit

/-- a segment that is none of the dots is told unlike each of these -/
theorem dots_not {l : List UInt8} (h : dotsL l = 0) : (l == [46]) = false ∧ (l == [46, 46]) = false ∧ (l == [37, 50, 101]) = false ∧ (l == [37, 50, 69, 37, 50, 101]) = false ∧ (l == [46, 37, 50, 69]) = false := by
  refine ⟨?_, ?_, ?_, ?_, ?_⟩ <;> (rw [beq_eq_false_iff_ne]; rintro rfl; revert h; decide)
theorem ext_list (s : ByteArray) (f k : Nat) : (s.extract f k).toList = (s.data.toList.drop f).take (k - f) := by
  rw [ByteArray.toList_eq, Lib.extract_eq]
/-- at a slash, at the end: one more segment -/
theorem seg_slash {l : List UInt8} {f k : Nat} (hf : f ≤ k) (hk : k < l.length) (h47 : l[k] = 47) (hn : ∀ b ∈ (l.drop f).take (k - f), b ≠ 47) : parts 47 (l.drop f) = (l.drop f).take (k - f) :: parts 47 (l.drop (k + 1)) := by
  have e : l.drop f = (l.drop f).take (k - f) ++ 47 :: l.drop (k + 1) := by
    conv => lhs; rw [← List.take_append_drop (k - f) (l.drop f)]
    rw [List.drop_drop, show f + (k - f) = k by omega, List.drop_eq_getElem_cons hk, h47]
  conv => lhs; rw [e]
  exact parts_at 47 _ _ hn
theorem seg_end {l : List UInt8} {f k : Nat} (hk : k = l.length) (hn : ∀ b ∈ (l.drop f).take (k - f), b ≠ 47) : parts 47 (l.drop f) = [(l.drop f).take (k - f)] := by
  have e : (l.drop f).take (k - f) = l.drop f := List.take_of_length_le (by simp; omega)
  rw [e] at hn ⊢
  exact parts_none 47 _ hn
theorem take_more {l : List UInt8} {f k : Nat} (hf : f ≤ k) (hk : k < l.length) (h47 : l[k] ≠ 47) (hn : ∀ b ∈ (l.drop f).take (k - f), b ≠ 47) : ∀ b ∈ (l.drop f).take (k + 1 - f), b ≠ 47 := by
  have hlt : k - f < (l.drop f).length := by simp; omega
  have e : (l.drop f).take (k + 1 - f) = (l.drop f).take (k - f) ++ [l[k]] := by
    rw [show k + 1 - f = (k - f) + 1 by omega, List.take_succ_eq_append_getElem hlt]
    congr 2
    simp [show f + (k - f) = k by omega]
  rw [e]
  intro b hb
  rcases List.mem_append.1 hb with hb | hb
  · exact hn b hb
  · simp at hb; subst hb; exact h47

/-- what holds at the head of a round -/
structure SegAt (l : List UInt8) (f k : Nat) : Prop where
  fk : f ≤ k
  kl : k ≤ l.length + 1
  dots : ∀ t ∈ parts 47 (l.drop f), dotsL t = 0
  nos : ∀ b ∈ (l.drop f).take (k - f), b ≠ 47
theorem SegAt.start {l : List UInt8} {ss : List (List UInt8)} (e : l = joinS ss) (h0 : ss ≠ []) (h1 : ∀ t ∈ ss, noSl t) (h2 : ∀ t ∈ ss, dotsL t = 0) : SegAt l 1 1 := by
  refine ⟨Nat.le_refl _, by omega, ?_, by simp⟩
  have hp := parts_strip_join h0 h1
  rw [← e] at hp
  have hh : l.drop 1 = stripS l := by
    rw [e]
    cases ss with
    | nil => exact absurd rfl h0
    | cons s r => rw [strip_join]; rfl
  rw [hh, hp]
  exact h2
theorem clean_view (p : ByteArray) : ∃ c : ByteArray, c = mk (cleanL p.data.toList) ∧ 1 ≤ c.size ∧ c.size ≤ p.size + 1 ∧ c.data.toList.head? = some 47 ∧ mk (cleanL c.data.toList) = c ∧ SegAt c.data.toList 1 1 := by
  refine ⟨_, rfl, ?_, ?_, ?_, ?_, ?_⟩
  · rw [mk_size]
    have := clean_head p.data.toList
    cases h : cleanL p.data.toList with
    | nil => rw [h] at this; cases this
    | cons _ _ => simp
  · rw [mk_size]; have := clean_len p.data.toList; rw [show p.data.toList.length = p.size by simp] at this; exact this
  · rw [mk_data]; exact clean_head _
  · rw [mk_data, clean_clean]
  · rw [mk_data]
    obtain ⟨ss, e, h0, h1, h2⟩ := clean_segs p.data.toList
    exact SegAt.start e h0 h1 h2
theorem head_at {c : ByteArray} (h0 : 0 < c.size) (h : c.data.toList.head? = some 47) : ((c[0].toNat : Int) != 47) = false := by
  have e0 : c.data.toList.head? = some c[0] := by
    rw [List.head?_eq_getElem?, List.getElem?_eq_getElem (by simpa using h0)]; rfl
  rw [e0] at h
  injection h with h
  rw [h]; rfl
theorem byte47 (c : UInt8) : ((c.toNat : Int) != 47) = decide (c ≠ 47) := by
  rw [Bool.eq_iff_iff, bne_iff_ne, decide_eq_true_eq]
  constructor
  · rintro h rfl; exact h rfl
  · intro h e; exact h (UInt8.toNat_inj.1 (by simpa using (by omega : c.toNat = 47)))

set_option maxHeartbeats 4000000 in
theorem walk_TargetCleans (p : ByteArray) (w : World) (hp : p.size ≤ maxLen) (he : Env w) :
    Calls Tryd.prog 6 #[.string p] w fun e w' => e = .returned (.bool true) ∧ Below w.heap.size w w' := by
  have HE := Lib.hid he
  clear he
  cases hl : Lk.longL 700 [p.size]
  rotate_left
  · have HL : Hid (Lk.longL (700 : Int).toNat ([p].map ByteArray.size) = true) := hl
    clear hl
    go_enter Tryd.func6, Tryd.ntmps6
    go_wp2_with fail
    refine (Long_any _ _ _ _ [p] _ _ (by decide) (by decide) rfl (SRow.one_at _ _ _ _ rfl) (by simp [maxLen]) (by simpa using hp)).mono ?_
    rintro e w1 ⟨rfl, hw⟩
    rw [HL.out]
    have HB1 : Hid (Below w.heap.size w w1) := by rw [← hw]; exact (Below.refl _ _).alloc (Nat.le_refl _) _
    clear hw
    go_wp2_with fail
    refine (awake_from HE.out HB1.out).mono ?_
    rintro e w2 ⟨rfl, hb⟩
    go_wp2
    go_ret
    exact ⟨rfl, hb⟩
  have hsum := Lk.long_no _ _ hl
  simp at hsum
  have HL : Hid (Lk.longL (700 : Int).toNat ([p].map ByteArray.size) = false) := hl
  clear hl
  obtain ⟨c, ec, hc1, hc2, hhd, hcc, hst⟩ := clean_view p
  have HC := Lib.hid ec
  have HCC := Lib.hid hcc
  have HST := Lib.hid hst
  have h0 : 0 < c.size := by omega
  have hh0 := head_at h0 hhd
  clear ec hcc hst hhd
  have hself : (c.toList != c.toList) = false := by simp
  have hw1 : IntKind.i64.wrap ((p.size : Int) + 1) = (p.size : Int) + 1 := IntWalk.i64_in _ (by omega)
  go_enter Tryd.func6, Tryd.ntmps6
  go_wp2_with fail
  refine (Long_any _ _ _ _ [p] _ _ (by decide) (by decide) rfl (SRow.one_at _ _ _ _ rfl) (by simp [maxLen]) (by simpa using hp)).mono ?_
  rintro e w1 ⟨rfl, hw⟩
  rw [HL.out]
  have HB1 : Hid (Below w.heap.size w w1) := by rw [← hw]; exact (Below.refl _ _).alloc (Nat.le_refl _) _
  clear hw
  go_wp2_with fail
  refine (Clean_as p c _ (by omega) HC.out).mono ?_
  rintro e w2 ⟨rfl, hb2⟩
  have HB2 : Hid (Below w.heap.size w w2) := HB1.out.trans (hb2.mono HB1.out.size)
  clear hb2
  go_wp2_with fail
  refine (Clean_as c c _ (by omega) HCC.out.symm).mono ?_
  rintro e w3 ⟨rfl, hb3⟩
  have HB3 : Hid (Below w.heap.size w w3) := HB2.out.trans (hb3.mono HB2.out.size)
  clear hb3
  go_wp2
  clear hself hh0 hw1
  have hcl : c.data.toList.length = c.size := by simp
  have HCL := Lib.hid hcl
  clear hcl
  go_loopw [4, 5, 6] (fun fr i _ wr => ∃ f k : Nat, fr = .int .i64 f ∧ i = .int .i64 k ∧ SegAt c.data.toList f k ∧ wr = w3) (fun _ i _ _ => c.size + 1 - (intOf i).toNat)
  case atStart => exact ⟨1, 1, rfl, rfl, HST.out, rfl⟩
  case round =>
    obtain ⟨f, k, rfl, rfl, hsg, rfl⟩ := hrel
    have HS := Lib.hid hsg
    have hfk := hsg.fk
    have hkl : k ≤ c.size + 1 := by have := hsg.kl; rw [HCL.out] at this; exact this
    clear hsg
    by_cases hle : k ≤ c.size
    · by_cases hlt : k < c.size
      · have hltl : k < c.data.toList.length := by rw [HCL.out]; exact hlt
        have eg : c.data.toList[k] = c[k] := rfl
        have hq := byte47 c[k]
        by_cases h47 : c[k] = 47
        · have hsl := seg_slash hfk hltl (eg.trans h47) HS.out.nos
          have hd : dotsL ((c.data.toList.drop f).take (k - f)) = 0 := HS.out.dots _ (by rw [hsl]; simp)
          have HN : Hid (SegAt c.data.toList (k + 1) (k + 1)) := ⟨Nat.le_refl _, by rw [HCL.out]; omega, fun t ht => HS.out.dots t (by rw [hsl]; simp [ht]), by simp⟩
          obtain ⟨d1, d2, d3, d4, d5⟩ := dots_not hd
          rw [← ext_list] at d1 d2 d3 d4 d5
          have hq2 : ((c[k].toNat : Int) != 47) = false := by rw [hq]; simpa using h47
          clear hsl hd hq h47 eg
          go_wp2
          go_roundw
          case rel => exact ⟨k + 1, k + 1, by go_num, by go_num, HN.out, by first | rfl | trivial⟩
          case measure => simp [intOf]; omega
        · have hq2 : ((c[k].toNat : Int) != 47) = true := by rw [hq]; simpa using h47
          have HN : Hid (SegAt c.data.toList f (k + 1)) := ⟨by omega, by rw [HCL.out]; omega, HS.out.dots, take_more hfk hltl (by rw [eg]; exact h47) HS.out.nos⟩
          clear hq h47 eg
          go_wp2
          go_roundw
          case rel => exact ⟨f, k + 1, rfl, by go_num, HN.out, by first | rfl | trivial⟩
          case measure => simp [intOf]; omega
      · have hke : k = c.data.toList.length := by rw [HCL.out]; omega
        have hsl := seg_end hke HS.out.nos
        have hd : dotsL ((c.data.toList.drop f).take (k - f)) = 0 := HS.out.dots _ (by rw [hsl]; simp)
        have HN : Hid (SegAt c.data.toList (k + 1) (k + 1)) := ⟨Nat.le_refl _, by omega, fun t ht => by
          rw [List.drop_of_length_le (by omega)] at ht
          simp [parts] at ht
          rw [ht]; exact dots_nil, by simp⟩
        obtain ⟨d1, d2, d3, d4, d5⟩ := dots_not hd
        rw [← ext_list] at d1 d2 d3 d4 d5
        clear hsl hd hke
        go_wp2
        go_roundw
        case rel => exact ⟨k + 1, k + 1, by go_num, by go_num, HN.out, by first | rfl | trivial⟩
        case measure => simp [intOf]; omega
    · go_wp2_with fail
      refine (awake_from HE.out HB3.out).mono ?_
      rintro e w4 ⟨rfl, hb⟩
      go_wp2
      go_ret
      exact ⟨rfl, hb⟩
end Go.Proofs.YtfamllkmmiajoaaDoor
