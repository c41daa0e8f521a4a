/-
  Contracts of the document's own answer of layer 4 over this seat's program. Conditions: those of each statement.
-/
import Derived.Test.YtlkneapidmdpbaaGreatDoorLTgt
import Derived.Test.YtlkneapidmdpbaaGreatDoorLOct2
import Derived.Test.YtlkneapidmdpbaaGreatDoorLBase
import Derived.Test.YtlkneapidmdpbaaGreatDoorLRef3
namespace Go.Proofs.YtlkneapidmdpbaaGreatDoor
open Go.RowKit

theorem inL_contains (c : UInt8) (l : List UInt8) : Lk.inL (c.toNat : Int) l = l.contains c := by
  unfold Lk.inL
  induction l with
  | nil => rfl
  | cons x r ih =>
    rw [List.any_cons, List.contains_cons, ih]
    congr 1
    rw [Bool.eq_iff_iff, beq_iff_eq, beq_iff_eq]
    constructor
    · intro h; exact (UInt8.toNat_inj.1 (by omega)).symm
    · rintro rfl; rfl
theorem In_as (c : UInt8) (s : ByteArray) (b : Bool) (w : World) (hs : s.size ≤ maxLen) (hb : b = s.data.toList.contains c) :
    Calls Tryz.prog 141 #[.int .u8 (c.toNat : Int), .string s] w fun e w' => e = .returned (.bool b) ∧ w = w' := by
  rw [hb, ← inL_contains]; exact In_any _ s w hs

set_option maxHeartbeats 1000000 in
theorem byteOf_any (c : UInt8) (s : ByteArray) (w : World) (hs : s.size ≤ maxLen) :
    Calls Tryz.prog 170 #[.int .u8 (c.toNat : Int), .string s] w fun e w' => e = .returned (.bool (freeB s.data.toList c)) ∧ w = w' := by
  have hb := Lk.byte_bd c
  by_cases h1 : c.toNat < 33
  · have HN := Lib.hid (freeB_lo (bar := s.data.toList) h1)
    go_enter Tryz.func170, Tryz.ntmps170
    go_wp2
    go_ret
    exact ⟨ret_bool HN.out.symm, rfl⟩
  by_cases h2 : 126 < c.toNat
  · have HN := Lib.hid (freeB_hi (bar := s.data.toList) h2)
    go_enter Tryz.func170, Tryz.ntmps170
    go_wp2
    go_ret
    exact ⟨ret_bool HN.out.symm, rfl⟩
  obtain ⟨b, hbb⟩ : ∃ b, b = s.data.toList.contains c := ⟨_, rfl⟩
  have HG : Hid (freeB s.data.toList c = !b) := by show _ = _; rw [hbb]; exact freeB_mid (bar := s.data.toList) h1 h2
  have HI := Lib.hid (In_as c s b w hs hbb)
  clear hbb
  go_enter Tryz.func170, Tryz.ntmps170
  go_wp2_with fail
  refine HI.out.mono ?_
  rintro e w' ⟨rfl, rfl⟩
  go_wp2
  go_ret
  exact ⟨ret_bool HG.out.symm, rfl⟩
theorem path96 (c : UInt8) : freeB noPathL c = (freeB [34, 35, 60, 62, 63, 92, 94, 123, 124, 125] c && ((c.toNat : Int) != 96)) := by
  have : ∀ n : Fin 256, freeB noPathL (UInt8.ofNat n.val) = (freeB [34, 35, 60, 62, 63, 92, 94, 123, 124, 125] (UInt8.ofNat n.val) && (((UInt8.ofNat n.val).toNat : Int) != 96)) := by decide +kernel
  have h := this ⟨c.toNat, c.toNat_lt⟩
  simpa using h

set_option maxHeartbeats 1000000 in
theorem pathByte_any (c : UInt8) (w : World) :
    Calls Tryz.prog 130 #[.int .u8 (c.toNat : Int)] w fun e w' => e = .returned (.bool (freeB noPathL c)) ∧ w = w' := by
  have HP := Lib.hid (path96 c)
  cases hf : freeB [34, 35, 60, 62, 63, 92, 94, 123, 124, 125] c
  · have HF : Hid (freeB (ByteArray.mk #[34, 35, 60, 62, 63, 92, 94, 123, 124, 125]).data.toList c = false) := hf
    go_enter Tryz.func130, Tryz.ntmps130
    go_wp2_with fail
    refine (byteOf_any c _ _ (by decide)).mono ?_
    rintro e w' ⟨rfl, rfl⟩
    rw [HF.out]
    go_wp2
    go_ret
    exact ⟨ret_bool (by rw [HP.out, hf]; rfl), rfl⟩
  · have HF : Hid (freeB (ByteArray.mk #[34, 35, 60, 62, 63, 92, 94, 123, 124, 125]).data.toList c = true) := hf
    go_enter Tryz.func130, Tryz.ntmps130
    go_wp2_with fail
    refine (byteOf_any c _ _ (by decide)).mono ?_
    rintro e w' ⟨rfl, rfl⟩
    rw [HF.out]
    go_wp2
    go_ret
    exact ⟨ret_bool (by rw [HP.out, hf]; rfl), rfl⟩
set_option maxHeartbeats 1000000 in
theorem queryByte_any (c : UInt8) (w : World) :
    Calls Tryz.prog 131 #[.int .u8 (c.toNat : Int)] w fun e w' => e = .returned (.bool (freeB noQueryL c)) ∧ w = w' := by
  go_enter Tryz.func131, Tryz.ntmps131
  go_wp2_with fail
  refine (byteOf_any c _ _ (by decide)).mono ?_
  rintro e w' ⟨rfl, rfl⟩
  go_wp2
  go_ret
  exact ⟨rfl, rfl⟩

/-- the first place from f on of which P does not hold -/
def firstN (P : UInt8 → Bool) (l : List UInt8) (f : Nat) : Nat := f + ((l.drop f).takeWhile P).length
theorem firstN_step {P : UInt8 → Bool} {l : List UInt8} {k : Nat} (hk : k < l.length) (hp : P l[k] = true) : firstN P l (k + 1) = firstN P l k := by
  unfold firstN
  rw [List.drop_eq_getElem_cons hk, List.takeWhile_cons, if_pos hp]; simp; omega
theorem firstN_stop {P : UInt8 → Bool} {l : List UInt8} {k : Nat} (hk : k < l.length) (hp : P l[k] = false) : firstN P l k = k := by
  unfold firstN
  rw [List.drop_eq_getElem_cons hk, List.takeWhile_cons, hp]; simp
theorem firstN_end {P : UInt8 → Bool} {l : List UInt8} {k : Nat} (hk : l.length ≤ k) : firstN P l k = k := by
  unfold firstN
  rw [List.drop_of_length_le hk]; simp
theorem firstN_le {P : UInt8 → Bool} {l : List UInt8} {f : Nat} (hf : f ≤ l.length) : firstN P l f ≤ l.length ∧ f ≤ firstN P l f := by
  unfold firstN
  have h := (List.takeWhile_sublist P (l := l.drop f)).length_le
  rw [List.length_drop] at h
  omega
def notIn (bar : List UInt8) (b : UInt8) : Bool := !bar.contains b

set_option maxHeartbeats 1000000 in
theorem first_any (s bar : ByteArray) (f : Nat) (w : World) (hs : s.size ≤ 140737488355328) (hb : bar.size ≤ maxLen) (hf : f ≤ s.size) :
    Calls Tryz.prog 128 #[.string s, .int .i64 (f : Int), .string bar] w fun e w' => e = .returned (.int .i64 (firstN (notIn bar.data.toList) s.data.toList f)) ∧ w = w' := by
  have hl : s.data.toList.length = s.size := by simp
  have HL := Lib.hid hl
  clear hl
  go_enter Tryz.func128, Tryz.ntmps128
  go_wp2
  go_loop [7] (fun i => ∃ k : Nat, k ≤ s.size ∧ i = .int .i64 k ∧ firstN (notIn bar.data.toList) s.data.toList f = firstN (notIn bar.data.toList) s.data.toList k) (fun i => s.size - (intOf i).toNat)
  case atStart => exact ⟨f, hf, rfl, rfl⟩
  case round =>
    obtain ⟨k, hk, rfl, he⟩ := hrel
    have HE := Lib.hid he
    clear he
    by_cases hlt : k < s.size
    · have hll : k < s.data.toList.length := by rw [HL.out]; exact hlt
      have eg : s.data.toList[k] = s[k] := rfl
      obtain ⟨b, hbb⟩ : ∃ b, b = bar.data.toList.contains s[k] := ⟨_, rfl⟩
      have HI := Lib.hid (In_as s[k] bar b w hb hbb)
      cases b
      · have HN : Hid (firstN (notIn bar.data.toList) s.data.toList f = firstN (notIn bar.data.toList) s.data.toList (k + 1)) := by
          show _ = _; rw [HE.out, firstN_step hll (by rw [eg, notIn, ← hbb]; rfl)]
        clear hbb eg
        go_wp2_with (go_at_call 141; refine HI.out.mono ?_; rintro e w' ⟨rfl, rfl⟩)
        go_round
        case rel => exact ⟨k + 1, by omega, by go_num, HN.out⟩
        case measure => simp [intOf]; omega
      · have HN : Hid (firstN (notIn bar.data.toList) s.data.toList f = k) := by
          show _ = _; rw [HE.out, firstN_stop hll (by rw [eg, notIn, ← hbb]; rfl)]
        clear hbb eg
        go_wp2_with (go_at_call 141; refine HI.out.mono ?_; rintro e w' ⟨rfl, rfl⟩)
        go_ret
        exact ⟨ret_int (by rw [HN.out]), rfl⟩
    · go_wp2
      go_ret
      exact ⟨ret_int (by rw [HE.out, firstN_end (by rw [HL.out]; omega)]), rfl⟩
end Go.Proofs.YtlkneapidmdpbaaGreatDoor

namespace Go.Proofs.YtlkneapidmdpbaaGreatDoor
open Go.RowKit

theorem own_view {w : World} {base : Nat} {e : TypeId} {v : Value} {xs : List Value} (h : w.ownsRow base e 1 v xs.length xs) : ∃ (A : Option Addr) (cap : Nat), v = .slice A xs.length cap ∧ xs.length ≤ cap ∧ cap ≤ maxLen ∧
    (∀ j (hj : j < xs.length), ∃ ad, A = some ad ∧ w.cell? (ad.add j) = some xs[j]) ∧ (∀ m, m ≤ xs.length → w.ownsRow base e 1 (.slice A m cap) m (xs.take m)) := by
  rcases h.2 with ⟨e1, e2⟩ | ⟨g, cap, cur, e1, e2, e3, e4, e5, e6, e7⟩
  · have hl : xs = [] := List.length_eq_zero_iff.1 e2
    subst hl
    refine ⟨none, 0, e1, Nat.zero_le _, Nat.zero_le _, fun j hj => by simp at hj, fun m hm => ?_⟩
    obtain rfl : m = 0 := by simpa using hm
    exact World.ownsRow_nil _ _ _ _
  · refine ⟨some ⟨g, 0, none⟩, cap, e1, e4, e5, fun j hj => ⟨_, rfl, ?_⟩, fun m hm => ?_⟩
    · exact h.cells (g := g) (by rw [e1]; rfl) j _ (by simp [hj])
    · refine ⟨by simp; omega, .inr ⟨g, cap, cur, rfl, e2, e3, by omega, e5, e6, ?_⟩⟩
      simp only [Nat.mul_one] at e7 ⊢
      rw [← e7, List.take_take, Nat.min_eq_left hm]
/-- a row of texts -/
def TRow (w : World) (base : Nat) (v : Value) (l : List (List UInt8)) : Prop := w.ownsRow base 9 1 v l.length (l.map sv)
theorem TRow.below {w w' : World} {base : Nat} {v : Value} {l : List (List UInt8)} (h : TRow w base v l) (hb : Below w.heap.size w w') : TRow w' base v l := ownsRow_below h hb
theorem TRow.nil (w : World) (base : Nat) : TRow w base (.slice none 0 0) [] := World.ownsRow_nil _ _ _ _
theorem TRow.view {w : World} {base : Nat} {v : Value} {l : List (List UInt8)} (h : TRow w base v l) : ∃ (A : Option Addr) (cap : Nat), v = .slice A l.length cap ∧ l.length ≤ cap ∧ cap ≤ maxLen ∧
    (∀ j (hj : j < l.length), ∃ ad, A = some ad ∧ w.cell? (ad.add j) = some (.string (mk l[j]))) ∧ (∀ m, m ≤ l.length → TRow w base (.slice A m cap) (l.take m)) := by
  have h' : w.ownsRow base 9 1 v (l.map sv).length (l.map sv) := by rw [List.length_map]; exact h
  obtain ⟨A, cap, e, h1, h2, h3, h4⟩ := own_view h'
  rw [List.length_map] at e h1
  refine ⟨A, cap, e, h1, h2, fun j hj => ?_, fun m hm => ?_⟩
  · obtain ⟨ad, ea, hc⟩ := h3 j (by simpa using hj)
    exact ⟨ad, ea, by rw [hc]; simp [sv_mk]⟩
  · have := h4 m (by simpa using hm)
    unfold TRow
    rw [List.length_take, Nat.min_eq_left hm, List.map_take]
    exact this
theorem TRow.more {w : World} {base : Nat} {v : Value} {l : List (List UInt8)} {t : ByteArray} (h : w.ownsRow base 9 1 v (l.length + 1) (l.map sv ++ [.string t])) : TRow w base v (l ++ [t.data.toList]) := by
  unfold TRow
  rw [List.length_append, List.map_append]
  have : [Value.string t] = List.map sv [t.data.toList] := by
    rw [List.map_cons, List.map_nil, sv_mk, mk_eq]
  rw [← this]
  exact h
/-- what is kept, put together: one text more -/
def JoinT (P : ByteArray) (ss : List (List UInt8)) (n : Nat) : Prop := P.data.toList = joinS ss ∧ P.size ≤ n
theorem ba_app2 (a b : ByteArray) : (a ++ b).data.toList = a.data.toList ++ b.data.toList := by simp
theorem JoinT.more {P : ByteArray} {ss : List (List UInt8)} {n m : Nat} (h : JoinT P ss n) (x : ByteArray) (s : List UInt8) (hx : x.data.toList = s) (hm : n + 1 + s.length ≤ m) : JoinT (P ++ ByteArray.mk #[47] ++ x) (ss ++ [s]) m := by
  have hz : x.size = s.length := by have := congrArg List.length hx; simpa using this
  refine ⟨?_, ?_⟩
  · rw [ba_app2, ba_app2, h.1, hx, joinS_snoc]; simp
  · have := h.2; simp [ByteArray.size_append]; have : (ByteArray.mk #[47]).size = 1 := rfl; omega
theorem infoS2 : (Tryz.prog.info? 9).map (fun i => (i.zero, i.size, i.bytes)) = some (some (.string ⟨#[]⟩), 1, 16) := by kernel_rfl
theorem step_zero {acc : List (List UInt8)} {s : List UInt8} {b : Bool} (h : dotsL s = 0) : stepL acc s b = acc ++ [s] := by unfold stepL; rw [if_pos h]
theorem step_one {acc : List (List UInt8)} {s : List UInt8} {b : Bool} (h : dotsL s = 1) : stepL acc s b = acc ++ (if b then [[]] else []) := by unfold stepL; rw [if_neg (by rw [h]; decide), if_neg (by rw [h]; decide)]
theorem step_two {acc : List (List UInt8)} {s : List UInt8} {b : Bool} (h : dotsL s = 2) : stepL acc s b = acc.dropLast ++ (if b then [[]] else []) := by unfold stepL; rw [if_neg (by rw [h]; decide), if_pos h]
end Go.Proofs.YtlkneapidmdpbaaGreatDoor

namespace Go.Proofs.YtlkneapidmdpbaaGreatDoor
open Go.RowKit

/-- a segment that is none of the dots is told unlike each of these -/
theorem dots_not {l : List UInt8} (h : dotsL l = 0) : (l == [46]) = false ∧ (l == [46, 46]) = false ∧ (l == [37, 50, 101]) = false ∧ (l == [37, 50, 69, 37, 50, 101]) = false ∧ (l == [46, 37, 50, 69]) = false := by
  refine ⟨?_, ?_, ?_, ?_, ?_⟩ <;> (rw [beq_eq_false_iff_ne]; rintro rfl; revert h; decide)
theorem ext_list (s : ByteArray) (f k : Nat) : (s.extract f k).toList = (s.data.toList.drop f).take (k - f) := by
  rw [ByteArray.toList_eq, Lib.extract_eq]
/-- at a slash, at the end: one more segment -/
theorem seg_slash {l : List UInt8} {f k : Nat} (hf : f ≤ k) (hk : k < l.length) (h47 : l[k] = 47) (hn : ∀ b ∈ (l.drop f).take (k - f), b ≠ 47) : parts 47 (l.drop f) = (l.drop f).take (k - f) :: parts 47 (l.drop (k + 1)) := by
  have e : l.drop f = (l.drop f).take (k - f) ++ 47 :: l.drop (k + 1) := by
    conv => lhs; rw [← List.take_append_drop (k - f) (l.drop f)]
    rw [List.drop_drop, show f + (k - f) = k by omega, List.drop_eq_getElem_cons hk, h47]
  conv => lhs; rw [e]
  exact parts_at 47 _ _ hn
theorem seg_end {l : List UInt8} {f k : Nat} (hk : k = l.length) (hn : ∀ b ∈ (l.drop f).take (k - f), b ≠ 47) : parts 47 (l.drop f) = [(l.drop f).take (k - f)] := by
  have e : (l.drop f).take (k - f) = l.drop f := List.take_of_length_le (by simp; omega)
  rw [e] at hn ⊢
  exact parts_none 47 _ hn
theorem take_more {l : List UInt8} {f k : Nat} (hf : f ≤ k) (hk : k < l.length) (h47 : l[k] ≠ 47) (hn : ∀ b ∈ (l.drop f).take (k - f), b ≠ 47) : ∀ b ∈ (l.drop f).take (k + 1 - f), b ≠ 47 := by
  have hlt : k - f < (l.drop f).length := by simp; omega
  have e : (l.drop f).take (k + 1 - f) = (l.drop f).take (k - f) ++ [l[k]] := by
    rw [show k + 1 - f = (k - f) + 1 by omega, List.take_succ_eq_append_getElem hlt]
    congr 2
    simp [show f + (k - f) = k by omega]
  rw [e]
  intro b hb
  rcases List.mem_append.1 hb with hb | hb
  · exact hn b hb
  · simp at hb; subst hb; exact h47

/-- what holds at the head of a round -/
structure SegAt (l : List UInt8) (f k : Nat) : Prop where
  fk : f ≤ k
  kl : k ≤ l.length + 1
  dots : ∀ t ∈ parts 47 (l.drop f), dotsL t = 0
  nos : ∀ b ∈ (l.drop f).take (k - f), b ≠ 47
theorem SegAt.start {l : List UInt8} {ss : List (List UInt8)} (e : l = joinS ss) (h0 : ss ≠ []) (h1 : ∀ t ∈ ss, noSl t) (h2 : ∀ t ∈ ss, dotsL t = 0) : SegAt l 1 1 := by
  refine ⟨Nat.le_refl _, by omega, ?_, by simp⟩
  have hp := parts_strip_join h0 h1
  rw [← e] at hp
  have hh : l.drop 1 = stripS l := by
    rw [e]
    cases ss with
    | nil => exact absurd rfl h0
    | cons s r => rw [strip_join]; rfl
  rw [hh, hp]
  exact h2
theorem clean_view (p : ByteArray) : ∃ c : ByteArray, c = mk (cleanL p.data.toList) ∧ 1 ≤ c.size ∧ c.size ≤ p.size + 1 ∧ c.data.toList.head? = some 47 ∧ mk (cleanL c.data.toList) = c ∧ SegAt c.data.toList 1 1 := by
  refine ⟨_, rfl, ?_, ?_, ?_, ?_, ?_⟩
  · rw [mk_size]
    have := clean_head p.data.toList
    cases h : cleanL p.data.toList with
    | nil => rw [h] at this; cases this
    | cons _ _ => simp
  · rw [mk_size]; have := clean_len p.data.toList; rw [show p.data.toList.length = p.size by simp] at this; exact this
  · rw [mk_data]; exact clean_head _
  · rw [mk_data, clean_clean]
  · rw [mk_data]
    obtain ⟨ss, e, h0, h1, h2⟩ := clean_segs p.data.toList
    exact SegAt.start e h0 h1 h2
theorem head_at47 {c : ByteArray} (h0 : 0 < c.size) (h : c.data.toList.head? = some 47) : ((c[0].toNat : Int) != 47) = false := by
  have e0 : c.data.toList.head? = some c[0] := by
    rw [List.head?_eq_getElem?, List.getElem?_eq_getElem (by simpa using h0)]; rfl
  rw [e0] at h
  injection h with h
  rw [h]; rfl
theorem byte47 (c : UInt8) : ((c.toNat : Int) != 47) = decide (c ≠ 47) := by
  rw [Bool.eq_iff_iff, bne_iff_ne, decide_eq_true_eq]
  constructor
  · rintro h rfl; exact h rfl
  · intro h e; exact h (UInt8.toNat_inj.1 (by simpa using (by omega : c.toNat = 47)))

end Go.Proofs.YtlkneapidmdpbaaGreatDoor

namespace Go.Proofs.YtlkneapidmdpbaaGreatDoor
open Go.RowKit

/-- what holds at the head of a round of the document's Clean: l is the path with its slash -/
structure RefAt (l : List UInt8) (all acc : List (List UInt8)) (f k : Nat) : Prop where
  fk : f ≤ k
  kl : k ≤ l.length + 1
  nos : ∀ b ∈ (l.drop f).take (k - f), b ≠ 47
  fin : k = l.length + 1 → f = l.length + 1
  len : acc.length ≤ k
  eqn : all = if f ≤ l.length then keepL acc (parts 47 (l.drop f)) else acc
theorem RefAt.skip {l : List UInt8} {all acc : List (List UInt8)} {f k : Nat} (h : RefAt l all acc f k) (hk : k < l.length) (h47 : l[k] ≠ 47) : RefAt l all acc f (k + 1) :=
  ⟨by have := h.fk; omega, by omega, take_more h.fk hk h47 h.nos, by omega, by have := h.len; omega, h.eqn⟩
theorem RefAt.slash {l : List UInt8} {all acc : List (List UInt8)} {f k : Nat} (h : RefAt l all acc f k) (hk : k < l.length) (h47 : l[k] = 47) (ac2 : List (List UInt8))
    (e : ac2 = stepL acc ((l.drop f).take (k - f)) false) : RefAt l all ac2 (k + 1) (k + 1) := by
  have hs := seg_slash h.fk hk h47 h.nos
  refine ⟨Nat.le_refl _, by omega, by simp, by omega, ?_, ?_⟩
  · rw [e]
    have := h.len
    unfold stepL
    split
    · simp; omega
    · split <;> simp <;> omega
  · have hf : f ≤ l.length := by have := h.fk; omega
    rw [h.eqn, if_pos hf, if_pos (by omega), hs, keepL, e]
    congr 2
    cases h : parts 47 (l.drop (k + 1))
    · exact absurd h (parts_ne _ _)
    · rfl
theorem RefAt.stop {l : List UInt8} {all acc : List (List UInt8)} {f k : Nat} (h : RefAt l all acc f k) (hk : k = l.length) (ac2 : List (List UInt8))
    (e : ac2 = stepL acc ((l.drop f).take (k - f)) true) : RefAt l all ac2 (k + 1) (k + 1) := by
  have hs := seg_end hk h.nos
  refine ⟨Nat.le_refl _, by omega, by simp, by omega, ?_, ?_⟩
  · rw [e]
    have := h.len
    unfold stepL
    split
    · simp; omega
    · split <;> simp <;> omega
  · have hf : f ≤ l.length := by have := h.fk; omega
    rw [h.eqn, if_pos hf, if_neg (by omega), hs, e]
    simp [keepL]
theorem refDots_as (t : ByteArray) (d : Int) (w : World) (ht : t.size ≤ maxLen) (hd : d = dotsL t.data.toList) :
    Calls Tryz.prog 171 #[.string t] w fun e w' => e = .returned (.int .i64 d) ∧ Below w.heap.size w w' := by rw [hd]; exact refDots_any t w ht
theorem joinS_take_len (acc : List (List UInt8)) (m : Nat) : (joinS (acc.take m)).length ≤ (joinS acc).length := by
  conv => rhs; rw [← List.take_append_drop m acc, joinS_append, List.length_append]
  omega
theorem joinS_cnt : ∀ acc : List (List UInt8), acc.length ≤ (joinS acc).length
  | [] => Nat.le_refl _
  | s :: r => by have := joinS_cnt r; simp [joinS]; omega
theorem mem_joinS_len {acc : List (List UInt8)} {s : List UInt8} (h : s ∈ acc) : s.length ≤ (joinS acc).length := by
  induction acc with
  | nil => simp at h
  | cons x r ih =>
    simp only [joinS, List.length_cons, List.length_append]
    rcases List.mem_cons.1 h with rfl | h
    · omega
    · have := ih h; omega
theorem ext_data (s : ByteArray) (f k : Nat) : (s.extract f k).data.toList = (s.data.toList.drop f).take (k - f) := by rw [Lib.extract_eq]

theorem strip_cons {l : List UInt8} (h : l.head? = some 47) : l = 47 :: stripS l := by
  cases l with
  | nil => simp at h
  | cons x r => simp at h; subst h; simp [stripS]
theorem strip_other {l : List UInt8} (h : ¬ l.head? = some 47) : stripS l = l := by unfold stripS; rw [if_neg h]

set_option maxRecDepth 100000 in
set_option maxHeartbeats 16000000 in
theorem refClean_any (p : ByteArray) (w : World) (hp : p.size ≤ 100000) :
    Calls Tryz.prog 132 #[.string p] w fun e w' => e = .returned (.string (mk (cleanL p.data.toList))) ∧ Below w.heap.size w w' := by
  obtain ⟨i0, hi, hz0, hz1, hz2⟩ := info_parts infoS2
  obtain ⟨C, hC⟩ : ∃ C, C = mk (cleanL p.data.toList) := ⟨_, rfl⟩
  obtain ⟨all, hall⟩ : ∃ all, all = keepL [] (parts 47 (stripS p.data.toList)) := ⟨_, rfl⟩
  have HCJ : Hid (C = mk (joinS all)) := by show _ = _; rw [hC, hall]; rfl
  have hjl : (joinS all).length ≤ 100001 := by
    have h1 := clean_len p.data.toList
    rw [show p.data.toList.length = p.size by simp] at h1
    have h2 : cleanL p.data.toList = joinS all := by rw [hall]; rfl
    rw [← h2]; omega
  have hne : all ≠ [] := by rw [hall]; exact keep_ne _ _ (parts_ne _ _)
  rw [← hC]
  have HJL := Lib.hid hjl
  have HNE := Lib.hid hne
  have HAL := Lib.hid hall
  clear hC hall hjl hne
  have HS : Hid (∀ Q : ByteArray, Q.data.toList = 47 :: stripS p.data.toList → RefAt Q.data.toList all [] 1 1) := by
    intro Q hQ
    refine ⟨Nat.le_refl _, by omega, by simp, by rw [hQ]; simp, by simp, ?_⟩
    rw [HAL.out, hQ, if_pos (by simp)]; rfl
  have hpl : p.data.toList.length = p.size := by simp
  by_cases hh : p.data.toList.head? = some 47
  · have h0 : 0 < p.size := by
      cases h : p.data.toList with
      | nil => rw [h] at hh; cases hh
      | cons _ _ => have := congrArg List.length h; rw [hpl] at this; simp at this; omega
    have hem : p.toList.isEmpty = false := ba_notEmpty (by intro h; rw [h] at hh; cases hh)
    have hb0 := head_at47 h0 hh
    have HST := Lib.hid (HS.out p (strip_cons hh))
    clear hh hpl HS
    go_enter Tryz.func132, Tryz.ntmps132
    go_wp2
    clear hb0 hem
    have hQz : p.size ≤ 100001 := by omega
    clear hp HAL
    generalize p = Q at *
    have hQL : Q.data.toList.length = Q.size := by simp
    have HQL := Lib.hid hQL
    clear hQL
    go_loopw [3, 4, 5, 6, 7] (fun v fr i _ _ wr => ∃ (f k : Nat) (acc : List (List UInt8)), fr = .int .i64 f ∧ i = .int .i64 k ∧ RefAt Q.data.toList all acc f k ∧ TRow wr w.heap.size v acc ∧ Below w.heap.size w wr) (fun _ _ i _ _ _ => Q.size + 1 - (intOf i).toNat)
    case atStart => exact ⟨1, 1, [], rfl, rfl, HST.out, TRow.nil _ _, Below.refl _ _⟩
    case round =>
      obtain ⟨f, k, acc, rfl, rfl, hrf, hrow, hbel⟩ := hrel
      have hfk := hrf.fk
      have hkl : k ≤ Q.size + 1 := by have := hrf.kl; rw [HQL.out] at this; exact this
      have hal := hrf.len
      have HRF := Lib.hid hrf
      have HR := Lib.hid hrow
      have HB := Lib.hid hbel
      clear hrf hrow hbel
      by_cases hle : k ≤ Q.size
      · by_cases hlt : k < Q.size
        · have hltl : k < Q.data.toList.length := by rw [HQL.out]; exact hlt
          have eg : Q.data.toList[k] = Q[k] := rfl
          have hq := byte47 Q[k]
          by_cases h47 : Q[k] = 47
          · have hq2 : ((Q[k].toNat : Int) != 47) = false := by rw [hq]; simpa using h47
            obtain ⟨t, ht⟩ : ∃ t, t = Q.extract f k := ⟨_, rfl⟩
            have htl : t.data.toList = (Q.data.toList.drop f).take (k - f) := by rw [ht]; exact ext_data Q f k
            have htz : t.size ≤ 100001 := by
              have := congrArg List.length htl
              rw [List.length_take, List.length_drop, HQL.out] at this
              simp at this; omega
            obtain ⟨d, hd⟩ : ∃ d, d = dotsL t.data.toList := ⟨_, rfl⟩
            have hdc := dots_cases t.data.toList
            rw [← hd] at hdc
            have HD := Lib.hid hd
            have HNX : Hid (∀ ac2, ac2 = stepL acc t.data.toList false → RefAt Q.data.toList all ac2 (k + 1) (k + 1)) := by
              intro ac2 h2; exact HRF.out.slash hltl (by rw [eg]; exact h47) ac2 (by rw [h2, htl])
            have HTE := Lib.hid ht
            clear htl hd ht hq h47 eg
            rcases hdc with rfl | rfl | rfl
            · have HN : Hid (RefAt Q.data.toList all (acc ++ [t.data.toList]) (k + 1) (k + 1)) := HNX.out _ (step_zero HD.out.symm).symm
              go_wp2_with fail
              rw [← HTE.out]
              refine (refDots_as t _ _ (by unfold maxLen; omega) HD.out).mono ?_
              rintro e wa ⟨rfl, hba⟩
              have HRA : Hid (TRow wa w.heap.size u3 acc) := HR.out.below hba
              have HBA : Hid (Below w.heap.size w wa) := HB.out.trans (hba.mono HB.out.size)
              have hsa := HBA.out.size
              clear hba
              go_wp2_with (at_builtin; refine wpList_append_own _ rfl (.tmp 45) (.tmp 47) 26 rfl w.heap.size 9 i0 (.string ⟨#[]⟩) 1 16 Tryz.underlying26 hi hz0 hz1 hz2 rfl (by decide) _ _ _ rfl (World.ownsRow.alloc (w := wa) HRA.out _) ⟨wa.heap.size, 0, none⟩ 1 1 [.string t] rfl rfl ?c1b ?c2b ?c3b ?c4b ?c5b ?_)
              try (case c1b => exact cell_one_new _ _ _)
              case c2b => first | (intro u hu; simp at hu; subst hu; rfl) | rfl
              case c3b => unfold maxLen; omega
              case c4b => omega
              case c5b => first | (simp; omega) | omega
              intro v1 w1 hown hgrow _
              have HR1 : Hid (TRow w1 w.heap.size v1 (acc ++ [t.data.toList])) := TRow.more hown
              have HB1 : Hid (Below w.heap.size w w1) := Below.grown (HBA.out.alloc HBA.out.size _) hgrow (by simp; omega) (fun k hk => (World.ownsRow.lt HRA.out k hk).1)
              clear hown hgrow
              go_wp2
              go_roundw
              case rel => exact ⟨k + 1, k + 1, _, by go_num, by go_num, HN.out, HR1.out, HB1.out⟩
              case measure => simp [intOf]; omega
            · have HN : Hid (RefAt Q.data.toList all acc (k + 1) (k + 1)) := HNX.out _ (by rw [step_one HD.out.symm]; simp)
              go_wp2_with fail
              rw [← HTE.out]
              refine (refDots_as t _ _ (by unfold maxLen; omega) HD.out).mono ?_
              rintro e wa ⟨rfl, hba⟩
              have HRA : Hid (TRow wa w.heap.size u3 acc) := HR.out.below hba
              have HBA : Hid (Below w.heap.size w wa) := HB.out.trans (hba.mono HB.out.size)
              have hsa := HBA.out.size
              clear hba
              go_wp2
              go_roundw
              case rel => exact ⟨k + 1, k + 1, _, by go_num, by go_num, HN.out, HRA.out, HBA.out⟩
              case measure => simp [intOf]; omega
            · obtain ⟨B6, cap6, eu6, hlc6, hcm6, hcl6, _⟩ := HR.out.view
              have HCL6 := Lib.hid hcl6
              clear hcl6
              unfold maxLen at hcm6
              subst eu6
              go_wp2_with fail
              rw [← HTE.out]
              refine (refDots_as t _ _ (by unfold maxLen; omega) HD.out).mono ?_
              rintro e wa ⟨rfl, hba⟩
              have HRA : Hid (TRow wa w.heap.size (.slice B6 acc.length cap6) acc) := HR.out.below hba
              have HBA : Hid (Below w.heap.size w wa) := HB.out.trans (hba.mono HB.out.size)
              have hsa := HBA.out.size
              clear hba
              by_cases hne : 0 < acc.length
              · obtain ⟨ad6, e6, _⟩ := HCL6.out 0 hne
                subst e6
                have HDD : Hid (TRow wa w.heap.size (.slice (some ad6) (acc.length - 1) cap6) acc.dropLast) := by
                  obtain ⟨B7, cap7, e7, _, _, _, htk7⟩ := HRA.out.view
                  injection e7 with e71 e72 e73
                  subst e71 e73
                  have := htk7 (acc.length - 1) (by omega)
                  rw [← List.dropLast_eq_take] at this
                  exact this
                have HS2 : Hid (stepL acc t.data.toList false = acc.dropLast ++ (if false then [[]] else [])) := step_two HD.out.symm
                obtain ⟨dl, hdl⟩ : ∃ dl, dl = acc.dropLast := ⟨_, rfl⟩
                have hdn : dl.length ≤ acc.length := by rw [hdl]; simp
                rw [← hdl] at HDD HS2
                clear hdl
                have hsub : IntKind.i64.wrap ((acc.length : Int) - 1) = ((acc.length - 1 : Nat) : Int) := by rw [IntWalk.i64_in _ (by omega)]; omega
                have HN : Hid (RefAt Q.data.toList all dl (k + 1) (k + 1)) := HNX.out _ (by rw [HS2.out]; simp)
                go_wp2
                go_roundw
                case rel => exact ⟨k + 1, k + 1, _, by go_num, by go_num, HN.out, HDD.out, HBA.out⟩
                case measure => simp [intOf]; omega
              · have hnil : acc = [] := List.length_eq_zero_iff.1 (by omega)
                subst hnil
                have HDD : Hid (TRow wa w.heap.size (.slice B6 0 cap6) []) := HRA.out
                clear hne
                have HN : Hid (RefAt Q.data.toList all ([] : List (List UInt8)) (k + 1) (k + 1)) := HNX.out _ (by rw [step_two HD.out.symm]; rfl)
                go_wp2
                go_roundw
                case rel => exact ⟨k + 1, k + 1, _, by go_num, by go_num, HN.out, HDD.out, HBA.out⟩
                case measure => simp [intOf]; omega
          · have hq2 : ((Q[k].toNat : Int) != 47) = true := by rw [hq]; simpa using h47
            have HN : Hid (RefAt Q.data.toList all acc f (k + 1)) := HRF.out.skip hltl (by rw [eg]; exact h47)
            clear hq h47 eg
            go_wp2
            go_roundw
            case rel => exact ⟨f, k + 1, acc, rfl, by go_num, HN.out, HR.out, HB.out⟩
            case measure => simp [intOf]; omega
        · have hke : ((k : Int) == (Q.size : Int)) = true := by rw [beq_iff_eq]; omega
          obtain ⟨t, ht⟩ : ∃ t, t = Q.extract f k := ⟨_, rfl⟩
          have htl : t.data.toList = (Q.data.toList.drop f).take (k - f) := by rw [ht]; exact ext_data Q f k
          have htz : t.size ≤ 100001 := by
            have := congrArg List.length htl
            rw [List.length_take, List.length_drop, HQL.out] at this
            simp at this; omega
          obtain ⟨d, hd⟩ : ∃ d, d = dotsL t.data.toList := ⟨_, rfl⟩
          have hdc := dots_cases t.data.toList
          rw [← hd] at hdc
          have HD := Lib.hid hd
          have HNX : Hid (∀ ac2, ac2 = stepL acc t.data.toList true → RefAt Q.data.toList all ac2 (k + 1) (k + 1)) := by
            intro ac2 h2; exact HRF.out.stop (by rw [HQL.out]; omega) ac2 (by rw [h2, htl])
          have HTE := Lib.hid ht
          clear htl hd ht
          rcases hdc with rfl | rfl | rfl
          · have HN : Hid (RefAt Q.data.toList all (acc ++ [t.data.toList]) (k + 1) (k + 1)) := HNX.out _ (step_zero HD.out.symm).symm
            go_wp2_with fail
            rw [← HTE.out]
            refine (refDots_as t _ _ (by unfold maxLen; omega) HD.out).mono ?_
            rintro e wa ⟨rfl, hba⟩
            have HRA : Hid (TRow wa w.heap.size u3 acc) := HR.out.below hba
            have HBA : Hid (Below w.heap.size w wa) := HB.out.trans (hba.mono HB.out.size)
            have hsa := HBA.out.size
            clear hba
            go_wp2_with (at_builtin; refine wpList_append_own _ rfl (.tmp 45) (.tmp 47) 26 rfl w.heap.size 9 i0 (.string ⟨#[]⟩) 1 16 Tryz.underlying26 hi hz0 hz1 hz2 rfl (by decide) _ _ _ rfl (World.ownsRow.alloc (w := wa) HRA.out _) ⟨wa.heap.size, 0, none⟩ 1 1 [.string t] rfl rfl ?c1c ?c2c ?c3c ?c4c ?c5c ?_)
            try (case c1c => exact cell_one_new _ _ _)
            case c2c => first | (intro u hu; simp at hu; subst hu; rfl) | rfl
            case c3c => unfold maxLen; omega
            case c4c => omega
            case c5c => first | (simp; omega) | omega
            intro v1 w1 hown hgrow _
            have HR1 : Hid (TRow w1 w.heap.size v1 (acc ++ [t.data.toList])) := TRow.more hown
            have HB1 : Hid (Below w.heap.size w w1) := Below.grown (HBA.out.alloc HBA.out.size _) hgrow (by simp; omega) (fun k hk => (World.ownsRow.lt HRA.out k hk).1)
            clear hown hgrow
            go_wp2
            go_roundw
            case rel => exact ⟨k + 1, k + 1, _, by go_num, by go_num, HN.out, HR1.out, HB1.out⟩
            case measure => simp [intOf]; omega
          · have HN : Hid (RefAt Q.data.toList all (acc ++ [(ByteArray.mk #[]).data.toList]) (k + 1) (k + 1)) := HNX.out _ (by rw [step_one HD.out.symm]; rfl)
            go_wp2_with fail
            rw [← HTE.out]
            refine (refDots_as t _ _ (by unfold maxLen; omega) HD.out).mono ?_
            rintro e wa ⟨rfl, hba⟩
            have HRA : Hid (TRow wa w.heap.size u3 acc) := HR.out.below hba
            have HBA : Hid (Below w.heap.size w wa) := HB.out.trans (hba.mono HB.out.size)
            have hsa := HBA.out.size
            clear hba
            go_wp2_with (at_builtin; refine wpList_append_own _ rfl (.tmp 65) (.tmp 66) 26 rfl w.heap.size 9 i0 (.string ⟨#[]⟩) 1 16 Tryz.underlying26 hi hz0 hz1 hz2 rfl (by decide) _ _ _ rfl (World.ownsRow.alloc (w := wa) HRA.out _) ⟨wa.heap.size, 0, none⟩ 1 1 [.string (ByteArray.mk #[])] rfl rfl ?c1d ?c2d ?c3d ?c4d ?c5d ?_)
            try (case c1d => exact cell_one_new _ _ _)
            case c2d => first | (intro u hu; simp at hu; subst hu; rfl) | rfl
            case c3d => unfold maxLen; omega
            case c4d => omega
            case c5d => first | (simp; omega) | omega
            intro v1 w1 hown hgrow _
            have HR1 : Hid (TRow w1 w.heap.size v1 (acc ++ [(ByteArray.mk #[]).data.toList])) := TRow.more hown
            have HB1 : Hid (Below w.heap.size w w1) := Below.grown (HBA.out.alloc HBA.out.size _) hgrow (by simp; omega) (fun k hk => (World.ownsRow.lt HRA.out k hk).1)
            clear hown hgrow
            go_wp2
            go_roundw
            case rel => exact ⟨k + 1, k + 1, _, by go_num, by go_num, HN.out, HR1.out, HB1.out⟩
            case measure => simp [intOf]; omega
          · obtain ⟨B6, cap6, eu6, hlc6, hcm6, hcl6, _⟩ := HR.out.view
            have HCL6 := Lib.hid hcl6
            clear hcl6
            unfold maxLen at hcm6
            subst eu6
            go_wp2_with fail
            rw [← HTE.out]
            refine (refDots_as t _ _ (by unfold maxLen; omega) HD.out).mono ?_
            rintro e wa ⟨rfl, hba⟩
            have HRA : Hid (TRow wa w.heap.size (.slice B6 acc.length cap6) acc) := HR.out.below hba
            have HBA : Hid (Below w.heap.size w wa) := HB.out.trans (hba.mono HB.out.size)
            have hsa := HBA.out.size
            clear hba
            by_cases hne : 0 < acc.length
            · obtain ⟨ad6, e6, _⟩ := HCL6.out 0 hne
              subst e6
              have HDD : Hid (TRow wa w.heap.size (.slice (some ad6) (acc.length - 1) cap6) acc.dropLast) := by
                obtain ⟨B7, cap7, e7, _, _, _, htk7⟩ := HRA.out.view
                injection e7 with e71 e72 e73
                subst e71 e73
                have := htk7 (acc.length - 1) (by omega)
                rw [← List.dropLast_eq_take] at this
                exact this
              have HS2 : Hid (stepL acc t.data.toList true = acc.dropLast ++ (if true then [[]] else [])) := step_two HD.out.symm
              obtain ⟨dl, hdl⟩ : ∃ dl, dl = acc.dropLast := ⟨_, rfl⟩
              have hdn : dl.length ≤ acc.length := by rw [hdl]; simp
              rw [← hdl] at HDD HS2
              clear hdl
              have hsub : IntKind.i64.wrap ((acc.length : Int) - 1) = ((acc.length - 1 : Nat) : Int) := by rw [IntWalk.i64_in _ (by omega)]; omega
              have HN : Hid (RefAt Q.data.toList all (dl ++ [(ByteArray.mk #[]).data.toList]) (k + 1) (k + 1)) := HNX.out _ HS2.out.symm
              go_wp2_with (at_builtin; refine wpList_append_own _ rfl (.tmp 65) (.tmp 66) 26 rfl w.heap.size 9 i0 (.string ⟨#[]⟩) 1 16 Tryz.underlying26 hi hz0 hz1 hz2 rfl (by decide) _ _ _ rfl (World.ownsRow.alloc (w := wa) HDD.out _) ⟨wa.heap.size, 0, none⟩ 1 1 [.string (ByteArray.mk #[])] rfl rfl ?c1e ?c2e ?c3e ?c4e ?c5e ?_)
              try (case c1e => exact cell_one_new _ _ _)
              case c2e => first | (intro u hu; simp at hu; subst hu; rfl) | rfl
              case c3e => unfold maxLen; omega
              case c4e => omega
              case c5e => first | (simp; omega) | omega
              intro v1 w1 hown hgrow _
              have HR1 : Hid (TRow w1 w.heap.size v1 (dl ++ [(ByteArray.mk #[]).data.toList])) := TRow.more hown
              have HB1 : Hid (Below w.heap.size w w1) := Below.grown (HBA.out.alloc HBA.out.size _) hgrow (by simp; omega) (fun k hk => (World.ownsRow.lt HDD.out k hk).1)
              clear hown hgrow
              go_wp2
              go_roundw
              case rel => exact ⟨k + 1, k + 1, _, by go_num, by go_num, HN.out, HR1.out, HB1.out⟩
              case measure => simp [intOf]; omega
            · have hnil : acc = [] := List.length_eq_zero_iff.1 (by omega)
              subst hnil
              have HDD : Hid (TRow wa w.heap.size (.slice B6 0 cap6) []) := HRA.out
              clear hne
              have HN : Hid (RefAt Q.data.toList all (([] : List (List UInt8)) ++ [(ByteArray.mk #[]).data.toList]) (k + 1) (k + 1)) := HNX.out _ (by rw [step_two HD.out.symm]; rfl)
              go_wp2_with (at_builtin; refine wpList_append_own _ rfl (.tmp 65) (.tmp 66) 26 rfl w.heap.size 9 i0 (.string ⟨#[]⟩) 1 16 Tryz.underlying26 hi hz0 hz1 hz2 rfl (by decide) _ _ _ rfl (World.ownsRow.alloc (w := wa) HDD.out _) ⟨wa.heap.size, 0, none⟩ 1 1 [.string (ByteArray.mk #[])] rfl rfl ?c1f ?c2f ?c3f ?c4f ?c5f ?_)
              try (case c1f => exact cell_one_new _ _ _)
              case c2f => first | (intro u hu; simp at hu; subst hu; rfl) | rfl
              case c3f => unfold maxLen; omega
              case c4f => omega
              case c5f => first | (simp; omega) | omega
              intro v1 w1 hown hgrow _
              have HR1 : Hid (TRow w1 w.heap.size v1 (([] : List (List UInt8)) ++ [(ByteArray.mk #[]).data.toList])) := TRow.more hown
              have HB1 : Hid (Below w.heap.size w w1) := Below.grown (HBA.out.alloc HBA.out.size _) hgrow (by simp; omega) (fun k hk => (World.ownsRow.lt HDD.out k hk).1)
              clear hown hgrow
              go_wp2
              go_roundw
              case rel => exact ⟨k + 1, k + 1, _, by go_num, by go_num, HN.out, HR1.out, HB1.out⟩
              case measure => simp [intOf]; omega
      · obtain rfl : k = Q.size + 1 := by omega
        have hfe : f = Q.size + 1 := by have := HRF.out.fin (by rw [HQL.out]); rw [HQL.out] at this; exact this
        have hae : all = acc := by have := HRF.out.eqn; rw [if_neg (by rw [HQL.out]; omega)] at this; exact this
        subst hae
        obtain ⟨B6, cap6, eu6, hlc6, hcm6, hcl6, _⟩ := HR.out.view
        unfold maxLen at hcm6
        subst eu6
        have HC6 := Lib.hid hcl6
        clear hcl6 hfe HRF
        go_wp2
        go_loop [8, 9] (fun q i => ∃ (R : ByteArray) (m : Nat), q = .string R ∧ i = .int .i64 m ∧ m ≤ all.length ∧ R.data.toList = joinS (all.take m)) (fun _ i => all.length - (intOf i).toNat)
        case atStart => exact ⟨⟨#[]⟩, 0, rfl, rfl, Nat.zero_le _, rfl⟩
        case round =>
          obtain ⟨R, m, rfl, rfl, hm, hR⟩ := hrel
          have hRz : R.size ≤ 100001 := by
            have h1 := joinS_take_len all m
            rw [← hR] at h1
            have h2 := HJL.out
            have h3 : R.data.toList.length = R.size := by simp
            omega
          have HRR := Lib.hid hR
          clear hR
          by_cases hlt2 : m < all.length
          · obtain ⟨ad, ea, hc⟩ := HC6.out m hlt2
            have hml : all[m].length ≤ 100001 := Nat.le_trans (mem_joinS_len (List.getElem_mem hlt2)) HJL.out
            obtain ⟨y, hy⟩ : ∃ y, y = mk all[m] := ⟨_, rfl⟩
            have hyz : y.size ≤ 100001 := by rw [hy, mk_size]; exact hml
            rw [← hy] at hc
            have HQ2 : Hid ((R ++ ByteArray.mk #[47] ++ y).data.toList = joinS (all.take (m + 1))) := by
              show _ = _
              rw [List.take_succ_eq_append_getElem hlt2, joinS_snoc, ba_app2, ba_app2, HRR.out, hy, mk_data]; simp
            clear hy hml
            subst ea
            go_wp2
            go_round
            case rel => exact ⟨_, m + 1, rfl, by go_num, by omega, HQ2.out⟩
            case measure => simp [intOf]; omega
          · obtain rfl : m = all.length := by omega
            have hRC : R = C := by
              rw [HCJ.out]
              have := HRR.out
              rw [List.take_of_length_le (Nat.le_refl _)] at this
              rw [← this]; exact (mk_eq R).symm
            have hne2 : R.toList.isEmpty = false := ba_notEmpty (by
              intro h
              have h1 := HRR.out
              rw [List.take_of_length_le (Nat.le_refl _), h] at h1
              have h2 := joinS_cnt all
              rw [← h1] at h2
              exact HNE.out (List.length_eq_zero_iff.1 (by simpa using h2)))
            have HRC := Lib.hid hRC
            clear hRC
            go_wp2
            go_ret
            exact ⟨ret_string HRC.out, HB.out⟩
  · obtain ⟨Q, hQ⟩ : ∃ Q, Q = ByteArray.mk #[47] ++ p := ⟨_, rfl⟩
    have hQl : Q.data.toList = 47 :: stripS p.data.toList := by rw [hQ, strip_other hh]; simp
    have hQz : Q.size ≤ 100001 := by
      have := congrArg List.length hQl
      rw [strip_other hh] at this
      simp at this; omega
    have h0 : 0 < Q.size := by have := congrArg List.length hQl; simp at this; omega
    have HST := Lib.hid (HS.out Q hQl)
    have HQ := Lib.hid hQ
    clear hQ hQl HS hpl HAL
    by_cases hem : p.toList.isEmpty = true
    · clear hh
      go_enter Tryz.func132, Tryz.ntmps132
      go_wp2
      rw [← HQ.out]
      clear HQ hem hp
      have hQL : Q.data.toList.length = Q.size := by simp
      have HQL := Lib.hid hQL
      clear hQL
      go_loopw [3, 4, 5, 6, 7] (fun v fr i _ _ wr => ∃ (f k : Nat) (acc : List (List UInt8)), fr = .int .i64 f ∧ i = .int .i64 k ∧ RefAt Q.data.toList all acc f k ∧ TRow wr w.heap.size v acc ∧ Below w.heap.size w wr) (fun _ _ i _ _ _ => Q.size + 1 - (intOf i).toNat)
      case atStart => exact ⟨1, 1, [], rfl, rfl, HST.out, TRow.nil _ _, Below.refl _ _⟩
      case round =>
        obtain ⟨f, k, acc, rfl, rfl, hrf, hrow, hbel⟩ := hrel
        have hfk := hrf.fk
        have hkl : k ≤ Q.size + 1 := by have := hrf.kl; rw [HQL.out] at this; exact this
        have hal := hrf.len
        have HRF := Lib.hid hrf
        have HR := Lib.hid hrow
        have HB := Lib.hid hbel
        clear hrf hrow hbel
        by_cases hle : k ≤ Q.size
        · by_cases hlt : k < Q.size
          · have hltl : k < Q.data.toList.length := by rw [HQL.out]; exact hlt
            have eg : Q.data.toList[k] = Q[k] := rfl
            have hq := byte47 Q[k]
            by_cases h47 : Q[k] = 47
            · have hq2 : ((Q[k].toNat : Int) != 47) = false := by rw [hq]; simpa using h47
              obtain ⟨t, ht⟩ : ∃ t, t = Q.extract f k := ⟨_, rfl⟩
              have htl : t.data.toList = (Q.data.toList.drop f).take (k - f) := by rw [ht]; exact ext_data Q f k
              have htz : t.size ≤ 100001 := by
                have := congrArg List.length htl
                rw [List.length_take, List.length_drop, HQL.out] at this
                simp at this; omega
              obtain ⟨d, hd⟩ : ∃ d, d = dotsL t.data.toList := ⟨_, rfl⟩
              have hdc := dots_cases t.data.toList
              rw [← hd] at hdc
              have HD := Lib.hid hd
              have HNX : Hid (∀ ac2, ac2 = stepL acc t.data.toList false → RefAt Q.data.toList all ac2 (k + 1) (k + 1)) := by
                intro ac2 h2; exact HRF.out.slash hltl (by rw [eg]; exact h47) ac2 (by rw [h2, htl])
              have HTE := Lib.hid ht
              clear htl hd ht hq h47 eg
              rcases hdc with rfl | rfl | rfl
              · have HN : Hid (RefAt Q.data.toList all (acc ++ [t.data.toList]) (k + 1) (k + 1)) := HNX.out _ (step_zero HD.out.symm).symm
                go_wp2_with fail
                rw [← HTE.out]
                refine (refDots_as t _ _ (by unfold maxLen; omega) HD.out).mono ?_
                rintro e wa ⟨rfl, hba⟩
                have HRA : Hid (TRow wa w.heap.size u3 acc) := HR.out.below hba
                have HBA : Hid (Below w.heap.size w wa) := HB.out.trans (hba.mono HB.out.size)
                have hsa := HBA.out.size
                clear hba
                go_wp2_with (at_builtin; refine wpList_append_own _ rfl (.tmp 45) (.tmp 47) 26 rfl w.heap.size 9 i0 (.string ⟨#[]⟩) 1 16 Tryz.underlying26 hi hz0 hz1 hz2 rfl (by decide) _ _ _ rfl (World.ownsRow.alloc (w := wa) HRA.out _) ⟨wa.heap.size, 0, none⟩ 1 1 [.string t] rfl rfl ?c1b ?c2b ?c3b ?c4b ?c5b ?_)
                try (case c1b => exact cell_one_new _ _ _)
                case c2b => first | (intro u hu; simp at hu; subst hu; rfl) | rfl
                case c3b => unfold maxLen; omega
                case c4b => omega
                case c5b => first | (simp; omega) | omega
                intro v1 w1 hown hgrow _
                have HR1 : Hid (TRow w1 w.heap.size v1 (acc ++ [t.data.toList])) := TRow.more hown
                have HB1 : Hid (Below w.heap.size w w1) := Below.grown (HBA.out.alloc HBA.out.size _) hgrow (by simp; omega) (fun k hk => (World.ownsRow.lt HRA.out k hk).1)
                clear hown hgrow
                go_wp2
                go_roundw
                case rel => exact ⟨k + 1, k + 1, _, by go_num, by go_num, HN.out, HR1.out, HB1.out⟩
                case measure => simp [intOf]; omega
              · have HN : Hid (RefAt Q.data.toList all acc (k + 1) (k + 1)) := HNX.out _ (by rw [step_one HD.out.symm]; simp)
                go_wp2_with fail
                rw [← HTE.out]
                refine (refDots_as t _ _ (by unfold maxLen; omega) HD.out).mono ?_
                rintro e wa ⟨rfl, hba⟩
                have HRA : Hid (TRow wa w.heap.size u3 acc) := HR.out.below hba
                have HBA : Hid (Below w.heap.size w wa) := HB.out.trans (hba.mono HB.out.size)
                have hsa := HBA.out.size
                clear hba
                go_wp2
                go_roundw
                case rel => exact ⟨k + 1, k + 1, _, by go_num, by go_num, HN.out, HRA.out, HBA.out⟩
                case measure => simp [intOf]; omega
              · obtain ⟨B6, cap6, eu6, hlc6, hcm6, hcl6, _⟩ := HR.out.view
                have HCL6 := Lib.hid hcl6
                clear hcl6
                unfold maxLen at hcm6
                subst eu6
                go_wp2_with fail
                rw [← HTE.out]
                refine (refDots_as t _ _ (by unfold maxLen; omega) HD.out).mono ?_
                rintro e wa ⟨rfl, hba⟩
                have HRA : Hid (TRow wa w.heap.size (.slice B6 acc.length cap6) acc) := HR.out.below hba
                have HBA : Hid (Below w.heap.size w wa) := HB.out.trans (hba.mono HB.out.size)
                have hsa := HBA.out.size
                clear hba
                by_cases hne : 0 < acc.length
                · obtain ⟨ad6, e6, _⟩ := HCL6.out 0 hne
                  subst e6
                  have HDD : Hid (TRow wa w.heap.size (.slice (some ad6) (acc.length - 1) cap6) acc.dropLast) := by
                    obtain ⟨B7, cap7, e7, _, _, _, htk7⟩ := HRA.out.view
                    injection e7 with e71 e72 e73
                    subst e71 e73
                    have := htk7 (acc.length - 1) (by omega)
                    rw [← List.dropLast_eq_take] at this
                    exact this
                  have HS2 : Hid (stepL acc t.data.toList false = acc.dropLast ++ (if false then [[]] else [])) := step_two HD.out.symm
                  obtain ⟨dl, hdl⟩ : ∃ dl, dl = acc.dropLast := ⟨_, rfl⟩
                  have hdn : dl.length ≤ acc.length := by rw [hdl]; simp
                  rw [← hdl] at HDD HS2
                  clear hdl
                  have hsub : IntKind.i64.wrap ((acc.length : Int) - 1) = ((acc.length - 1 : Nat) : Int) := by rw [IntWalk.i64_in _ (by omega)]; omega
                  have HN : Hid (RefAt Q.data.toList all dl (k + 1) (k + 1)) := HNX.out _ (by rw [HS2.out]; simp)
                  go_wp2
                  go_roundw
                  case rel => exact ⟨k + 1, k + 1, _, by go_num, by go_num, HN.out, HDD.out, HBA.out⟩
                  case measure => simp [intOf]; omega
                · have hnil : acc = [] := List.length_eq_zero_iff.1 (by omega)
                  subst hnil
                  have HDD : Hid (TRow wa w.heap.size (.slice B6 0 cap6) []) := HRA.out
                  clear hne
                  have HN : Hid (RefAt Q.data.toList all ([] : List (List UInt8)) (k + 1) (k + 1)) := HNX.out _ (by rw [step_two HD.out.symm]; rfl)
                  go_wp2
                  go_roundw
                  case rel => exact ⟨k + 1, k + 1, _, by go_num, by go_num, HN.out, HDD.out, HBA.out⟩
                  case measure => simp [intOf]; omega
            · have hq2 : ((Q[k].toNat : Int) != 47) = true := by rw [hq]; simpa using h47
              have HN : Hid (RefAt Q.data.toList all acc f (k + 1)) := HRF.out.skip hltl (by rw [eg]; exact h47)
              clear hq h47 eg
              go_wp2
              go_roundw
              case rel => exact ⟨f, k + 1, acc, rfl, by go_num, HN.out, HR.out, HB.out⟩
              case measure => simp [intOf]; omega
          · have hke : ((k : Int) == (Q.size : Int)) = true := by rw [beq_iff_eq]; omega
            obtain ⟨t, ht⟩ : ∃ t, t = Q.extract f k := ⟨_, rfl⟩
            have htl : t.data.toList = (Q.data.toList.drop f).take (k - f) := by rw [ht]; exact ext_data Q f k
            have htz : t.size ≤ 100001 := by
              have := congrArg List.length htl
              rw [List.length_take, List.length_drop, HQL.out] at this
              simp at this; omega
            obtain ⟨d, hd⟩ : ∃ d, d = dotsL t.data.toList := ⟨_, rfl⟩
            have hdc := dots_cases t.data.toList
            rw [← hd] at hdc
            have HD := Lib.hid hd
            have HNX : Hid (∀ ac2, ac2 = stepL acc t.data.toList true → RefAt Q.data.toList all ac2 (k + 1) (k + 1)) := by
              intro ac2 h2; exact HRF.out.stop (by rw [HQL.out]; omega) ac2 (by rw [h2, htl])
            have HTE := Lib.hid ht
            clear htl hd ht
            rcases hdc with rfl | rfl | rfl
            · have HN : Hid (RefAt Q.data.toList all (acc ++ [t.data.toList]) (k + 1) (k + 1)) := HNX.out _ (step_zero HD.out.symm).symm
              go_wp2_with fail
              rw [← HTE.out]
              refine (refDots_as t _ _ (by unfold maxLen; omega) HD.out).mono ?_
              rintro e wa ⟨rfl, hba⟩
              have HRA : Hid (TRow wa w.heap.size u3 acc) := HR.out.below hba
              have HBA : Hid (Below w.heap.size w wa) := HB.out.trans (hba.mono HB.out.size)
              have hsa := HBA.out.size
              clear hba
              go_wp2_with (at_builtin; refine wpList_append_own _ rfl (.tmp 45) (.tmp 47) 26 rfl w.heap.size 9 i0 (.string ⟨#[]⟩) 1 16 Tryz.underlying26 hi hz0 hz1 hz2 rfl (by decide) _ _ _ rfl (World.ownsRow.alloc (w := wa) HRA.out _) ⟨wa.heap.size, 0, none⟩ 1 1 [.string t] rfl rfl ?c1c ?c2c ?c3c ?c4c ?c5c ?_)
              try (case c1c => exact cell_one_new _ _ _)
              case c2c => first | (intro u hu; simp at hu; subst hu; rfl) | rfl
              case c3c => unfold maxLen; omega
              case c4c => omega
              case c5c => first | (simp; omega) | omega
              intro v1 w1 hown hgrow _
              have HR1 : Hid (TRow w1 w.heap.size v1 (acc ++ [t.data.toList])) := TRow.more hown
              have HB1 : Hid (Below w.heap.size w w1) := Below.grown (HBA.out.alloc HBA.out.size _) hgrow (by simp; omega) (fun k hk => (World.ownsRow.lt HRA.out k hk).1)
              clear hown hgrow
              go_wp2
              go_roundw
              case rel => exact ⟨k + 1, k + 1, _, by go_num, by go_num, HN.out, HR1.out, HB1.out⟩
              case measure => simp [intOf]; omega
            · have HN : Hid (RefAt Q.data.toList all (acc ++ [(ByteArray.mk #[]).data.toList]) (k + 1) (k + 1)) := HNX.out _ (by rw [step_one HD.out.symm]; rfl)
              go_wp2_with fail
              rw [← HTE.out]
              refine (refDots_as t _ _ (by unfold maxLen; omega) HD.out).mono ?_
              rintro e wa ⟨rfl, hba⟩
              have HRA : Hid (TRow wa w.heap.size u3 acc) := HR.out.below hba
              have HBA : Hid (Below w.heap.size w wa) := HB.out.trans (hba.mono HB.out.size)
              have hsa := HBA.out.size
              clear hba
              go_wp2_with (at_builtin; refine wpList_append_own _ rfl (.tmp 65) (.tmp 66) 26 rfl w.heap.size 9 i0 (.string ⟨#[]⟩) 1 16 Tryz.underlying26 hi hz0 hz1 hz2 rfl (by decide) _ _ _ rfl (World.ownsRow.alloc (w := wa) HRA.out _) ⟨wa.heap.size, 0, none⟩ 1 1 [.string (ByteArray.mk #[])] rfl rfl ?c1d ?c2d ?c3d ?c4d ?c5d ?_)
              try (case c1d => exact cell_one_new _ _ _)
              case c2d => first | (intro u hu; simp at hu; subst hu; rfl) | rfl
              case c3d => unfold maxLen; omega
              case c4d => omega
              case c5d => first | (simp; omega) | omega
              intro v1 w1 hown hgrow _
              have HR1 : Hid (TRow w1 w.heap.size v1 (acc ++ [(ByteArray.mk #[]).data.toList])) := TRow.more hown
              have HB1 : Hid (Below w.heap.size w w1) := Below.grown (HBA.out.alloc HBA.out.size _) hgrow (by simp; omega) (fun k hk => (World.ownsRow.lt HRA.out k hk).1)
              clear hown hgrow
              go_wp2
              go_roundw
              case rel => exact ⟨k + 1, k + 1, _, by go_num, by go_num, HN.out, HR1.out, HB1.out⟩
              case measure => simp [intOf]; omega
            · obtain ⟨B6, cap6, eu6, hlc6, hcm6, hcl6, _⟩ := HR.out.view
              have HCL6 := Lib.hid hcl6
              clear hcl6
              unfold maxLen at hcm6
              subst eu6
              go_wp2_with fail
              rw [← HTE.out]
              refine (refDots_as t _ _ (by unfold maxLen; omega) HD.out).mono ?_
              rintro e wa ⟨rfl, hba⟩
              have HRA : Hid (TRow wa w.heap.size (.slice B6 acc.length cap6) acc) := HR.out.below hba
              have HBA : Hid (Below w.heap.size w wa) := HB.out.trans (hba.mono HB.out.size)
              have hsa := HBA.out.size
              clear hba
              by_cases hne : 0 < acc.length
              · obtain ⟨ad6, e6, _⟩ := HCL6.out 0 hne
                subst e6
                have HDD : Hid (TRow wa w.heap.size (.slice (some ad6) (acc.length - 1) cap6) acc.dropLast) := by
                  obtain ⟨B7, cap7, e7, _, _, _, htk7⟩ := HRA.out.view
                  injection e7 with e71 e72 e73
                  subst e71 e73
                  have := htk7 (acc.length - 1) (by omega)
                  rw [← List.dropLast_eq_take] at this
                  exact this
                have HS2 : Hid (stepL acc t.data.toList true = acc.dropLast ++ (if true then [[]] else [])) := step_two HD.out.symm
                obtain ⟨dl, hdl⟩ : ∃ dl, dl = acc.dropLast := ⟨_, rfl⟩
                have hdn : dl.length ≤ acc.length := by rw [hdl]; simp
                rw [← hdl] at HDD HS2
                clear hdl
                have hsub : IntKind.i64.wrap ((acc.length : Int) - 1) = ((acc.length - 1 : Nat) : Int) := by rw [IntWalk.i64_in _ (by omega)]; omega
                have HN : Hid (RefAt Q.data.toList all (dl ++ [(ByteArray.mk #[]).data.toList]) (k + 1) (k + 1)) := HNX.out _ HS2.out.symm
                go_wp2_with (at_builtin; refine wpList_append_own _ rfl (.tmp 65) (.tmp 66) 26 rfl w.heap.size 9 i0 (.string ⟨#[]⟩) 1 16 Tryz.underlying26 hi hz0 hz1 hz2 rfl (by decide) _ _ _ rfl (World.ownsRow.alloc (w := wa) HDD.out _) ⟨wa.heap.size, 0, none⟩ 1 1 [.string (ByteArray.mk #[])] rfl rfl ?c1e ?c2e ?c3e ?c4e ?c5e ?_)
                try (case c1e => exact cell_one_new _ _ _)
                case c2e => first | (intro u hu; simp at hu; subst hu; rfl) | rfl
                case c3e => unfold maxLen; omega
                case c4e => omega
                case c5e => first | (simp; omega) | omega
                intro v1 w1 hown hgrow _
                have HR1 : Hid (TRow w1 w.heap.size v1 (dl ++ [(ByteArray.mk #[]).data.toList])) := TRow.more hown
                have HB1 : Hid (Below w.heap.size w w1) := Below.grown (HBA.out.alloc HBA.out.size _) hgrow (by simp; omega) (fun k hk => (World.ownsRow.lt HDD.out k hk).1)
                clear hown hgrow
                go_wp2
                go_roundw
                case rel => exact ⟨k + 1, k + 1, _, by go_num, by go_num, HN.out, HR1.out, HB1.out⟩
                case measure => simp [intOf]; omega
              · have hnil : acc = [] := List.length_eq_zero_iff.1 (by omega)
                subst hnil
                have HDD : Hid (TRow wa w.heap.size (.slice B6 0 cap6) []) := HRA.out
                clear hne
                have HN : Hid (RefAt Q.data.toList all (([] : List (List UInt8)) ++ [(ByteArray.mk #[]).data.toList]) (k + 1) (k + 1)) := HNX.out _ (by rw [step_two HD.out.symm]; rfl)
                go_wp2_with (at_builtin; refine wpList_append_own _ rfl (.tmp 65) (.tmp 66) 26 rfl w.heap.size 9 i0 (.string ⟨#[]⟩) 1 16 Tryz.underlying26 hi hz0 hz1 hz2 rfl (by decide) _ _ _ rfl (World.ownsRow.alloc (w := wa) HDD.out _) ⟨wa.heap.size, 0, none⟩ 1 1 [.string (ByteArray.mk #[])] rfl rfl ?c1f ?c2f ?c3f ?c4f ?c5f ?_)
                try (case c1f => exact cell_one_new _ _ _)
                case c2f => first | (intro u hu; simp at hu; subst hu; rfl) | rfl
                case c3f => unfold maxLen; omega
                case c4f => omega
                case c5f => first | (simp; omega) | omega
                intro v1 w1 hown hgrow _
                have HR1 : Hid (TRow w1 w.heap.size v1 (([] : List (List UInt8)) ++ [(ByteArray.mk #[]).data.toList])) := TRow.more hown
                have HB1 : Hid (Below w.heap.size w w1) := Below.grown (HBA.out.alloc HBA.out.size _) hgrow (by simp; omega) (fun k hk => (World.ownsRow.lt HDD.out k hk).1)
                clear hown hgrow
                go_wp2
                go_roundw
                case rel => exact ⟨k + 1, k + 1, _, by go_num, by go_num, HN.out, HR1.out, HB1.out⟩
                case measure => simp [intOf]; omega
        · obtain rfl : k = Q.size + 1 := by omega
          have hfe : f = Q.size + 1 := by have := HRF.out.fin (by rw [HQL.out]); rw [HQL.out] at this; exact this
          have hae : all = acc := by have := HRF.out.eqn; rw [if_neg (by rw [HQL.out]; omega)] at this; exact this
          subst hae
          obtain ⟨B6, cap6, eu6, hlc6, hcm6, hcl6, _⟩ := HR.out.view
          unfold maxLen at hcm6
          subst eu6
          have HC6 := Lib.hid hcl6
          clear hcl6 hfe HRF
          go_wp2
          go_loop [8, 9] (fun q i => ∃ (R : ByteArray) (m : Nat), q = .string R ∧ i = .int .i64 m ∧ m ≤ all.length ∧ R.data.toList = joinS (all.take m)) (fun _ i => all.length - (intOf i).toNat)
          case atStart => exact ⟨⟨#[]⟩, 0, rfl, rfl, Nat.zero_le _, rfl⟩
          case round =>
            obtain ⟨R, m, rfl, rfl, hm, hR⟩ := hrel
            have hRz : R.size ≤ 100001 := by
              have h1 := joinS_take_len all m
              rw [← hR] at h1
              have h2 := HJL.out
              have h3 : R.data.toList.length = R.size := by simp
              omega
            have HRR := Lib.hid hR
            clear hR
            by_cases hlt2 : m < all.length
            · obtain ⟨ad, ea, hc⟩ := HC6.out m hlt2
              have hml : all[m].length ≤ 100001 := Nat.le_trans (mem_joinS_len (List.getElem_mem hlt2)) HJL.out
              obtain ⟨y, hy⟩ : ∃ y, y = mk all[m] := ⟨_, rfl⟩
              have hyz : y.size ≤ 100001 := by rw [hy, mk_size]; exact hml
              rw [← hy] at hc
              have HQ2 : Hid ((R ++ ByteArray.mk #[47] ++ y).data.toList = joinS (all.take (m + 1))) := by
                show _ = _
                rw [List.take_succ_eq_append_getElem hlt2, joinS_snoc, ba_app2, ba_app2, HRR.out, hy, mk_data]; simp
              clear hy hml
              subst ea
              go_wp2
              go_round
              case rel => exact ⟨_, m + 1, rfl, by go_num, by omega, HQ2.out⟩
              case measure => simp [intOf]; omega
            · obtain rfl : m = all.length := by omega
              have hRC : R = C := by
                rw [HCJ.out]
                have := HRR.out
                rw [List.take_of_length_le (Nat.le_refl _)] at this
                rw [← this]; exact (mk_eq R).symm
              have hne2 : R.toList.isEmpty = false := ba_notEmpty (by
                intro h
                have h1 := HRR.out
                rw [List.take_of_length_le (Nat.le_refl _), h] at h1
                have h2 := joinS_cnt all
                rw [← h1] at h2
                exact HNE.out (List.length_eq_zero_iff.1 (by simpa using h2)))
              have HRC := Lib.hid hRC
              clear hRC
              go_wp2
              go_ret
              exact ⟨ret_string HRC.out, HB.out⟩
    · have hem2 : p.toList.isEmpty = false := by simpa using hem
      have hp0 : 0 < p.size := by
        rcases Nat.eq_zero_or_pos p.size with h | h
        · exact absurd (ba_isEmpty (List.length_eq_zero_iff.1 (by simpa using h))) hem
        · exact h
      have hb0 : ((p[0].toNat : Int) != 47) = true := by
        rw [byte47, decide_eq_true_eq]
        intro e
        apply hh
        rw [List.head?_eq_getElem?, List.getElem?_eq_getElem (by simpa using hp0)]
        exact congrArg some e
      clear hem hh
      go_enter Tryz.func132, Tryz.ntmps132
      go_wp2
      rw [← HQ.out]
      clear HQ hem2
      have hQL : Q.data.toList.length = Q.size := by simp
      have HQL := Lib.hid hQL
      clear hQL
      go_loopw [3, 4, 5, 6, 7] (fun v fr i _ _ wr => ∃ (f k : Nat) (acc : List (List UInt8)), fr = .int .i64 f ∧ i = .int .i64 k ∧ RefAt Q.data.toList all acc f k ∧ TRow wr w.heap.size v acc ∧ Below w.heap.size w wr) (fun _ _ i _ _ _ => Q.size + 1 - (intOf i).toNat)
      case atStart => exact ⟨1, 1, [], rfl, rfl, HST.out, TRow.nil _ _, Below.refl _ _⟩
      case round =>
        obtain ⟨f, k, acc, rfl, rfl, hrf, hrow, hbel⟩ := hrel
        have hfk := hrf.fk
        have hkl : k ≤ Q.size + 1 := by have := hrf.kl; rw [HQL.out] at this; exact this
        have hal := hrf.len
        have HRF := Lib.hid hrf
        have HR := Lib.hid hrow
        have HB := Lib.hid hbel
        clear hrf hrow hbel
        by_cases hle : k ≤ Q.size
        · by_cases hlt : k < Q.size
          · have hltl : k < Q.data.toList.length := by rw [HQL.out]; exact hlt
            have eg : Q.data.toList[k] = Q[k] := rfl
            have hq := byte47 Q[k]
            by_cases h47 : Q[k] = 47
            · have hq2 : ((Q[k].toNat : Int) != 47) = false := by rw [hq]; simpa using h47
              obtain ⟨t, ht⟩ : ∃ t, t = Q.extract f k := ⟨_, rfl⟩
              have htl : t.data.toList = (Q.data.toList.drop f).take (k - f) := by rw [ht]; exact ext_data Q f k
              have htz : t.size ≤ 100001 := by
                have := congrArg List.length htl
                rw [List.length_take, List.length_drop, HQL.out] at this
                simp at this; omega
              obtain ⟨d, hd⟩ : ∃ d, d = dotsL t.data.toList := ⟨_, rfl⟩
              have hdc := dots_cases t.data.toList
              rw [← hd] at hdc
              have HD := Lib.hid hd
              have HNX : Hid (∀ ac2, ac2 = stepL acc t.data.toList false → RefAt Q.data.toList all ac2 (k + 1) (k + 1)) := by
                intro ac2 h2; exact HRF.out.slash hltl (by rw [eg]; exact h47) ac2 (by rw [h2, htl])
              have HTE := Lib.hid ht
              clear htl hd ht hq h47 eg
              rcases hdc with rfl | rfl | rfl
              · have HN : Hid (RefAt Q.data.toList all (acc ++ [t.data.toList]) (k + 1) (k + 1)) := HNX.out _ (step_zero HD.out.symm).symm
                go_wp2_with fail
                rw [← HTE.out]
                refine (refDots_as t _ _ (by unfold maxLen; omega) HD.out).mono ?_
                rintro e wa ⟨rfl, hba⟩
                have HRA : Hid (TRow wa w.heap.size u3 acc) := HR.out.below hba
                have HBA : Hid (Below w.heap.size w wa) := HB.out.trans (hba.mono HB.out.size)
                have hsa := HBA.out.size
                clear hba
                go_wp2_with (at_builtin; refine wpList_append_own _ rfl (.tmp 45) (.tmp 47) 26 rfl w.heap.size 9 i0 (.string ⟨#[]⟩) 1 16 Tryz.underlying26 hi hz0 hz1 hz2 rfl (by decide) _ _ _ rfl (World.ownsRow.alloc (w := wa) HRA.out _) ⟨wa.heap.size, 0, none⟩ 1 1 [.string t] rfl rfl ?c1b ?c2b ?c3b ?c4b ?c5b ?_)
                try (case c1b => exact cell_one_new _ _ _)
                case c2b => first | (intro u hu; simp at hu; subst hu; rfl) | rfl
                case c3b => unfold maxLen; omega
                case c4b => omega
                case c5b => first | (simp; omega) | omega
                intro v1 w1 hown hgrow _
                have HR1 : Hid (TRow w1 w.heap.size v1 (acc ++ [t.data.toList])) := TRow.more hown
                have HB1 : Hid (Below w.heap.size w w1) := Below.grown (HBA.out.alloc HBA.out.size _) hgrow (by simp; omega) (fun k hk => (World.ownsRow.lt HRA.out k hk).1)
                clear hown hgrow
                go_wp2
                go_roundw
                case rel => exact ⟨k + 1, k + 1, _, by go_num, by go_num, HN.out, HR1.out, HB1.out⟩
                case measure => simp [intOf]; omega
              · have HN : Hid (RefAt Q.data.toList all acc (k + 1) (k + 1)) := HNX.out _ (by rw [step_one HD.out.symm]; simp)
                go_wp2_with fail
                rw [← HTE.out]
                refine (refDots_as t _ _ (by unfold maxLen; omega) HD.out).mono ?_
                rintro e wa ⟨rfl, hba⟩
                have HRA : Hid (TRow wa w.heap.size u3 acc) := HR.out.below hba
                have HBA : Hid (Below w.heap.size w wa) := HB.out.trans (hba.mono HB.out.size)
                have hsa := HBA.out.size
                clear hba
                go_wp2
                go_roundw
                case rel => exact ⟨k + 1, k + 1, _, by go_num, by go_num, HN.out, HRA.out, HBA.out⟩
                case measure => simp [intOf]; omega
              · obtain ⟨B6, cap6, eu6, hlc6, hcm6, hcl6, _⟩ := HR.out.view
                have HCL6 := Lib.hid hcl6
                clear hcl6
                unfold maxLen at hcm6
                subst eu6
                go_wp2_with fail
                rw [← HTE.out]
                refine (refDots_as t _ _ (by unfold maxLen; omega) HD.out).mono ?_
                rintro e wa ⟨rfl, hba⟩
                have HRA : Hid (TRow wa w.heap.size (.slice B6 acc.length cap6) acc) := HR.out.below hba
                have HBA : Hid (Below w.heap.size w wa) := HB.out.trans (hba.mono HB.out.size)
                have hsa := HBA.out.size
                clear hba
                by_cases hne : 0 < acc.length
                · obtain ⟨ad6, e6, _⟩ := HCL6.out 0 hne
                  subst e6
                  have HDD : Hid (TRow wa w.heap.size (.slice (some ad6) (acc.length - 1) cap6) acc.dropLast) := by
                    obtain ⟨B7, cap7, e7, _, _, _, htk7⟩ := HRA.out.view
                    injection e7 with e71 e72 e73
                    subst e71 e73
                    have := htk7 (acc.length - 1) (by omega)
                    rw [← List.dropLast_eq_take] at this
                    exact this
                  have HS2 : Hid (stepL acc t.data.toList false = acc.dropLast ++ (if false then [[]] else [])) := step_two HD.out.symm
                  obtain ⟨dl, hdl⟩ : ∃ dl, dl = acc.dropLast := ⟨_, rfl⟩
                  have hdn : dl.length ≤ acc.length := by rw [hdl]; simp
                  rw [← hdl] at HDD HS2
                  clear hdl
                  have hsub : IntKind.i64.wrap ((acc.length : Int) - 1) = ((acc.length - 1 : Nat) : Int) := by rw [IntWalk.i64_in _ (by omega)]; omega
                  have HN : Hid (RefAt Q.data.toList all dl (k + 1) (k + 1)) := HNX.out _ (by rw [HS2.out]; simp)
                  go_wp2
                  go_roundw
                  case rel => exact ⟨k + 1, k + 1, _, by go_num, by go_num, HN.out, HDD.out, HBA.out⟩
                  case measure => simp [intOf]; omega
                · have hnil : acc = [] := List.length_eq_zero_iff.1 (by omega)
                  subst hnil
                  have HDD : Hid (TRow wa w.heap.size (.slice B6 0 cap6) []) := HRA.out
                  clear hne
                  have HN : Hid (RefAt Q.data.toList all ([] : List (List UInt8)) (k + 1) (k + 1)) := HNX.out _ (by rw [step_two HD.out.symm]; rfl)
                  go_wp2
                  go_roundw
                  case rel => exact ⟨k + 1, k + 1, _, by go_num, by go_num, HN.out, HDD.out, HBA.out⟩
                  case measure => simp [intOf]; omega
            · have hq2 : ((Q[k].toNat : Int) != 47) = true := by rw [hq]; simpa using h47
              have HN : Hid (RefAt Q.data.toList all acc f (k + 1)) := HRF.out.skip hltl (by rw [eg]; exact h47)
              clear hq h47 eg
              go_wp2
              go_roundw
              case rel => exact ⟨f, k + 1, acc, rfl, by go_num, HN.out, HR.out, HB.out⟩
              case measure => simp [intOf]; omega
          · have hke : ((k : Int) == (Q.size : Int)) = true := by rw [beq_iff_eq]; omega
            obtain ⟨t, ht⟩ : ∃ t, t = Q.extract f k := ⟨_, rfl⟩
            have htl : t.data.toList = (Q.data.toList.drop f).take (k - f) := by rw [ht]; exact ext_data Q f k
            have htz : t.size ≤ 100001 := by
              have := congrArg List.length htl
              rw [List.length_take, List.length_drop, HQL.out] at this
              simp at this; omega
            obtain ⟨d, hd⟩ : ∃ d, d = dotsL t.data.toList := ⟨_, rfl⟩
            have hdc := dots_cases t.data.toList
            rw [← hd] at hdc
            have HD := Lib.hid hd
            have HNX : Hid (∀ ac2, ac2 = stepL acc t.data.toList true → RefAt Q.data.toList all ac2 (k + 1) (k + 1)) := by
              intro ac2 h2; exact HRF.out.stop (by rw [HQL.out]; omega) ac2 (by rw [h2, htl])
            have HTE := Lib.hid ht
            clear htl hd ht
            rcases hdc with rfl | rfl | rfl
            · have HN : Hid (RefAt Q.data.toList all (acc ++ [t.data.toList]) (k + 1) (k + 1)) := HNX.out _ (step_zero HD.out.symm).symm
              go_wp2_with fail
              rw [← HTE.out]
              refine (refDots_as t _ _ (by unfold maxLen; omega) HD.out).mono ?_
              rintro e wa ⟨rfl, hba⟩
              have HRA : Hid (TRow wa w.heap.size u3 acc) := HR.out.below hba
              have HBA : Hid (Below w.heap.size w wa) := HB.out.trans (hba.mono HB.out.size)
              have hsa := HBA.out.size
              clear hba
              go_wp2_with (at_builtin; refine wpList_append_own _ rfl (.tmp 45) (.tmp 47) 26 rfl w.heap.size 9 i0 (.string ⟨#[]⟩) 1 16 Tryz.underlying26 hi hz0 hz1 hz2 rfl (by decide) _ _ _ rfl (World.ownsRow.alloc (w := wa) HRA.out _) ⟨wa.heap.size, 0, none⟩ 1 1 [.string t] rfl rfl ?c1c ?c2c ?c3c ?c4c ?c5c ?_)
              try (case c1c => exact cell_one_new _ _ _)
              case c2c => first | (intro u hu; simp at hu; subst hu; rfl) | rfl
              case c3c => unfold maxLen; omega
              case c4c => omega
              case c5c => first | (simp; omega) | omega
              intro v1 w1 hown hgrow _
              have HR1 : Hid (TRow w1 w.heap.size v1 (acc ++ [t.data.toList])) := TRow.more hown
              have HB1 : Hid (Below w.heap.size w w1) := Below.grown (HBA.out.alloc HBA.out.size _) hgrow (by simp; omega) (fun k hk => (World.ownsRow.lt HRA.out k hk).1)
              clear hown hgrow
              go_wp2
              go_roundw
              case rel => exact ⟨k + 1, k + 1, _, by go_num, by go_num, HN.out, HR1.out, HB1.out⟩
              case measure => simp [intOf]; omega
            · have HN : Hid (RefAt Q.data.toList all (acc ++ [(ByteArray.mk #[]).data.toList]) (k + 1) (k + 1)) := HNX.out _ (by rw [step_one HD.out.symm]; rfl)
              go_wp2_with fail
              rw [← HTE.out]
              refine (refDots_as t _ _ (by unfold maxLen; omega) HD.out).mono ?_
              rintro e wa ⟨rfl, hba⟩
              have HRA : Hid (TRow wa w.heap.size u3 acc) := HR.out.below hba
              have HBA : Hid (Below w.heap.size w wa) := HB.out.trans (hba.mono HB.out.size)
              have hsa := HBA.out.size
              clear hba
              go_wp2_with (at_builtin; refine wpList_append_own _ rfl (.tmp 65) (.tmp 66) 26 rfl w.heap.size 9 i0 (.string ⟨#[]⟩) 1 16 Tryz.underlying26 hi hz0 hz1 hz2 rfl (by decide) _ _ _ rfl (World.ownsRow.alloc (w := wa) HRA.out _) ⟨wa.heap.size, 0, none⟩ 1 1 [.string (ByteArray.mk #[])] rfl rfl ?c1d ?c2d ?c3d ?c4d ?c5d ?_)
              try (case c1d => exact cell_one_new _ _ _)
              case c2d => first | (intro u hu; simp at hu; subst hu; rfl) | rfl
              case c3d => unfold maxLen; omega
              case c4d => omega
              case c5d => first | (simp; omega) | omega
              intro v1 w1 hown hgrow _
              have HR1 : Hid (TRow w1 w.heap.size v1 (acc ++ [(ByteArray.mk #[]).data.toList])) := TRow.more hown
              have HB1 : Hid (Below w.heap.size w w1) := Below.grown (HBA.out.alloc HBA.out.size _) hgrow (by simp; omega) (fun k hk => (World.ownsRow.lt HRA.out k hk).1)
              clear hown hgrow
              go_wp2
              go_roundw
              case rel => exact ⟨k + 1, k + 1, _, by go_num, by go_num, HN.out, HR1.out, HB1.out⟩
              case measure => simp [intOf]; omega
            · obtain ⟨B6, cap6, eu6, hlc6, hcm6, hcl6, _⟩ := HR.out.view
              have HCL6 := Lib.hid hcl6
              clear hcl6
              unfold maxLen at hcm6
              subst eu6
              go_wp2_with fail
              rw [← HTE.out]
              refine (refDots_as t _ _ (by unfold maxLen; omega) HD.out).mono ?_
              rintro e wa ⟨rfl, hba⟩
              have HRA : Hid (TRow wa w.heap.size (.slice B6 acc.length cap6) acc) := HR.out.below hba
              have HBA : Hid (Below w.heap.size w wa) := HB.out.trans (hba.mono HB.out.size)
              have hsa := HBA.out.size
              clear hba
              by_cases hne : 0 < acc.length
              · obtain ⟨ad6, e6, _⟩ := HCL6.out 0 hne
                subst e6
                have HDD : Hid (TRow wa w.heap.size (.slice (some ad6) (acc.length - 1) cap6) acc.dropLast) := by
                  obtain ⟨B7, cap7, e7, _, _, _, htk7⟩ := HRA.out.view
                  injection e7 with e71 e72 e73
                  subst e71 e73
                  have := htk7 (acc.length - 1) (by omega)
                  rw [← List.dropLast_eq_take] at this
                  exact this
                have HS2 : Hid (stepL acc t.data.toList true = acc.dropLast ++ (if true then [[]] else [])) := step_two HD.out.symm
                obtain ⟨dl, hdl⟩ : ∃ dl, dl = acc.dropLast := ⟨_, rfl⟩
                have hdn : dl.length ≤ acc.length := by rw [hdl]; simp
                rw [← hdl] at HDD HS2
                clear hdl
                have hsub : IntKind.i64.wrap ((acc.length : Int) - 1) = ((acc.length - 1 : Nat) : Int) := by rw [IntWalk.i64_in _ (by omega)]; omega
                have HN : Hid (RefAt Q.data.toList all (dl ++ [(ByteArray.mk #[]).data.toList]) (k + 1) (k + 1)) := HNX.out _ HS2.out.symm
                go_wp2_with (at_builtin; refine wpList_append_own _ rfl (.tmp 65) (.tmp 66) 26 rfl w.heap.size 9 i0 (.string ⟨#[]⟩) 1 16 Tryz.underlying26 hi hz0 hz1 hz2 rfl (by decide) _ _ _ rfl (World.ownsRow.alloc (w := wa) HDD.out _) ⟨wa.heap.size, 0, none⟩ 1 1 [.string (ByteArray.mk #[])] rfl rfl ?c1e ?c2e ?c3e ?c4e ?c5e ?_)
                try (case c1e => exact cell_one_new _ _ _)
                case c2e => first | (intro u hu; simp at hu; subst hu; rfl) | rfl
                case c3e => unfold maxLen; omega
                case c4e => omega
                case c5e => first | (simp; omega) | omega
                intro v1 w1 hown hgrow _
                have HR1 : Hid (TRow w1 w.heap.size v1 (dl ++ [(ByteArray.mk #[]).data.toList])) := TRow.more hown
                have HB1 : Hid (Below w.heap.size w w1) := Below.grown (HBA.out.alloc HBA.out.size _) hgrow (by simp; omega) (fun k hk => (World.ownsRow.lt HDD.out k hk).1)
                clear hown hgrow
                go_wp2
                go_roundw
                case rel => exact ⟨k + 1, k + 1, _, by go_num, by go_num, HN.out, HR1.out, HB1.out⟩
                case measure => simp [intOf]; omega
              · have hnil : acc = [] := List.length_eq_zero_iff.1 (by omega)
                subst hnil
                have HDD : Hid (TRow wa w.heap.size (.slice B6 0 cap6) []) := HRA.out
                clear hne
                have HN : Hid (RefAt Q.data.toList all (([] : List (List UInt8)) ++ [(ByteArray.mk #[]).data.toList]) (k + 1) (k + 1)) := HNX.out _ (by rw [step_two HD.out.symm]; rfl)
                go_wp2_with (at_builtin; refine wpList_append_own _ rfl (.tmp 65) (.tmp 66) 26 rfl w.heap.size 9 i0 (.string ⟨#[]⟩) 1 16 Tryz.underlying26 hi hz0 hz1 hz2 rfl (by decide) _ _ _ rfl (World.ownsRow.alloc (w := wa) HDD.out _) ⟨wa.heap.size, 0, none⟩ 1 1 [.string (ByteArray.mk #[])] rfl rfl ?c1f ?c2f ?c3f ?c4f ?c5f ?_)
                try (case c1f => exact cell_one_new _ _ _)
                case c2f => first | (intro u hu; simp at hu; subst hu; rfl) | rfl
                case c3f => unfold maxLen; omega
                case c4f => omega
                case c5f => first | (simp; omega) | omega
                intro v1 w1 hown hgrow _
                have HR1 : Hid (TRow w1 w.heap.size v1 (([] : List (List UInt8)) ++ [(ByteArray.mk #[]).data.toList])) := TRow.more hown
                have HB1 : Hid (Below w.heap.size w w1) := Below.grown (HBA.out.alloc HBA.out.size _) hgrow (by simp; omega) (fun k hk => (World.ownsRow.lt HDD.out k hk).1)
                clear hown hgrow
                go_wp2
                go_roundw
                case rel => exact ⟨k + 1, k + 1, _, by go_num, by go_num, HN.out, HR1.out, HB1.out⟩
                case measure => simp [intOf]; omega
        · obtain rfl : k = Q.size + 1 := by omega
          have hfe : f = Q.size + 1 := by have := HRF.out.fin (by rw [HQL.out]); rw [HQL.out] at this; exact this
          have hae : all = acc := by have := HRF.out.eqn; rw [if_neg (by rw [HQL.out]; omega)] at this; exact this
          subst hae
          obtain ⟨B6, cap6, eu6, hlc6, hcm6, hcl6, _⟩ := HR.out.view
          unfold maxLen at hcm6
          subst eu6
          have HC6 := Lib.hid hcl6
          clear hcl6 hfe HRF
          go_wp2
          go_loop [8, 9] (fun q i => ∃ (R : ByteArray) (m : Nat), q = .string R ∧ i = .int .i64 m ∧ m ≤ all.length ∧ R.data.toList = joinS (all.take m)) (fun _ i => all.length - (intOf i).toNat)
          case atStart => exact ⟨⟨#[]⟩, 0, rfl, rfl, Nat.zero_le _, rfl⟩
          case round =>
            obtain ⟨R, m, rfl, rfl, hm, hR⟩ := hrel
            have hRz : R.size ≤ 100001 := by
              have h1 := joinS_take_len all m
              rw [← hR] at h1
              have h2 := HJL.out
              have h3 : R.data.toList.length = R.size := by simp
              omega
            have HRR := Lib.hid hR
            clear hR
            by_cases hlt2 : m < all.length
            · obtain ⟨ad, ea, hc⟩ := HC6.out m hlt2
              have hml : all[m].length ≤ 100001 := Nat.le_trans (mem_joinS_len (List.getElem_mem hlt2)) HJL.out
              obtain ⟨y, hy⟩ : ∃ y, y = mk all[m] := ⟨_, rfl⟩
              have hyz : y.size ≤ 100001 := by rw [hy, mk_size]; exact hml
              rw [← hy] at hc
              have HQ2 : Hid ((R ++ ByteArray.mk #[47] ++ y).data.toList = joinS (all.take (m + 1))) := by
                show _ = _
                rw [List.take_succ_eq_append_getElem hlt2, joinS_snoc, ba_app2, ba_app2, HRR.out, hy, mk_data]; simp
              clear hy hml
              subst ea
              go_wp2
              go_round
              case rel => exact ⟨_, m + 1, rfl, by go_num, by omega, HQ2.out⟩
              case measure => simp [intOf]; omega
            · obtain rfl : m = all.length := by omega
              have hRC : R = C := by
                rw [HCJ.out]
                have := HRR.out
                rw [List.take_of_length_le (Nat.le_refl _)] at this
                rw [← this]; exact (mk_eq R).symm
              have hne2 : R.toList.isEmpty = false := ba_notEmpty (by
                intro h
                have h1 := HRR.out
                rw [List.take_of_length_le (Nat.le_refl _), h] at h1
                have h2 := joinS_cnt all
                rw [← h1] at h2
                exact HNE.out (List.length_eq_zero_iff.1 (by simpa using h2)))
              have HRC := Lib.hid hRC
              clear hRC
              go_wp2
              go_ret
              exact ⟨ret_string HRC.out, HB.out⟩
end Go.Proofs.YtlkneapidmdpbaaGreatDoor

namespace Go.Proofs.YtlkneapidmdpbaaGreatDoor
open Go.RowKit

theorem refClean_as (p t : ByteArray) (w : World) (hp : p.size ≤ 100000) (ht : t = mk (cleanL p.data.toList)) :
    Calls Tryz.prog 132 #[.string p] w fun e w' => e = .returned (.string t) ∧ Below w.heap.size w w' := by rw [ht]; exact refClean_any p w hp
theorem path_no_head {l : List UInt8} (h : ¬ l.head? = some 47) : pathL l = false := by
  cases hp : pathL l
  · rfl
  · exact absurd (path_head hp) h
theorem path_no_clean {l : List UInt8} (h : ¬ cleanL l = l) : pathL l = false := by
  cases hp : pathL l
  · rfl
  · exact absurd (path_parts hp).2 h
theorem path_is {l : List UInt8} (h : cleanL l = l) : pathL l = freeL noPathL l := by unfold pathL; rw [h]; simp
theorem query_no {l : List UInt8} (h0 : l ≠ []) (h : ¬ l.head? = some 63) : queryL l = false := by
  cases hq : queryL l
  · rfl
  · rcases (query_parts hq).1 with e | e
    · exact absurd e h0
    · exact absurd e h
theorem query_is {l : List UInt8} (h : l = [] ∨ l.head? = some 63) : queryL l = freeL noQueryL l := by
  rcases h with rfl | h
  · rfl
  · cases l with
    | nil => cases h
    | cons x r => simp at h; subst h; simp [queryL]
theorem head_byte {s : ByteArray} (h0 : 0 < s.size) : s.data.toList.head? = some s[0] := by
  rw [List.head?_eq_getElem?, List.getElem?_eq_getElem (by simpa using h0)]; rfl
theorem ne_byte (c : UInt8) (k : UInt8) : ((c.toNat : Int) != (k.toNat : Int)) = decide (c ≠ k) := by
  rw [Bool.eq_iff_iff, bne_iff_ne, decide_eq_true_eq]
  constructor
  · rintro h rfl; exact h rfl
  · intro h e; exact h (UInt8.toNat_inj.1 (by omega))
theorem ne_of_size {s : ByteArray} (h : 0 < s.size) : s.data.toList ≠ [] := by
  intro e
  have : s.data.toList.length = 0 := by rw [e]; rfl
  rw [show s.data.toList.length = s.size by simp] at this
  omega
theorem nil_of_size {s : ByteArray} (h : s.size = 0) : s.data.toList = [] := List.length_eq_zero_iff.1 (by simpa using h)

set_option maxRecDepth 100000 in
set_option maxHeartbeats 8000000 in
theorem refFits_any (s h : ByteArray) (p : Int) (pa q : ByteArray) (w : World) (hpa : pa.size ≤ 100000) (hq : q.size ≤ 100000) :
    Calls Tryz.prog 173 #[urlV s h p pa q] w fun e w' => e = .returned (.bool (pathL pa.data.toList && queryL q.data.toList)) ∧ Below w.heap.size w w' := by
  have hb : Below w.heap.size w (w.alloc (.cells #[.string s, .string h, .int .i64 p, .string pa, .string q] 84)) := (Below.refl _ _).alloc (Nat.le_refl _) _
  have ho := UrlAt.new w s h p pa q 84
  have HB := Lib.hid hb
  clear hb
  unfold urlV
  have hne : Nonempty (Held (fun W => UrlAt W w.heap.size s h p pa q)) := ⟨⟨_, ho⟩⟩
  have hx0 : ∀ z : Held (fun W => UrlAt W w.heap.size s h p pa q), z.w.cell? ⟨w.heap.size, 0, none⟩ = some (.string s) := fun z => z.h.c0
  have hx1 : ∀ z : Held (fun W => UrlAt W w.heap.size s h p pa q), z.w.cell? ⟨w.heap.size, 1, none⟩ = some (.string h) := fun z => z.h.c1
  have hx2 : ∀ z : Held (fun W => UrlAt W w.heap.size s h p pa q), z.w.cell? ⟨w.heap.size, 2, none⟩ = some (.int .i64 p) := fun z => z.h.c2
  have hx3 : ∀ z : Held (fun W => UrlAt W w.heap.size s h p pa q), z.w.cell? ⟨w.heap.size, 3, none⟩ = some (.string pa) := fun z => z.h.c3
  have hx4 : ∀ z : Held (fun W => UrlAt W w.heap.size s h p pa q), z.w.cell? ⟨w.heap.size, 4, none⟩ = some (.string q) := fun z => z.h.c4
  rcases Nat.eq_zero_or_pos pa.size with hz | hp0
  · have he1 : pa.toList.isEmpty = true := ba_isEmpty (nil_of_size hz)
    have HPF : Hid (pathL pa.data.toList = false) := path_no_head (by rw [nil_of_size hz]; simp)
    clear hz
    go_enter Tryz.func173, Tryz.ntmps173
    go_wp2_with fail
    refine mix_start (fun W => UrlAt W w.heap.size s h p pa q) (by kernel_rfl) ?_
    refine mix_seg [0, 1, 2, 3, 4, 5, 6, 7, 8, 9, 10, 11, 13, 14] (by kernel_rfl) ho.drew ?_
    simp only [segOf, pickOps, pickOp]
    repeat (go_big_quiet_step (fail))
    refine wpQuiet_nil ?_
    refine mix_run 12 (by kernel_rfl) ?_
    simp only [segOf, pickOps, pickOp]
    go_wp2_with fail
    refine MixPost.normal ho.drew ?_
    refine mix_seg [15, 16, 17, 18, 19, 20, 21, 22, 23, 24, 25, 26, 27] (by kernel_rfl) ho.drew ?_
    simp only [segOf, pickOps, pickOp]
    repeat (go_big_quiet_step (fail))
    refine wpQuiet_nil ?_
    refine mix_done (by kernel_rfl) ?_
    go_wp2
    go_ret
    exact ⟨ret_bool (by rw [HPF.out]; rfl), HB.out.drew⟩
  have he1 : pa.toList.isEmpty = false := ba_notEmpty (ne_of_size hp0)
  have hhp := head_byte hp0
  have hnb := ne_byte pa[0] 47
  by_cases h47 : pa[0] = 47
  rotate_left
  · have HPF : Hid (pathL pa.data.toList = false) := path_no_head (by rw [hhp]; simpa using h47)
    have hn47 : ((pa[0].toNat : Int) != 47) = true := by
      have : ((pa[0].toNat : Int) != 47) = decide (pa[0] ≠ 47) := hnb
      rw [this]; simpa using h47
    clear h47 hnb hhp
    go_enter Tryz.func173, Tryz.ntmps173
    go_wp2_with fail
    refine mix_start (fun W => UrlAt W w.heap.size s h p pa q) (by kernel_rfl) ?_
    refine mix_seg [0, 1, 2, 3, 4, 5, 6, 7, 8, 9, 10, 11, 13, 14] (by kernel_rfl) ho.drew ?_
    simp only [segOf, pickOps, pickOp]
    repeat (go_big_quiet_step (fail))
    refine wpQuiet_nil ?_
    refine mix_run 12 (by kernel_rfl) ?_
    simp only [segOf, pickOps, pickOp]
    go_wp2_with fail
    refine MixPost.normal ho.drew ?_
    refine mix_seg [15, 16, 17, 18, 19, 20, 21, 22, 23, 24, 25, 26, 27] (by kernel_rfl) ho.drew ?_
    simp only [segOf, pickOps, pickOp]
    repeat (go_big_quiet_step (fail))
    refine wpQuiet_nil ?_
    refine mix_done (by kernel_rfl) ?_
    go_wp2
    go_ret
    exact ⟨ret_bool (by rw [HPF.out]; rfl), HB.out.drew⟩
  have hn47 : ((pa[0].toNat : Int) != 47) = false := by
    have : ((pa[0].toNat : Int) != 47) = decide (pa[0] ≠ 47) := hnb
    rw [this]; simpa using h47
  clear h47 hnb hhp
  obtain ⟨t, ht⟩ : ∃ t, t = mk (cleanL pa.data.toList) := ⟨_, rfl⟩
  have HT := Lib.hid ht
  have htq : (t.toList == pa.toList) = decide (cleanL pa.data.toList = pa.data.toList) := by
    rw [ByteArray.toList_eq, ByteArray.toList_eq, ht, mk_data, Bool.eq_iff_iff, beq_iff_eq, decide_eq_true_eq]
  clear ht
  by_cases hcl : cleanL pa.data.toList = pa.data.toList
  rotate_left
  · have HPF : Hid (pathL pa.data.toList = false) := path_no_clean hcl
    have htn : (t.toList == pa.toList) = false := by rw [htq]; simpa using hcl
    clear htq hcl
    go_enter Tryz.func173, Tryz.ntmps173
    go_wp2_with fail
    refine mix_start (fun W => UrlAt W w.heap.size s h p pa q) (by kernel_rfl) ?_
    refine mix_seg [0, 1, 2, 3, 4, 5, 6, 7, 8, 9, 10, 11, 13, 14] (by kernel_rfl) ho.drew ?_
    simp only [segOf, pickOps, pickOp]
    repeat (go_big_quiet_step (fail))
    refine wpQuiet_nil ?_
    refine mix_run 12 (by kernel_rfl) ?_
    simp only [segOf, pickOps, pickOp]
    go_wp2_with fail
    refine (refClean_as pa t _ hpa HT.out).mono ?_
    rintro e w1 ⟨rfl, hb1⟩
    have ho1 : UrlAt w1 w.heap.size s h p pa q := ho.drew.below hb1 (by simp)
    have HB1 : Hid (Below w.heap.size w w1) := HB.out.drew.trans (hb1.mono HB.out.size)
    clear hb1
    go_wp2_with fail
    refine MixPost.normal ho1 ?_
    refine mix_seg [15, 16, 17, 18, 19, 20, 21, 22, 23, 24, 25, 26, 27] (by kernel_rfl) ho1 ?_
    simp only [segOf, pickOps, pickOp]
    repeat (go_big_quiet_step (fail))
    refine wpQuiet_nil ?_
    refine mix_done (by kernel_rfl) ?_
    go_wp2
    go_ret
    exact ⟨ret_bool (by rw [HPF.out]; rfl), HB1.out⟩
  have HPI : Hid (pathL pa.data.toList = freeL noPathL pa.data.toList) := path_is hcl
  have htn : (t.toList == pa.toList) = true := by rw [htq]; simpa using hcl
  clear htq hcl
  rcases Nat.eq_zero_or_pos q.size with hz | hq0
  · have he2 : q.toList.isEmpty = true := ba_isEmpty (nil_of_size hz)
    have HQI : Hid (queryL q.data.toList = freeL noQueryL q.data.toList) := query_is (.inl (nil_of_size hz))
    have HQS : Hid ((q.data.toList.take 1).all (freeB noQueryL) = true) := by show _ = _; rw [nil_of_size hz]; rfl
    clear hz
    go_enter Tryz.func173, Tryz.ntmps173
    go_wp2_with fail
    refine mix_start (fun W => UrlAt W w.heap.size s h p pa q) (by kernel_rfl) ?_
    refine mix_seg [0, 1, 2, 3, 4, 5, 6, 7, 8, 9, 10, 11, 13, 14] (by kernel_rfl) ho.drew ?_
    simp only [segOf, pickOps, pickOp]
    repeat (go_big_quiet_step (fail))
    refine wpQuiet_nil ?_
    refine mix_run 12 (by kernel_rfl) ?_
    simp only [segOf, pickOps, pickOp]
    go_wp2_with fail
    refine (refClean_as pa t _ hpa HT.out).mono ?_
    rintro e w1 ⟨rfl, hb1⟩
    have ho1 : UrlAt w1 w.heap.size s h p pa q := ho.drew.below hb1 (by simp)
    have HB1 : Hid (Below w.heap.size w w1) := HB.out.drew.trans (hb1.mono HB.out.size)
    clear hb1
    go_wp2_with fail
    refine MixPost.normal ho1 ?_
    refine mix_seg [15, 16, 17, 18, 19, 20, 21, 22, 23, 24, 25, 26, 27] (by kernel_rfl) ho1 ?_
    simp only [segOf, pickOps, pickOp]
    repeat (go_big_quiet_step (fail))
    refine wpQuiet_nil ?_
    refine mix_done (by kernel_rfl) ?_
    obtain ⟨a0, a1, a2, a3, a4⟩ := ho1
    go_wp2
    go_loop [3] (fun i => ∃ k : Nat, k ≤ pa.size ∧ i = .int .i64 k ∧ (pa.data.toList.take k).all (freeB noPathL) = true) (fun i => pa.size - (intOf i).toNat)
    case atStart => exact ⟨0, Nat.zero_le _, rfl, rfl⟩
    case round =>
      obtain ⟨k, hk, rfl, ha⟩ := hrel
      have HA := Lib.hid ha
      clear ha
      by_cases hlt : k < pa.size
      · cases hc : freeB noPathL pa[k]
        · have HC := Lib.hid hc
          clear hc
          go_wp2_with fail
          refine (pathByte_any _ _).mono ?_
          rintro e w' ⟨rfl, rfl⟩
          rw [HC.out]
          go_wp2
          go_ret
          exact ⟨ret_bool (by rw [HPI.out, freeL, Lk.all_no hlt HC.out]; rfl), HB1.out⟩
        · have HC := Lib.hid hc
          clear hc
          go_wp2_with fail
          refine (pathByte_any _ _).mono ?_
          rintro e w' ⟨rfl, rfl⟩
          rw [HC.out]
          go_wp2
          go_round
          case rel => exact ⟨k + 1, by omega, by go_num, Lk.all_step hlt HA.out HC.out⟩
          case measure => simp [intOf]; omega
      · have HPT : Hid (pathL pa.data.toList = true) := by
          have := HA.out
          rw [Lk.take_all pa k (by omega)] at this
          show _ = _
          rw [HPI.out, freeL, this]
        go_wp2
        go_loop [4] (fun i => ∃ k : Nat, 1 ≤ k ∧ (k ≤ q.size ∨ k = 1) ∧ i = .int .i64 k ∧ (q.data.toList.take k).all (freeB noQueryL) = true) (fun i => q.size - (intOf i).toNat)
        case atStart => exact ⟨1, Nat.le_refl _, .inr rfl, rfl, HQS.out⟩
        case round =>
          obtain ⟨k, hk1, hk2, rfl, ha⟩ := hrel
          have HA2 := Lib.hid ha
          clear ha
          by_cases hlt2 : k < q.size
          · cases hc : freeB noQueryL q[k]
            · have HC := Lib.hid hc
              clear hc
              go_wp2_with fail
              refine (queryByte_any _ _).mono ?_
              rintro e w' ⟨rfl, rfl⟩
              rw [HC.out]
              go_wp2
              go_ret
              exact ⟨ret_bool (by rw [HQI.out, freeL, Lk.all_no hlt2 HC.out]; simp), HB1.out⟩
            · have HC := Lib.hid hc
              clear hc
              go_wp2_with fail
              refine (queryByte_any _ _).mono ?_
              rintro e w' ⟨rfl, rfl⟩
              rw [HC.out]
              go_wp2
              go_round
              case rel => exact ⟨k + 1, by omega, .inl (by omega), by go_num, Lk.all_step hlt2 HA2.out HC.out⟩
              case measure => simp [intOf]; omega
          · have HQT : Hid (queryL q.data.toList = true) := by
              have := HA2.out
              rw [Lk.take_all q k (by omega)] at this
              show _ = _
              rw [HQI.out, freeL, this]
            go_wp2
            go_ret
            exact ⟨ret_bool (by rw [HPT.out, HQT.out]; rfl), HB1.out⟩
  have he2 : q.toList.isEmpty = false := ba_notEmpty (ne_of_size hq0)
  have hhq := head_byte hq0
  have hnq := ne_byte q[0] 63
  by_cases h63 : q[0] = 63
  rotate_left
  · have HQF : Hid (queryL q.data.toList = false) := query_no (ne_of_size hq0) (by rw [hhq]; simpa using h63)
    have hn63 : ((q[0].toNat : Int) != 63) = true := by
      have : ((q[0].toNat : Int) != 63) = decide (q[0] ≠ 63) := hnq
      rw [this]; simpa using h63
    clear h63 hnq hhq
    go_enter Tryz.func173, Tryz.ntmps173
    go_wp2_with fail
    refine mix_start (fun W => UrlAt W w.heap.size s h p pa q) (by kernel_rfl) ?_
    refine mix_seg [0, 1, 2, 3, 4, 5, 6, 7, 8, 9, 10, 11, 13, 14] (by kernel_rfl) ho.drew ?_
    simp only [segOf, pickOps, pickOp]
    repeat (go_big_quiet_step (fail))
    refine wpQuiet_nil ?_
    refine mix_run 12 (by kernel_rfl) ?_
    simp only [segOf, pickOps, pickOp]
    go_wp2_with fail
    refine (refClean_as pa t _ hpa HT.out).mono ?_
    rintro e w1 ⟨rfl, hb1⟩
    have ho1 : UrlAt w1 w.heap.size s h p pa q := ho.drew.below hb1 (by simp)
    have HB1 : Hid (Below w.heap.size w w1) := HB.out.drew.trans (hb1.mono HB.out.size)
    clear hb1
    go_wp2_with fail
    refine MixPost.normal ho1 ?_
    refine mix_seg [15, 16, 17, 18, 19, 20, 21, 22, 23, 24, 25, 26, 27] (by kernel_rfl) ho1 ?_
    simp only [segOf, pickOps, pickOp]
    repeat (go_big_quiet_step (fail))
    refine wpQuiet_nil ?_
    refine mix_done (by kernel_rfl) ?_
    go_wp2
    go_ret
    exact ⟨ret_bool (by rw [HQF.out]; simp), HB1.out⟩
  have hn63 : ((q[0].toNat : Int) != 63) = false := by
    have : ((q[0].toNat : Int) != 63) = decide (q[0] ≠ 63) := hnq
    rw [this]; simpa using h63
  have HQI : Hid (queryL q.data.toList = freeL noQueryL q.data.toList) := query_is (.inr (by rw [hhq, h63]))
  have HQS : Hid ((q.data.toList.take 1).all (freeB noQueryL) = true) := by
    show _ = _
    cases hl : q.data.toList with
    | nil => rfl
    | cons x r =>
      rw [hl] at hhq
      simp only [List.head?_cons, Option.some.injEq] at hhq
      rw [hhq, h63]; rfl
  clear h63 hnq hhq
  go_enter Tryz.func173, Tryz.ntmps173
  go_wp2_with fail
  refine mix_start (fun W => UrlAt W w.heap.size s h p pa q) (by kernel_rfl) ?_
  refine mix_seg [0, 1, 2, 3, 4, 5, 6, 7, 8, 9, 10, 11, 13, 14] (by kernel_rfl) ho.drew ?_
  simp only [segOf, pickOps, pickOp]
  repeat (go_big_quiet_step (fail))
  refine wpQuiet_nil ?_
  refine mix_run 12 (by kernel_rfl) ?_
  simp only [segOf, pickOps, pickOp]
  go_wp2_with fail
  refine (refClean_as pa t _ hpa HT.out).mono ?_
  rintro e w1 ⟨rfl, hb1⟩
  have ho1 : UrlAt w1 w.heap.size s h p pa q := ho.drew.below hb1 (by simp)
  have HB1 : Hid (Below w.heap.size w w1) := HB.out.drew.trans (hb1.mono HB.out.size)
  clear hb1
  go_wp2_with fail
  refine MixPost.normal ho1 ?_
  refine mix_seg [15, 16, 17, 18, 19, 20, 21, 22, 23, 24, 25, 26, 27] (by kernel_rfl) ho1 ?_
  simp only [segOf, pickOps, pickOp]
  repeat (go_big_quiet_step (fail))
  refine wpQuiet_nil ?_
  refine mix_done (by kernel_rfl) ?_
  obtain ⟨a0, a1, a2, a3, a4⟩ := ho1
  go_wp2
  go_loop [3] (fun i => ∃ k : Nat, k ≤ pa.size ∧ i = .int .i64 k ∧ (pa.data.toList.take k).all (freeB noPathL) = true) (fun i => pa.size - (intOf i).toNat)
  case atStart => exact ⟨0, Nat.zero_le _, rfl, rfl⟩
  case round =>
    obtain ⟨k, hk, rfl, ha⟩ := hrel
    have HA := Lib.hid ha
    clear ha
    by_cases hlt : k < pa.size
    · cases hc : freeB noPathL pa[k]
      · have HC := Lib.hid hc
        clear hc
        go_wp2_with fail
        refine (pathByte_any _ _).mono ?_
        rintro e w' ⟨rfl, rfl⟩
        rw [HC.out]
        go_wp2
        go_ret
        exact ⟨ret_bool (by rw [HPI.out, freeL, Lk.all_no hlt HC.out]; rfl), HB1.out⟩
      · have HC := Lib.hid hc
        clear hc
        go_wp2_with fail
        refine (pathByte_any _ _).mono ?_
        rintro e w' ⟨rfl, rfl⟩
        rw [HC.out]
        go_wp2
        go_round
        case rel => exact ⟨k + 1, by omega, by go_num, Lk.all_step hlt HA.out HC.out⟩
        case measure => simp [intOf]; omega
    · have HPT : Hid (pathL pa.data.toList = true) := by
        have := HA.out
        rw [Lk.take_all pa k (by omega)] at this
        show _ = _
        rw [HPI.out, freeL, this]
      go_wp2
      go_loop [4] (fun i => ∃ k : Nat, 1 ≤ k ∧ (k ≤ q.size ∨ k = 1) ∧ i = .int .i64 k ∧ (q.data.toList.take k).all (freeB noQueryL) = true) (fun i => q.size - (intOf i).toNat)
      case atStart => exact ⟨1, Nat.le_refl _, .inr rfl, rfl, HQS.out⟩
      case round =>
        obtain ⟨k, hk1, hk2, rfl, ha⟩ := hrel
        have HA2 := Lib.hid ha
        clear ha
        by_cases hlt2 : k < q.size
        · cases hc : freeB noQueryL q[k]
          · have HC := Lib.hid hc
            clear hc
            go_wp2_with fail
            refine (queryByte_any _ _).mono ?_
            rintro e w' ⟨rfl, rfl⟩
            rw [HC.out]
            go_wp2
            go_ret
            exact ⟨ret_bool (by rw [HQI.out, freeL, Lk.all_no hlt2 HC.out]; simp), HB1.out⟩
          · have HC := Lib.hid hc
            clear hc
            go_wp2_with fail
            refine (queryByte_any _ _).mono ?_
            rintro e w' ⟨rfl, rfl⟩
            rw [HC.out]
            go_wp2
            go_round
            case rel => exact ⟨k + 1, by omega, .inl (by omega), by go_num, Lk.all_step hlt2 HA2.out HC.out⟩
            case measure => simp [intOf]; omega
        · have HQT : Hid (queryL q.data.toList = true) := by
            have := HA2.out
            rw [Lk.take_all q k (by omega)] at this
            show _ = _
            rw [HQI.out, freeL, this]
          go_wp2
          go_ret
          exact ⟨ret_bool (by rw [HPT.out, HQT.out]; rfl), HB1.out⟩
end Go.Proofs.YtlkneapidmdpbaaGreatDoor

namespace Go.Proofs.YtlkneapidmdpbaaGreatDoor
open Go.RowKit

theorem refShow_as (s h : ByteArray) (p : Int) (t : ByteArray) (w : World) (hh : h.size ≤ maxLen) (ht : t = mk (showL s.data.toList h.data.toList p)) :
    Calls Tryz.prog 89 #[.agg #[.string s, .string h, .int .i64 p]] w fun e w' => e = .returned (.string t) ∧ Below w.heap.size w w' := by rw [ht]; exact refShow_any s h p w hh
theorem refFits_as (s h : ByteArray) (p : Int) (pa q : ByteArray) (b : Bool) (w : World) (hpa : pa.size ≤ 100000) (hq : q.size ≤ 100000) (hb : b = (pathL pa.data.toList && queryL q.data.toList)) :
    Calls Tryz.prog 173 #[urlV s h p pa q] w fun e w' => e = .returned (.bool b) ∧ Below w.heap.size w w' := by rw [hb]; exact refFits_any s h p pa q w hpa hq
theorem refCheck_as (s h : ByteArray) (p : Int) (b : Bool) (w : World) (hh : h.size ≤ maxLen) (hb : b = checkL s.data.toList h.data.toList p) :
    Calls Tryz.prog 135 #[.agg #[.string s, .string h, .int .i64 p]] w fun e w' => e = .returned (.bool b) ∧ Below w.heap.size w w' := by rw [hb]; exact refCheck_any s h p w hh
theorem ok_bits (s h : ByteArray) (p : Int) (pa q t : ByteArray) (b1 b2 : Bool) (h1 : b1 = checkL s.data.toList h.data.toList p) (h2 : b2 = (pathL pa.data.toList && queryL q.data.toList)) (ht : t = mk (showL s.data.toList h.data.toList p)) :
    (urlOf s h p pa q).ok = (b1 && b2 && decide (t.size + pa.size + q.size ≤ 512)) := by
  have hl : (urlOf s h p pa q).len = t.size + pa.size + q.size := by
    rw [ht, mk_size]; unfold Url.len urlOf; simp
  rw [ok_at, hl, h1, h2, Bool.and_assoc (checkL _ _ _)]

set_option maxRecDepth 100000 in
set_option maxHeartbeats 8000000 in
theorem refTCheck_any (s h : ByteArray) (p : Int) (pa q : ByteArray) (w : World) (hh : h.size ≤ maxLen) (hpa : pa.size ≤ 100000) (hq : q.size ≤ 100000) :
    Calls Tryz.prog 137 #[urlV s h p pa q] w fun e w' => e = .returned (.bool (urlOf s h p pa q).ok) ∧ Below w.heap.size w w' := by
  have hb : Below w.heap.size w (w.alloc (.cells #[.string s, .string h, .int .i64 p, .string pa, .string q] 84)) := (Below.refl _ _).alloc (Nat.le_refl _) _
  have ho := UrlAt.new w s h p pa q 84
  have HB := Lib.hid hb
  clear hb
  obtain ⟨b1, hb1⟩ : ∃ b, b = checkL s.data.toList h.data.toList p := ⟨_, rfl⟩
  obtain ⟨b2, hb2⟩ : ∃ b, b = (pathL pa.data.toList && queryL q.data.toList) := ⟨_, rfl⟩
  obtain ⟨t, ht⟩ : ∃ t, t = mk (showL s.data.toList h.data.toList p) := ⟨_, rfl⟩
  have htz : t.size ≤ 270 := by rw [ht, mk_size]; exact show_len
  have HK := Lib.hid (ok_bits s h p pa q t b1 b2 hb1 hb2 ht)
  have H1 := Lib.hid hb1
  have H2 := Lib.hid hb2
  have HT := Lib.hid ht
  clear hb1 hb2 ht
  unfold urlV
  have hne : Nonempty (Held (fun W => UrlAt W w.heap.size s h p pa q)) := ⟨⟨_, ho⟩⟩
  have hx0 : ∀ z : Held (fun W => UrlAt W w.heap.size s h p pa q), z.w.cell? ⟨w.heap.size, 0, none⟩ = some (.string s) := fun z => z.h.c0
  have hx1 : ∀ z : Held (fun W => UrlAt W w.heap.size s h p pa q), z.w.cell? ⟨w.heap.size, 1, none⟩ = some (.string h) := fun z => z.h.c1
  have hx2 : ∀ z : Held (fun W => UrlAt W w.heap.size s h p pa q), z.w.cell? ⟨w.heap.size, 2, none⟩ = some (.int .i64 p) := fun z => z.h.c2
  have hx3 : ∀ z : Held (fun W => UrlAt W w.heap.size s h p pa q), z.w.cell? ⟨w.heap.size, 3, none⟩ = some (.string pa) := fun z => z.h.c3
  have hx4 : ∀ z : Held (fun W => UrlAt W w.heap.size s h p pa q), z.w.cell? ⟨w.heap.size, 4, none⟩ = some (.string q) := fun z => z.h.c4
  cases b1
  · go_enter Tryz.func137, Tryz.ntmps137
    go_wp2_with fail
    refine mix_start (fun W => UrlAt W w.heap.size s h p pa q) (by kernel_rfl) ?_
    refine mix_seg [0, 1] (by kernel_rfl) ho.drew ?_
    simp only [segOf, pickOps, pickOp]
    repeat (go_big_quiet_step (fail))
    refine wpQuiet_nil ?_
    refine mix_run 2 (by kernel_rfl) ?_
    simp only [segOf, pickOps, pickOp]
    go_wp2_with fail
    refine (refCheck_as s h p _ _ hh H1.out).mono ?_
    rintro e w1 ⟨rfl, hb1⟩
    have ho1 : UrlAt w1 w.heap.size s h p pa q := ho.drew.below hb1 ho.drew.lt
    have HB1 : Hid (Below w.heap.size w w1) := HB.out.drew.trans (hb1.mono HB.out.drew.size)
    clear hb1
    go_wp2_with fail
    refine MixPost.normal ho1 ?_
    refine mix_seg [3, 4, 5, 6, 7, 8, 9, 10, 11, 12, 13, 14, 15, 16] (by kernel_rfl) ho1 ?_
    simp only [segOf, pickOps, pickOp]
    repeat (go_big_quiet_step (fail))
    refine wpQuiet_nil ?_
    refine mix_run 17 (by kernel_rfl) ?_
    simp only [segOf, pickOps, pickOp]
    go_wp2_with fail
    refine MixPost.normal ho1 ?_
    refine mix_seg [18, 19, 20, 21, 24, 25, 26, 28, 29, 30] (by kernel_rfl) ho1 ?_
    simp only [segOf, pickOps, pickOp]
    repeat (go_big_quiet_step (fail))
    refine wpQuiet_nil ?_
    refine mix_run 22 (by kernel_rfl) ?_
    simp only [segOf, pickOps, pickOp]
    go_wp2_with fail
    refine MixPost.normal ho1 ?_
    refine mix_seg [23, 27, 31, 32, 33, 34] (by kernel_rfl) ho1 ?_
    simp only [segOf, pickOps, pickOp]
    repeat (go_big_quiet_step (fail))
    refine wpQuiet_nil ?_
    refine mix_done (by kernel_rfl) ?_
    go_wp2
    go_ret
    exact ⟨ret_bool (by rw [HK.out]; rfl), HB1.out⟩
  by_cases hpz : pa.size ≤ 512
  rotate_left
  · have hd : decide ((pa.size : Int) ≤ 512) = false := by simp; omega
    go_enter Tryz.func137, Tryz.ntmps137
    go_wp2_with fail
    refine mix_start (fun W => UrlAt W w.heap.size s h p pa q) (by kernel_rfl) ?_
    refine mix_seg [0, 1] (by kernel_rfl) ho.drew ?_
    simp only [segOf, pickOps, pickOp]
    repeat (go_big_quiet_step (fail))
    refine wpQuiet_nil ?_
    refine mix_run 2 (by kernel_rfl) ?_
    simp only [segOf, pickOps, pickOp]
    go_wp2_with fail
    refine (refCheck_as s h p _ _ hh H1.out).mono ?_
    rintro e w1 ⟨rfl, hb1⟩
    have ho1 : UrlAt w1 w.heap.size s h p pa q := ho.drew.below hb1 ho.drew.lt
    have HB1 : Hid (Below w.heap.size w w1) := HB.out.drew.trans (hb1.mono HB.out.drew.size)
    clear hb1
    go_wp2_with fail
    refine MixPost.normal ho1 ?_
    refine mix_seg [3, 4, 5, 6, 7, 8, 9, 10, 11, 12, 13, 14, 15, 16] (by kernel_rfl) ho1 ?_
    simp only [segOf, pickOps, pickOp]
    repeat (go_big_quiet_step (fail))
    refine wpQuiet_nil ?_
    refine mix_run 17 (by kernel_rfl) ?_
    simp only [segOf, pickOps, pickOp]
    go_wp2_with fail
    refine MixPost.normal ho1 ?_
    refine mix_seg [18, 19, 20, 21, 24, 25, 26, 28, 29, 30] (by kernel_rfl) ho1 ?_
    simp only [segOf, pickOps, pickOp]
    repeat (go_big_quiet_step (fail))
    refine wpQuiet_nil ?_
    refine mix_run 22 (by kernel_rfl) ?_
    simp only [segOf, pickOps, pickOp]
    go_wp2_with fail
    refine MixPost.normal ho1 ?_
    refine mix_seg [23, 27, 31, 32, 33, 34] (by kernel_rfl) ho1 ?_
    simp only [segOf, pickOps, pickOp]
    repeat (go_big_quiet_step (fail))
    refine wpQuiet_nil ?_
    refine mix_done (by kernel_rfl) ?_
    go_wp2
    go_ret
    exact ⟨ret_bool (by rw [HK.out]; symm; simp; omega), HB1.out⟩
  have hd1 : decide ((pa.size : Int) ≤ 512) = true := by simp; omega
  by_cases hqz : q.size ≤ 512
  rotate_left
  · have hd2 : decide ((q.size : Int) ≤ 512) = false := by simp; omega
    go_enter Tryz.func137, Tryz.ntmps137
    go_wp2_with fail
    refine mix_start (fun W => UrlAt W w.heap.size s h p pa q) (by kernel_rfl) ?_
    refine mix_seg [0, 1] (by kernel_rfl) ho.drew ?_
    simp only [segOf, pickOps, pickOp]
    repeat (go_big_quiet_step (fail))
    refine wpQuiet_nil ?_
    refine mix_run 2 (by kernel_rfl) ?_
    simp only [segOf, pickOps, pickOp]
    go_wp2_with fail
    refine (refCheck_as s h p _ _ hh H1.out).mono ?_
    rintro e w1 ⟨rfl, hb1⟩
    have ho1 : UrlAt w1 w.heap.size s h p pa q := ho.drew.below hb1 ho.drew.lt
    have HB1 : Hid (Below w.heap.size w w1) := HB.out.drew.trans (hb1.mono HB.out.drew.size)
    clear hb1
    go_wp2_with fail
    refine MixPost.normal ho1 ?_
    refine mix_seg [3, 4, 5, 6, 7, 8, 9, 10, 11, 12, 13, 14, 15, 16] (by kernel_rfl) ho1 ?_
    simp only [segOf, pickOps, pickOp]
    repeat (go_big_quiet_step (fail))
    refine wpQuiet_nil ?_
    refine mix_run 17 (by kernel_rfl) ?_
    simp only [segOf, pickOps, pickOp]
    go_wp2_with fail
    refine MixPost.normal ho1 ?_
    refine mix_seg [18, 19, 20, 21, 24, 25, 26, 28, 29, 30] (by kernel_rfl) ho1 ?_
    simp only [segOf, pickOps, pickOp]
    repeat (go_big_quiet_step (fail))
    refine wpQuiet_nil ?_
    refine mix_run 22 (by kernel_rfl) ?_
    simp only [segOf, pickOps, pickOp]
    go_wp2_with fail
    refine MixPost.normal ho1 ?_
    refine mix_seg [23, 27, 31, 32, 33, 34] (by kernel_rfl) ho1 ?_
    simp only [segOf, pickOps, pickOp]
    repeat (go_big_quiet_step (fail))
    refine wpQuiet_nil ?_
    refine mix_done (by kernel_rfl) ?_
    go_wp2
    go_ret
    exact ⟨ret_bool (by rw [HK.out]; symm; simp; omega), HB1.out⟩
  have hd2 : decide ((q.size : Int) ≤ 512) = true := by simp; omega
  cases b2
  · go_enter Tryz.func137, Tryz.ntmps137
    go_wp2_with fail
    refine mix_start (fun W => UrlAt W w.heap.size s h p pa q) (by kernel_rfl) ?_
    refine mix_seg [0, 1] (by kernel_rfl) ho.drew ?_
    simp only [segOf, pickOps, pickOp]
    repeat (go_big_quiet_step (fail))
    refine wpQuiet_nil ?_
    refine mix_run 2 (by kernel_rfl) ?_
    simp only [segOf, pickOps, pickOp]
    go_wp2_with fail
    refine (refCheck_as s h p _ _ hh H1.out).mono ?_
    rintro e w1 ⟨rfl, hb1⟩
    have ho1 : UrlAt w1 w.heap.size s h p pa q := ho.drew.below hb1 ho.drew.lt
    have HB1 : Hid (Below w.heap.size w w1) := HB.out.drew.trans (hb1.mono HB.out.drew.size)
    clear hb1
    go_wp2_with fail
    refine MixPost.normal ho1 ?_
    refine mix_seg [3, 4, 5, 6, 7, 8, 9, 10, 11, 12, 13, 14, 15, 16] (by kernel_rfl) ho1 ?_
    simp only [segOf, pickOps, pickOp]
    repeat (go_big_quiet_step (fail))
    refine wpQuiet_nil ?_
    refine mix_run 17 (by kernel_rfl) ?_
    simp only [segOf, pickOps, pickOp]
    go_wp2_with fail
    refine (refFits_as s h p pa q _ _ hpa hq H2.out).mono ?_
    rintro e w2 ⟨rfl, hb2⟩
    have ho2 : UrlAt w2 w.heap.size s h p pa q := ho1.below hb2 ho1.lt
    have HB2 : Hid (Below w.heap.size w w2) := HB1.out.trans (hb2.mono HB1.out.size)
    clear hb2
    go_wp2_with fail
    refine MixPost.normal ho2 ?_
    refine mix_seg [18, 19, 20, 21, 24, 25, 26, 28, 29, 30] (by kernel_rfl) ho2 ?_
    simp only [segOf, pickOps, pickOp]
    repeat (go_big_quiet_step (fail))
    refine wpQuiet_nil ?_
    refine mix_run 22 (by kernel_rfl) ?_
    simp only [segOf, pickOps, pickOp]
    go_wp2_with fail
    refine MixPost.normal ho2 ?_
    refine mix_seg [23, 27, 31, 32, 33, 34] (by kernel_rfl) ho2 ?_
    simp only [segOf, pickOps, pickOp]
    repeat (go_big_quiet_step (fail))
    refine wpQuiet_nil ?_
    refine mix_done (by kernel_rfl) ?_
    go_wp2
    go_ret
    exact ⟨ret_bool (by rw [HK.out]; rfl), HB2.out⟩
  · go_enter Tryz.func137, Tryz.ntmps137
    go_wp2_with fail
    refine mix_start (fun W => UrlAt W w.heap.size s h p pa q) (by kernel_rfl) ?_
    refine mix_seg [0, 1] (by kernel_rfl) ho.drew ?_
    simp only [segOf, pickOps, pickOp]
    repeat (go_big_quiet_step (fail))
    refine wpQuiet_nil ?_
    refine mix_run 2 (by kernel_rfl) ?_
    simp only [segOf, pickOps, pickOp]
    go_wp2_with fail
    refine (refCheck_as s h p _ _ hh H1.out).mono ?_
    rintro e w1 ⟨rfl, hb1⟩
    have ho1 : UrlAt w1 w.heap.size s h p pa q := ho.drew.below hb1 ho.drew.lt
    have HB1 : Hid (Below w.heap.size w w1) := HB.out.drew.trans (hb1.mono HB.out.drew.size)
    clear hb1
    go_wp2_with fail
    refine MixPost.normal ho1 ?_
    refine mix_seg [3, 4, 5, 6, 7, 8, 9, 10, 11, 12, 13, 14, 15, 16] (by kernel_rfl) ho1 ?_
    simp only [segOf, pickOps, pickOp]
    repeat (go_big_quiet_step (fail))
    refine wpQuiet_nil ?_
    refine mix_run 17 (by kernel_rfl) ?_
    simp only [segOf, pickOps, pickOp]
    go_wp2_with fail
    refine (refFits_as s h p pa q _ _ hpa hq H2.out).mono ?_
    rintro e w2 ⟨rfl, hb2⟩
    have ho2 : UrlAt w2 w.heap.size s h p pa q := ho1.below hb2 ho1.lt
    have HB2 : Hid (Below w.heap.size w w2) := HB1.out.trans (hb2.mono HB1.out.size)
    clear hb2
    go_wp2_with fail
    refine MixPost.normal ho2 ?_
    refine mix_seg [18, 19, 20, 21, 24, 25, 26, 28, 29, 30] (by kernel_rfl) ho2 ?_
    simp only [segOf, pickOps, pickOp]
    repeat (go_big_quiet_step (fail))
    refine wpQuiet_nil ?_
    refine mix_run 22 (by kernel_rfl) ?_
    simp only [segOf, pickOps, pickOp]
    go_wp2_with fail
    refine (refShow_as s h p t _ hh HT.out).mono ?_
    rintro e w3 ⟨rfl, hb3⟩
    have ho3 : UrlAt w3 w.heap.size s h p pa q := ho2.below hb3 ho2.lt
    have HB3 : Hid (Below w.heap.size w w3) := HB2.out.trans (hb3.mono HB2.out.size)
    clear hb3
    go_wp2_with fail
    refine MixPost.normal ho3 ?_
    refine mix_seg [23, 27, 31, 32, 33, 34] (by kernel_rfl) ho3 ?_
    simp only [segOf, pickOps, pickOp]
    repeat (go_big_quiet_step (fail))
    refine wpQuiet_nil ?_
    refine mix_done (by kernel_rfl) ?_
    go_wp2
    go_ret
    exact ⟨ret_bool (by rw [HK.out]; simp only [Bool.true_and]; rw [decide_eq_decide]; omega), HB3.out⟩

set_option maxHeartbeats 4000000 in
theorem refTShow_any (s h : ByteArray) (p : Int) (pa q : ByteArray) (w : World) (hh : h.size ≤ maxLen) (hpa : pa.size ≤ 100000) (hq : q.size ≤ 100000) :
    Calls Tryz.prog 88 #[urlV s h p pa q] w fun e w' => e = .returned (.string (mk (urlOf s h p pa q).show_)) ∧ Below w.heap.size w w' := by
  have hb : Below w.heap.size w (w.alloc (.cells #[.string s, .string h, .int .i64 p, .string pa, .string q] 84)) := (Below.refl _ _).alloc (Nat.le_refl _) _
  have ho := UrlAt.new w s h p pa q 84
  have HB := Lib.hid hb
  have HO := Lib.hid ho
  clear hb ho
  unfold urlV
  go_enter Tryz.func88, Tryz.ntmps88
  go_wp2_with fail
  refine (refTCheck_any s h p pa q _ hh hpa hq).mono ?_
  rintro e w1 ⟨rfl, hb1⟩
  have ho1 := HO.out.below hb1 (by simp)
  have HB1 : Hid (Below w.heap.size w w1) := HB.out.trans (hb1.mono HB.out.size)
  clear hb1
  cases hc : (urlOf s h p pa q).ok
  · have HS : Hid (mk (urlOf s h p pa q).show_ = ⟨#[]⟩) := by show _ = _; rw [show_no hc]; rfl
    go_wp2
    go_ret
    exact ⟨ret_string HS.out.symm, HB1.out⟩
  obtain ⟨t, ht⟩ : ∃ t, t = mk (showL s.data.toList h.data.toList p) := ⟨_, rfl⟩
  have htz : t.size ≤ 270 := by rw [ht, mk_size]; exact show_len
  have HS := Lib.hid (show_mk (pa := pa) (q := q) ht hc)
  have HT := Lib.hid ht
  clear hc ht
  go_wp2_with fail
  refine mix_start (fun W => UrlAt W w.heap.size s h p pa q) (by kernel_rfl) ?_
  have hne : Nonempty (Held (fun W => UrlAt W w.heap.size s h p pa q)) := ⟨⟨_, ho1⟩⟩
  have hx0 : ∀ z : Held (fun W => UrlAt W w.heap.size s h p pa q), z.w.cell? ⟨w.heap.size, 0, none⟩ = some (.string s) := fun z => z.h.c0
  have hx1 : ∀ z : Held (fun W => UrlAt W w.heap.size s h p pa q), z.w.cell? ⟨w.heap.size, 1, none⟩ = some (.string h) := fun z => z.h.c1
  have hx2 : ∀ z : Held (fun W => UrlAt W w.heap.size s h p pa q), z.w.cell? ⟨w.heap.size, 2, none⟩ = some (.int .i64 p) := fun z => z.h.c2
  have hx3 : ∀ z : Held (fun W => UrlAt W w.heap.size s h p pa q), z.w.cell? ⟨w.heap.size, 3, none⟩ = some (.string pa) := fun z => z.h.c3
  have hx4 : ∀ z : Held (fun W => UrlAt W w.heap.size s h p pa q), z.w.cell? ⟨w.heap.size, 4, none⟩ = some (.string q) := fun z => z.h.c4
  refine mix_seg [0, 1, 3, 4, 6, 7] (by kernel_rfl) ho1.drew ?_
  simp only [segOf, pickOps, pickOp]
  repeat (go_big_quiet_step (fail))
  refine wpQuiet_nil ?_
  refine mix_run 2 (by kernel_rfl) ?_
  simp only [segOf, pickOps, pickOp]
  go_wp2_with fail
  refine (refShow_as s h p t _ hh HT.out).mono ?_
  rintro e w2 ⟨rfl, hb2⟩
  have ho2 : UrlAt w2 w.heap.size s h p pa q := ho1.drew.below hb2 ho1.drew.lt
  have HB2 : Hid (Below w.heap.size w w2) := HB1.out.drew.trans (hb2.mono HB1.out.drew.size)
  clear hb2
  go_wp2_with fail
  refine MixPost.normal ho2 ?_
  refine mix_seg [5, 8, 9] (by kernel_rfl) ho2 ?_
  simp only [segOf, pickOps, pickOp]
  repeat (go_big_quiet_step (fail))
  refine wpQuiet_nil ?_
  refine mix_done (by kernel_rfl) ?_
  go_wp2
  go_ret
  exact ⟨ret_string HS.out, HB2.out⟩
end Go.Proofs.YtlkneapidmdpbaaGreatDoor

namespace Go.Proofs.YtlkneapidmdpbaaGreatDoor
open Go.RowKit

theorem split_take : ∀ l : List UInt8, l.takeWhile (notIn [35]) = (split1 35 l).1
  | [] => rfl
  | b :: l => by
    rw [List.takeWhile_cons, split1]
    by_cases h : b = 35
    · subst h; simp [notIn]
    · have : notIn [35] b = true := by simp [notIn, h]
      rw [if_pos this, if_neg h, split_take l]
theorem notIn_sq : notIn [47, 63] = nsq := by
  funext b
  unfold notIn
  rw [nsq_contains]; simp
theorem notIn_q : notIn [63] = nq := by
  funext b
  by_cases h : b = 63 <;> simp [notIn, nq, h]
theorem take_tw (P : UInt8 → Bool) : ∀ l : List UInt8, l.take (l.takeWhile P).length = l.takeWhile P
  | [] => rfl
  | b :: l => by
    rw [List.takeWhile_cons]
    by_cases h : P b = true
    · rw [if_pos h]; simp [take_tw P l]
    · rw [if_neg h]; rfl
theorem drop_tw (P : UInt8 → Bool) : ∀ l : List UInt8, l.drop (l.takeWhile P).length = l.dropWhile P
  | [] => rfl
  | b :: l => by
    rw [List.takeWhile_cons, List.dropWhile_cons]
    by_cases h : P b = true
    · rw [if_pos h, if_pos h]; simp [drop_tw P l]
    · rw [if_neg h, if_neg h]; rfl
theorem firstN_hash (l : List UInt8) : l.take (firstN (notIn [35]) l 0) = (split1 35 l).1 ∧ firstN (notIn [35]) l 0 ≤ l.length := by
  have h : firstN (notIn [35]) l 0 = (split1 35 l).1.length := by unfold firstN; rw [List.drop_zero, split_take]; omega
  refine ⟨?_, (firstN_le (Nat.zero_le _)).1⟩
  rw [h, ← split_take]; exact take_tw _ _
theorem first_as (s bar : ByteArray) (f : Nat) (n : Nat) (w : World) (hs : s.size ≤ 140737488355328) (hb : bar.size ≤ maxLen) (hf : f ≤ s.size) (hn : n = firstN (notIn bar.data.toList) s.data.toList f) :
    Calls Tryz.prog 128 #[.string s, .int .i64 (f : Int), .string bar] w fun e w' => e = .returned (.int .i64 (n : Int)) ∧ w = w' := by rw [hn]; exact first_any s bar f w hs hb hf
theorem behind_as (s : ByteArray) (k : Int) (w : World) (hs : s.size ≤ 140737488355328) (hk : k = behindV s.data.toList) :
    Calls Tryz.prog 129 #[.string s] w fun e w' => e = .returned (.int .i64 k) ∧ w = w' := by rw [hk]; exact refBehind_any s w hs
theorem drop_sch {l a b : List UInt8} (h : l = a ++ [58, 47, 47] ++ b) : l.drop (a.length + 3) = b := by
  rw [h, List.drop_left' (by simp)]
/-- the parts of a text by their places -/
structure Cuts (T : ByteArray) (a b : List UInt8) (e q : Nat) : Prop where
  n1 : e = firstN (notIn [47, 63]) T.data.toList (a.length + 3)
  n2 : q = firstN (notIn [63]) T.data.toList e
  le1 : a.length + 3 ≤ T.size
  le2 : e ≤ T.size
  le3 : q ≤ T.size
  le4 : e ≤ q
  x1 : T.extract 0 e = mk (headL a b)
  x2 : T.extract e q = mk ((b.dropWhile nsq).takeWhile nq)
  x3 : T.extract q T.size = mk ((b.dropWhile nsq).dropWhile nq)
theorem cuts_of (T : ByteArray) {a b : List UInt8} (h : seek T.data.toList = some (a, b)) : ∃ e q, Cuts T a b e q := by
  have es := seek_eq _ _ _ h
  have hl : T.data.toList.length = T.size := by simp
  have hlen : T.size = a.length + 3 + b.length := by have := congrArg List.length es; simp at this; omega
  have hd := drop_sch es
  have e1 : firstN (notIn [47, 63]) T.data.toList (a.length + 3) = a.length + 3 + (b.takeWhile nsq).length := by unfold firstN; rw [hd, notIn_sq]
  have hb := List.takeWhile_append_dropWhile (p := nsq) (l := b)
  have hbl := congrArg List.length hb
  rw [List.length_append] at hbl
  obtain ⟨t1, h1⟩ : ∃ t1, t1 = b.takeWhile nsq := ⟨_, rfl⟩
  obtain ⟨r, h2⟩ : ∃ r, r = b.dropWhile nsq := ⟨_, rfl⟩
  rw [← h1, ← h2] at hbl hb
  rw [← h1] at e1
  have es2 : T.data.toList = (a ++ [58, 47, 47] ++ t1) ++ r := by rw [es, ← hb]; simp
  have hde : T.data.toList.drop (a.length + 3 + t1.length) = r := by rw [es2, List.drop_left' (by simp; omega)]
  have e2 : firstN (notIn [63]) T.data.toList (a.length + 3 + t1.length) = a.length + 3 + t1.length + (r.takeWhile nq).length := by unfold firstN; rw [hde, notIn_q]
  have hr := congrArg List.length (List.takeWhile_append_dropWhile (p := nq) (l := r))
  rw [List.length_append] at hr
  refine ⟨a.length + 3 + t1.length, a.length + 3 + t1.length + (r.takeWhile nq).length, e1.symm, e2.symm, by omega, by omega, by omega, by omega, ?_, ?_, ?_⟩
  · rw [Lib.extract_eq, es2, headL, ← h1]
    simp only [Nat.sub_zero, List.drop_zero]
    rw [List.take_left' (by simp; omega)]; rfl
  · rw [Lib.extract_eq, hde, ← h2, show a.length + 3 + t1.length + (r.takeWhile nq).length - (a.length + 3 + t1.length) = (r.takeWhile nq).length by omega, take_tw]; rfl
  · rw [Lib.extract_eq, ← List.drop_drop, hde, drop_tw, ← h2, List.take_of_length_le (by omega)]; rfl
theorem UrlAt.put3 {W : World} {g : Nat} {s h pa q : ByteArray} {p : Int} (o : UrlAt W g s h p pa q) (x : ByteArray) : UrlAt (W.setCell ⟨g, 3, none⟩ (.string x)) g s h p x q :=
  ⟨cell_keep o.c0 (by decide), cell_keep o.c1 (by decide), cell_keep o.c2 (by decide), World.cell?_setCell_same _ _ _ o.c3, cell_keep o.c4 (by decide)⟩

set_option maxRecDepth 100000 in
set_option maxHeartbeats 16000000 in
theorem refTParse_any (s : ByteArray) (w : World) (hs : s.size ≤ maxLen) (he : Env w) :
    Calls Tryz.prog 85 #[.string s] w fun e w' => e = .returned (tgtV s.data.toList) ∧ Below w.heap.size w w' := by
  unfold maxLen at hs
  have hl : s.data.toList.length = s.size := by simp
  by_cases h512 : 512 < s.size
  · have HV := Lib.hid (tgtV_err (k := 4) (l := s.data.toList) (by rw [tgtL, if_pos (by rw [hl]; exact h512)]))
    clear hl
    go_enter Tryz.func85, Tryz.ntmps85
    go_wp2
    refine bodyPost_ret (v := .tuple #[.agg #[.string ⟨#[]⟩, .string ⟨#[]⟩, .int .i64 0, .string ⟨#[]⟩, .string ⟨#[]⟩], .int .i64 4]) (by simp [results, Tryz.results85, go_sem]) rfl ?_
    exact ⟨by rw [HV.out], (Below.refl _ _).alloc (Nat.le_refl _) _⟩
  have HTG : Hid (tgtL s.data.toList = textL (split1 35 s.data.toList).1) := by show _ = _; rw [tgtL, if_neg (by rw [hl]; exact h512)]
  have HP0 := Lib.hid (PAt.new he 84)
  have ⟨hfh1, hfh2⟩ := firstN_hash s.data.toList
  obtain ⟨n1, hn1⟩ : ∃ n1, n1 = firstN (notIn [35]) s.data.toList 0 := ⟨_, rfl⟩
  rw [← hn1] at hfh1 hfh2
  have hn1z : n1 ≤ s.size := by omega
  obtain ⟨t, ht⟩ : ∃ t, t = s.extract 0 n1 := ⟨_, rfl⟩
  have htl : t.data.toList = (split1 35 s.data.toList).1 := by rw [ht, Lib.extract_eq, ← hfh1]; simp
  have htz : t.size ≤ 512 := by
    have := congrArg List.length htl
    rw [← hfh1, List.length_take, hl] at this
    simp at this; omega
  have HT : Hid (tgtL s.data.toList = textL t.data.toList) := by show _ = _; rw [HTG.out, htl]
  have HN1 : Hid (n1 = firstN (notIn (ByteArray.mk #[35]).data.toList) s.data.toList 0) := hn1
  have HTX : Hid (t = s.extract 0 n1) := ht
  obtain ⟨kb, hkb⟩ : ∃ k, k = behindV t.data.toList := ⟨_, rfl⟩
  have HKB := Lib.hid hkb
  clear hn1 hfh1 hfh2 hl ht htl HTG he
  go_enter Tryz.func85, Tryz.ntmps85
  go_wp2_with fail
  refine (first_as s ⟨#[35]⟩ 0 n1 _ (by omega) (by decide) (Nat.zero_le _) HN1.out).mono ?_
  rintro e w1 ⟨rfl, hw1⟩
  have HP1 : Hid (PAt w w1) := by rw [← hw1]; exact HP0.out
  clear hw1 HP0
  go_wp2_with fail
  rw [← HTX.out]
  refine (behind_as t kb _ (by omega) HKB.out).mono ?_
  rintro e w' ⟨rfl, rfl⟩
  cases hsk : seek t.data.toList with
  | none =>
    have HV := Lib.hid (tgtV_err (k := 3) (l := s.data.toList) (by rw [HT.out]; unfold textL; rw [hsk]))
    have hk0 : kb < 0 := by rw [hkb, behindV, hsk]; decide
    clear hsk hkb
    obtain ⟨c0, c1, c2, c3, c4⟩ := HP1.out.res
    obtain ⟨f0, f1, f2, f3, f4⟩ := HP1.out.own
    go_wp2
    obtain ⟨q0, q1, q2, q3, q4⟩ := set5_url HP1.out.res ⟨#[]⟩ ⟨#[]⟩ 0 ⟨#[]⟩ ⟨#[]⟩
    unfold set5 at q0 q1 q2 q3 q4
    refine bodyPost_ret (v := .tuple #[.agg #[.string ⟨#[]⟩, .string ⟨#[]⟩, .int .i64 0, .string ⟨#[]⟩, .string ⟨#[]⟩], .int .i64 3]) (by simp [results, Tryz.results85, go_sem, q0, q1, q2, q3, q4]) rfl ?_
    exact ⟨by rw [HV.out], set5_below HP1.out.bel (Nat.le_refl _) _ _ _ _ _⟩
  | some qq =>
    obtain ⟨la, lb⟩ := qq
    have ⟨hz1, hz2⟩ := head_sub hsk
    have htl2 : t.data.toList.length = t.size := by simp
    obtain ⟨en, qn, hcuts⟩ := cuts_of t hsk
    obtain ⟨hd, ehd⟩ : ∃ hd, hd = mk (headL la lb) := ⟨_, rfl⟩
    obtain ⟨rs, ers⟩ : ∃ rs : List UInt8, rs = lb.dropWhile nsq := ⟨_, rfl⟩
    have hhz : hd.size ≤ 512 := by rw [ehd, mk_size]; omega
    have hrz : rs.length ≤ 512 := by rw [ers]; omega
    have hhl : hd.data.toList = headL la lb := by rw [ehd, mk_data]
    have HTX2 : Hid (tgtL s.data.toList = match parseL hd.data.toList with
        | none => (Url.zero, 3)
        | some (sc, h, p) => restL sc h p rs) := by show _ = _; rw [HT.out, hhl, ers]; unfold textL; rw [hsk]; rfl
    have hka : kb = (la.length : Int) := by rw [hkb, behindV, hsk]
    subst hka
    obtain ⟨pa, epa⟩ : ∃ pa, pa = mk (rs.takeWhile nq) := ⟨_, rfl⟩
    obtain ⟨qr, eqr⟩ : ∃ qr, qr = mk (rs.dropWhile nq) := ⟨_, rfl⟩
    have hpl : pa.data.toList = rs.takeWhile nq := by rw [epa, mk_data]
    have hql : qr.data.toList = rs.dropWhile nq := by rw [eqr, mk_data]
    have hqh : qr.data.toList = [] ∨ qr.data.toList.head? = some 63 := by rw [hql]; exact drop_nq rs
    have hsum : pa.size + qr.size = rs.length := by
      have := congrArg List.length (List.takeWhile_append_dropWhile (p := nq) (l := rs))
      rw [List.length_append, ← hpl, ← hql] at this
      simpa using this
    have hpz : pa.size ≤ 512 := by omega
    have hqz : qr.size ≤ 512 := by omega
    obtain ⟨c1, c2, c3, c4, c5, c6, c7, c8, c9⟩ := hcuts
    rw [← ers] at c8 c9
    rw [← ehd] at c7
    rw [← epa] at c8
    rw [← eqr] at c9
    have HN2 : Hid (en = firstN (notIn (ByteArray.mk #[47, 63]).data.toList) t.data.toList (la.length + 3)) := c1
    have HN3 : Hid (qn = firstN (notIn (ByteArray.mk #[63]).data.toList) t.data.toList en) := c2
    have hw3 : IntKind.i64.wrap ((la.length : Int) + 3) = ((la.length + 3 : Nat) : Int) := by rw [IntWalk.i64_in _ (by omega)]; omega
    have X1 := Lib.hid c7
    have X2 := Lib.hid c8
    have X3 := Lib.hid c9
    clear hsk hz1 hz2 htl2 ehd ers hhl HT hkb HKB c1 c2 c7 c8 c9 hsum epa eqr
    go_wp2_with fail
    refine (first_as t ⟨#[47, 63]⟩ (la.length + 3) en _ (by omega) (by decide) c3 HN2.out).mono ?_
    rintro e w' ⟨rfl, rfl⟩
    go_wp2_with fail
    rw [X1.out]
    refine (refParse_any hd _ (by unfold maxLen; omega)).mono ?_
    rintro e w3 ⟨rfl, hb3⟩
    have HP3 : Hid (PAt w w3) := HP1.out.next hb3
    clear hb3 HP1
    have HPV : Hid (parseV hd.data.toList = match parseL hd.data.toList with
      | some (a, b, p) => .tuple #[orgV a b p, .int .i64 0]
      | none => .tuple #[orgV [] [] 0, .int .i64 3]) := by show _ = _; rw [parseV, if_neg (by simp; omega)]; cases parseL hd.data.toList <;> rfl
    cases hpl2 : parseL hd.data.toList with
    | none =>
      rw [HPV.out, hpl2]
      have HV := Lib.hid (tgtV_err (k := 3) (l := s.data.toList) (by rw [HTX2.out, hpl2]))
      clear hpl2 HPV
      simp only [orgV]
      have HP4 := Lib.hid (HP3.out.alloc (.cells #[.string (mk []), .string (mk []), .int .i64 0] 82))
      obtain ⟨c0, c1, c2, c3, c4⟩ := HP4.out.res
      obtain ⟨f0, f1, f2, f3, f4⟩ := HP4.out.own
      go_wp2
      obtain ⟨q0, q1, q2, q3, q4⟩ := set5_url HP4.out.res ⟨#[]⟩ ⟨#[]⟩ 0 ⟨#[]⟩ ⟨#[]⟩
      unfold set5 at q0 q1 q2 q3 q4
      refine bodyPost_ret (v := .tuple #[.agg #[.string ⟨#[]⟩, .string ⟨#[]⟩, .int .i64 0, .string ⟨#[]⟩, .string ⟨#[]⟩], .int .i64 3]) (by simp [results, Tryz.results85, go_sem, q0, q1, q2, q3, q4]) rfl ?_
      exact ⟨by rw [HV.out], set5_below HP4.out.bel (Nat.le_refl _) _ _ _ _ _⟩
    | some oo =>
      obtain ⟨sc, ho, po⟩ := oo
      rw [HPV.out, hpl2]
      have HTR : Hid (tgtL s.data.toList = restL sc ho po rs) := by show _ = _; rw [HTX2.out, hpl2]
      have hck := parse_check hpl2
      clear HPV HTX2 hpl2
      simp only [orgV]
      obtain ⟨A, eA⟩ : ∃ A, A = mk sc := ⟨_, rfl⟩
      obtain ⟨H, eH⟩ : ∃ H, H = mk ho := ⟨_, rfl⟩
      rw [← eA, ← eH]
      have hHz : H.size ≤ 253 := by rw [eH, mk_size]; exact host_len (check_parts hck).2.1
      have HA : Hid (A.data.toList = sc) := by show _ = _; rw [eA, mk_data]
      have HH : Hid (H.data.toList = ho) := by show _ = _; rw [eH, mk_data]
      clear eA eH hck
      obtain ⟨w4, hw4⟩ : ∃ w4, w4 = w3.alloc (.cells #[.string A, .string H, .int .i64 po] 82) := ⟨_, rfl⟩
      obtain ⟨g1, hg1⟩ : ∃ g1, g1 = w3.heap.size := ⟨_, rfl⟩
      have HP4 : Hid (PAt w w4) := by rw [hw4]; exact HP3.out.alloc _
      have HO4 : Hid (OrgAt w4 g1 A H po) := by rw [hw4, hg1]; exact OrgAt.new w3 A H po 82
      obtain ⟨cl, ecl⟩ : ∃ cl, cl = mk (cleanL pa.data.toList) := ⟨_, rfl⟩
      have hcz : cl.size ≤ 513 := by rw [ecl, mk_size]; have := clean_len pa.data.toList; rw [show pa.data.toList.length = pa.size by simp] at this; omega
      have HR : Hid (tgtL s.data.toList = if (freeL noPathL pa.data.toList && freeL noQueryL qr.data.toList) = false then (Url.zero, 3)
          else if 512 < (urlOf A H po cl qr).len then (Url.zero, 4) else (urlOf A H po cl qr, 0)) := by
        show _ = _
        have e : (⟨sc, ho, po, cleanL (rs.takeWhile nq), rs.dropWhile nq⟩ : Url) = urlOf A H po cl qr := by
          unfold urlOf; rw [HA.out, HH.out, hql, ecl, mk_data, hpl]
        rw [HTR.out, hpl, hql]
        unfold restL
        rw [e]
      have HCL := Lib.hid ecl
      have HQS : Hid ((qr.data.toList.take 1).all (freeB noQueryL) = true) := by
        show _ = _
        rcases hqh with h | h
        · rw [h]; rfl
        · cases hx : qr.data.toList with
          | nil => rfl
          | cons x r => rw [hx] at h; simp at h; subst h; rfl
      clear hpl hql ecl hqh HTR
      go_wp2_with fail
      refine (first_as t ⟨#[63]⟩ en qn _ (by omega) (by decide) c4 HN3.out).mono ?_
      rintro e wq ⟨rfl, hwq⟩
      have HP4q : Hid (PAt w wq) := by rw [← hwq]; have := HP4.out; rw [hw4] at this; exact this
      have HO4q : Hid (OrgAt wq g1 A H po) := by rw [← hwq]; have := HO4.out; rw [hw4] at this; exact this
      rw [← hg1]
      clear hwq hw4 hg1 HP4 HO4
      go_wp2_with fail
      have x2 := X2.out
      have x3 := X3.out
      refine mix_start (fun W => OrgAt W g1 A H po) (by kernel_rfl) ?_
      have hne : Nonempty (Held (fun W => OrgAt W g1 A H po)) := ⟨⟨_, HO4q.out⟩⟩
      have hx0 : ∀ z : Held (fun W => OrgAt W g1 A H po), z.w.cell? ⟨g1, 0, none⟩ = some (.string A) := fun z => z.h.c0
      have hx1 : ∀ z : Held (fun W => OrgAt W g1 A H po), z.w.cell? ⟨g1, 1, none⟩ = some (.string H) := fun z => z.h.c1
      have hx2 : ∀ z : Held (fun W => OrgAt W g1 A H po), z.w.cell? ⟨g1, 2, none⟩ = some (.int .i64 po) := fun z => z.h.c2
      refine mix_seg [0, 1, 2, 3, 4, 5, 6, 7, 8] (by kernel_rfl) HO4q.out.drew ?_
      simp only [segOf, pickOps, pickOp]
      repeat (go_big_quiet_step (fail))
      refine wpQuiet_nil ?_
      clear x2 x3
      obtain ⟨w6, hw6⟩ : ∃ w6, w6 = wq.drew := ⟨_, rfl⟩
      have HP6 : Hid (PAt w w6) := by rw [hw6]; exact HP4q.out.drewN 1
      have HO6 : Hid (OrgAt w6 g1 A H po) := by rw [hw6]; exact HO4q.out.drew
      rw [← hw6]
      clear hw6
      refine mix_run 9 (by kernel_rfl) ?_
      simp only [segOf, pickOps, pickOp]
      go_wp2_with fail
      obtain ⟨g2, hg2⟩ : ∃ g2, g2 = w6.heap.size := ⟨_, rfl⟩
      obtain ⟨w8, hw8⟩ : ∃ w8, w8 = w6.alloc (.cells #[.string ⟨#[]⟩, .string ⟨#[]⟩, .int .i64 0, .string ⟨#[]⟩, .string ⟨#[]⟩] 84) := ⟨_, rfl⟩
      have HP8 : Hid (PAt w w8) := by rw [hw8]; exact HP6.out.alloc _
      have ho8 : OrgAt w8 g1 A H po := by rw [hw8]; exact OrgAt.below HO6.out ((Below.refl _ _).alloc (Nat.le_refl _) _) (OrgAt.lt HO6.out)
      have HU8 : Hid (UrlAt w8 g2 ⟨#[]⟩ ⟨#[]⟩ 0 ⟨#[]⟩ ⟨#[]⟩) := by rw [hw8, hg2]; exact UrlAt.new _ _ _ _ _ _ _
      have HW8 : Hid (Own5 w8 g2) := by rw [hw8, hg2]; exact Own5.new _ _ _
      have hgl : w.heap.size < g2 := by rw [hg2]; exact HP6.out.res.lt
      have hgn : g1 ≠ g2 := by rw [hg2]; have := OrgAt.lt HO6.out; omega
      rw [← hw8, ← hg2]
      clear hw8 hg2
      refine MixPost.normal ho8 ?_
      refine mix_run 10 (by kernel_rfl) ?_
      simp only [segOf, pickOps, pickOp]
      obtain ⟨b0, b1, b2, b3, b4⟩ := HU8.out
      obtain ⟨e0, e1, e2, e3, e4⟩ := HW8.out
      go_wp2_with fail
      have ho9 : OrgAt (set5 w8 g2 A H po pa qr) g1 A H po := OrgAt.set5 ho8 hgn _ _ _ _ _
      have HP9' := Lib.hid (HP8.out.set5 hgl A H po pa qr)
      have HU9' := Lib.hid (set5_url HU8.out A H po pa qr)
      have HW9' : Hid (Own5 (set5 w8 g2 A H po pa qr) g2) := ((((HW8.out.set _ _).set _ _).set _ _).set _ _).set _ _
      refine MixPost.normal ho9 ?_
      refine mix_done (by kernel_rfl) ?_
      obtain ⟨w9, hw9⟩ : ∃ w9, w9 = set5 w8 g2 A H po pa qr := ⟨_, rfl⟩
      have HP9 : Hid (PAt w w9) := by rw [hw9]; exact HP9'.out
      have HU9 : Hid (UrlAt w9 g2 A H po pa qr) := by rw [hw9]; exact HU9'.out
      have HW9 : Hid (Own5 w9 g2) := by rw [hw9]; exact HW9'.out
      have HO9 : Hid (OrgAt w9 g1 A H po) := by rw [hw9]; exact ho9
      unfold set5 at hw9
      rw [← hw9]
      clear hw9 ho9 HP9' HU9' HW9' b0 b1 b2 b3 b4 e0 e1 e2 e3 e4
      obtain ⟨b0, b1, b2, b3, b4⟩ := HU9.out
      go_wp2
      go_loop [10] (fun i => ∃ k : Nat, k ≤ pa.size ∧ i = .int .i64 k ∧ (pa.data.toList.take k).all (freeB noPathL) = true) (fun i => pa.size - (intOf i).toNat)
      case atStart => exact ⟨0, Nat.zero_le _, rfl, rfl⟩
      case round =>
        obtain ⟨k, hk, rfl, ha⟩ := hrel
        have HA1 := Lib.hid ha
        clear ha
        by_cases hlt : k < pa.size
        · cases hc : freeB noPathL pa[k]
          · have HC := Lib.hid hc
            have HFF : Hid (freeL noPathL pa.data.toList = false) := Lk.all_no hlt hc
            clear hc
            go_wp2_with fail
            refine (pathByte_any _ _).mono ?_
            rintro e w' ⟨rfl, rfl⟩
            rw [HC.out]
            have HV := Lib.hid (tgtV_err (k := 3) (l := s.data.toList) (by rw [HR.out, if_pos (by rw [HFF.out]; rfl)]))
            obtain ⟨c0, c1, c2, c3, c4⟩ := HP9.out.res
            obtain ⟨f0, f1, f2, f3, f4⟩ := HP9.out.own
            go_wp2
            obtain ⟨q0, q1, q2, q3, q4⟩ := set5_url HP9.out.res ⟨#[]⟩ ⟨#[]⟩ 0 ⟨#[]⟩ ⟨#[]⟩
            unfold set5 at q0 q1 q2 q3 q4
            refine bodyPost_ret (v := .tuple #[.agg #[.string ⟨#[]⟩, .string ⟨#[]⟩, .int .i64 0, .string ⟨#[]⟩, .string ⟨#[]⟩], .int .i64 3]) (by simp [results, Tryz.results85, go_sem, q0, q1, q2, q3, q4]) rfl ?_
            exact ⟨by rw [HV.out], set5_below HP9.out.bel (Nat.le_refl _) _ _ _ _ _⟩
          · have HC := Lib.hid hc
            clear hc
            go_wp2_with fail
            refine (pathByte_any _ _).mono ?_
            rintro e w' ⟨rfl, rfl⟩
            rw [HC.out]
            go_wp2
            go_round
            case rel => exact ⟨k + 1, by omega, by go_num, Lk.all_step hlt HA1.out HC.out⟩
            case measure => simp [intOf]; omega
        · have HFP : Hid (freeL noPathL pa.data.toList = true) := by
            have := HA1.out
            rw [Lk.take_all pa k (by omega)] at this
            exact this
          go_wp2
          go_loop [11] (fun i => ∃ k : Nat, 1 ≤ k ∧ (k ≤ qr.size ∨ k = 1) ∧ i = .int .i64 k ∧ (qr.data.toList.take k).all (freeB noQueryL) = true) (fun i => qr.size - (intOf i).toNat)
          case atStart => exact ⟨1, Nat.le_refl _, .inr rfl, rfl, HQS.out⟩
          case round =>
            obtain ⟨k, hk1, hk2, rfl, ha⟩ := hrel
            have HA2 := Lib.hid ha
            clear ha
            by_cases hlt2 : k < qr.size
            · cases hc : freeB noQueryL qr[k]
              · have HC := Lib.hid hc
                have HFF : Hid (freeL noQueryL qr.data.toList = false) := Lk.all_no hlt2 hc
                clear hc
                go_wp2_with fail
                refine (queryByte_any _ _).mono ?_
                rintro e w' ⟨rfl, rfl⟩
                rw [HC.out]
                have HV := Lib.hid (tgtV_err (k := 3) (l := s.data.toList) (by rw [HR.out, if_pos (by rw [HFP.out, HFF.out]; simp)]))
                obtain ⟨c0, c1, c2, c3, c4⟩ := HP9.out.res
                obtain ⟨f0, f1, f2, f3, f4⟩ := HP9.out.own
                go_wp2
                obtain ⟨q0, q1, q2, q3, q4⟩ := set5_url HP9.out.res ⟨#[]⟩ ⟨#[]⟩ 0 ⟨#[]⟩ ⟨#[]⟩
                unfold set5 at q0 q1 q2 q3 q4
                refine bodyPost_ret (v := .tuple #[.agg #[.string ⟨#[]⟩, .string ⟨#[]⟩, .int .i64 0, .string ⟨#[]⟩, .string ⟨#[]⟩], .int .i64 3]) (by simp [results, Tryz.results85, go_sem, q0, q1, q2, q3, q4]) rfl ?_
                exact ⟨by rw [HV.out], set5_below HP9.out.bel (Nat.le_refl _) _ _ _ _ _⟩
              · have HC := Lib.hid hc
                clear hc
                go_wp2_with fail
                refine (queryByte_any _ _).mono ?_
                rintro e w' ⟨rfl, rfl⟩
                rw [HC.out]
                go_wp2
                go_round
                case rel => exact ⟨k + 1, by omega, .inl (by omega), by go_num, Lk.all_step hlt2 HA2.out HC.out⟩
                case measure => simp [intOf]; omega
            · have HFQ : Hid (freeL noQueryL qr.data.toList = true) := by
                have := HA2.out
                rw [Lk.take_all qr k (by omega)] at this
                exact this
              have HRR : Hid (tgtL s.data.toList = if 512 < (urlOf A H po cl qr).len then (Url.zero, 4) else (urlOf A H po cl qr, 0)) := by
                show _ = _; rw [HR.out, if_neg (by rw [HFP.out, HFQ.out]; simp)]
              obtain ⟨tt, htt⟩ : ∃ tt, tt = mk (showL A.data.toList H.data.toList po) := ⟨_, rfl⟩
              have httz : tt.size ≤ 270 := by rw [htt, mk_size]; exact show_len
              have HLN : Hid ((urlOf A H po cl qr).len = tt.size + cl.size + qr.size) := by
                show _ = _
                rw [htt, mk_size]
                unfold Url.len urlOf
                simp
              have HTT := Lib.hid htt
              clear htt HR HFP HFQ
              go_wp2_with fail
              refine (refClean_as pa cl _ (by omega) HCL.out).mono ?_
              rintro e wa ⟨rfl, hba⟩
              have HPa : Hid (PAt w wa) := HP9.out.next hba
              have HUa : Hid (UrlAt wa g2 A H po pa qr) := HU9.out.below hba HU9.out.lt
              have HWa : Hid (Own5 wa g2) := HW9.out.below hba HU9.out.lt
              have HOa : Hid (OrgAt wa g1 A H po) := HO9.out.below hba HO9.out.lt
              clear hba b0 b1 b2 b3 b4
              obtain ⟨b0, b1, b2, b3, b4⟩ := HUa.out
              obtain ⟨e0, e1, e2, e3, e4⟩ := HWa.out
              go_wp2_with fail
              obtain ⟨wb, hwb⟩ : ∃ wb, wb = wa.setCell ⟨g2, 3, none⟩ (.string cl) := ⟨_, rfl⟩
              have HPb : Hid (PAt w wb) := by rw [hwb]; exact HPa.out.set hgl
              have hFb : OrgAt wb g1 A H po ∧ UrlAt wb g2 A H po cl qr := by rw [hwb]; exact ⟨HOa.out.other hgn, HUa.out.put3 cl⟩
              rw [← hwb]
              clear hwb b0 b1 b2 b3 b4 e0 e1 e2 e3 e4
              refine mix_start (fun W => OrgAt W g1 A H po ∧ UrlAt W g2 A H po cl qr) (by kernel_rfl) ?_
              have hne2 : Nonempty (Held (fun W => OrgAt W g1 A H po ∧ UrlAt W g2 A H po cl qr)) := ⟨⟨_, hFb⟩⟩
              have hy0 : ∀ z : Held (fun W => OrgAt W g1 A H po ∧ UrlAt W g2 A H po cl qr), z.w.cell? ⟨g1, 0, none⟩ = some (.string A) := fun z => z.h.1.c0
              have hy1 : ∀ z : Held (fun W => OrgAt W g1 A H po ∧ UrlAt W g2 A H po cl qr), z.w.cell? ⟨g1, 1, none⟩ = some (.string H) := fun z => z.h.1.c1
              have hy2 : ∀ z : Held (fun W => OrgAt W g1 A H po ∧ UrlAt W g2 A H po cl qr), z.w.cell? ⟨g1, 2, none⟩ = some (.int .i64 po) := fun z => z.h.1.c2
              have hy3 : ∀ z : Held (fun W => OrgAt W g1 A H po ∧ UrlAt W g2 A H po cl qr), z.w.cell? ⟨g2, 3, none⟩ = some (.string cl) := fun z => z.h.2.c3
              have hy4 : ∀ z : Held (fun W => OrgAt W g1 A H po ∧ UrlAt W g2 A H po cl qr), z.w.cell? ⟨g2, 4, none⟩ = some (.string qr) := fun z => z.h.2.c4
              refine mix_seg [0, 3, 4, 5, 7, 8, 9] (by kernel_rfl) ⟨hFb.1.drew, hFb.2.drew⟩ ?_
              simp only [segOf, pickOps, pickOp]
              repeat (go_big_quiet_step (fail))
              refine wpQuiet_nil ?_
              refine mix_run 1 (by kernel_rfl) ?_
              simp only [segOf, pickOps, pickOp]
              go_wp2_with fail
              refine (refShow_as A H po tt _ (by unfold maxLen; omega) HTT.out).mono ?_
              rintro e wc ⟨rfl, hbc⟩
              have HPc : Hid (PAt w wc) := (HPb.out.drewN 1).next hbc
              have hFc : OrgAt wc g1 A H po ∧ UrlAt wc g2 A H po cl qr := ⟨hFb.1.drew.below hbc hFb.1.lt, hFb.2.drew.below hbc hFb.2.lt⟩
              clear hbc
              go_wp2_with fail
              refine MixPost.normal hFc ?_
              refine mix_seg [2, 6, 10, 11] (by kernel_rfl) hFc ?_
              simp only [segOf, pickOps, pickOp]
              repeat (go_big_quiet_step (fail))
              refine wpQuiet_nil ?_
              refine mix_done (by kernel_rfl) ?_
              obtain ⟨b0, b1, b2, b3, b4⟩ := hFc.2
              obtain ⟨c0, c1, c2, c3, c4⟩ := HPc.out.res
              obtain ⟨f0, f1, f2, f3, f4⟩ := HPc.out.own
              by_cases hln : 512 < tt.size + cl.size + qr.size
              · have HV := Lib.hid (tgtV_err (k := 4) (l := s.data.toList) (by rw [HRR.out, if_pos (by rw [HLN.out]; exact hln)]))
                have hdl : decide (512 < (tt.size : Int) + cl.size + qr.size) = true := by simp; omega
                go_wp2
                obtain ⟨q0, q1, q2, q3, q4⟩ := set5_url HPc.out.res ⟨#[]⟩ ⟨#[]⟩ 0 ⟨#[]⟩ ⟨#[]⟩
                unfold set5 at q0 q1 q2 q3 q4
                refine bodyPost_ret (v := .tuple #[.agg #[.string ⟨#[]⟩, .string ⟨#[]⟩, .int .i64 0, .string ⟨#[]⟩, .string ⟨#[]⟩], .int .i64 4]) (by simp [results, Tryz.results85, go_sem, q0, q1, q2, q3, q4]) rfl ?_
                exact ⟨by rw [HV.out], set5_below HPc.out.bel (Nat.le_refl _) _ _ _ _ _⟩
              · have HV : Hid (tgtV s.data.toList = .tuple #[.agg #[.string A, .string H, .int .i64 po, .string cl, .string qr], .int .i64 0]) := by
                  show _ = _
                  rw [tgtV, HRR.out, if_neg (by rw [HLN.out]; exact hln)]
                  show Value.tuple #[urlVal (urlOf A H po cl qr), _] = _
                  rw [urlVal_of]; rfl
                have hdl : decide (512 < (tt.size : Int) + cl.size + qr.size) = false := by simp; omega
                go_wp2
                obtain ⟨q0, q1, q2, q3, q4⟩ := set5_url HPc.out.res A H po cl qr
                unfold set5 at q0 q1 q2 q3 q4
                refine bodyPost_ret (v := .tuple #[.agg #[.string A, .string H, .int .i64 po, .string cl, .string qr], .int .i64 0]) (by simp [results, Tryz.results85, go_sem, q0, q1, q2, q3, q4]) rfl ?_
                exact ⟨by rw [HV.out], set5_below HPc.out.bel (Nat.le_refl _) _ _ _ _ _⟩
end Go.Proofs.YtlkneapidmdpbaaGreatDoor
