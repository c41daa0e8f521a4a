/-
  Contracts of the library's IndexAny and ContainsAny at bytes below 128, over this seat's program. Conditions: those of each statement.
-/
import Derived.Test.YtlkneapidmdpbaaGreatDoorLOct2
import Derived.Lib.IndexAny
import Derived.Laws.RangeAny
import Derived.Laws.Runes
import Derived.WalkMore
import Derived.Deep.LoopGhost
namespace Go.Proofs.YtlkneapidmdpbaaGreatDoor
open Go.RowKit

/-- a rune that is read from a byte of 128 or more is read from such bytes alone -/
theorem decode_wide (s : ByteArray) (pos : Nat) (h : pos < s.size) (ha : 128 ≤ (s.get! pos).toNat) :
    1 ≤ (Utf8.decode s pos).2 ∧ pos + (Utf8.decode s pos).2 ≤ s.size ∧ ∀ j, pos ≤ j → j < pos + (Utf8.decode s pos).2 → 128 ≤ (s.get! j).toNat := by
  have ha' : 128 ≤ (s.get! (pos + 0)).toNat := ha
  have hn : ¬ (s.get! (pos + 0)).toNat < 128 := by omega
  have one : 1 ≤ 1 ∧ pos + 1 ≤ s.size ∧ ∀ j, pos ≤ j → j < pos + 1 → 128 ≤ (s.get! j).toNat := ⟨Nat.le_refl _, h, fun j h1 h2 => by rw [show j = pos by omega]; exact ha⟩
  simp only [Utf8.decode, hn, if_false]
  split
  · rename_i hc
    simp only [Bool.and_eq_true, decide_eq_true_eq, beq_iff_eq] at hc
    split
    · refine ⟨by omega, by omega, fun j h1 h2 => ?_⟩
      rcases (by omega : j = pos ∨ j = pos + 1) with rfl | rfl
      · exact ha
      · omega
    · exact one
  · split
    · rename_i hc
      simp only [Bool.and_eq_true, decide_eq_true_eq, beq_iff_eq] at hc
      split
      · refine ⟨by omega, by omega, fun j h1 h2 => ?_⟩
        rcases (by omega : j = pos ∨ j = pos + 1 ∨ j = pos + 2) with rfl | rfl | rfl
        · exact ha
        · omega
        · omega
      · exact one
    · split
      · rename_i hc
        simp only [Bool.and_eq_true, decide_eq_true_eq, beq_iff_eq] at hc
        split
        · refine ⟨by omega, by omega, fun j h1 h2 => ?_⟩
          rcases (by omega : j = pos ∨ j = pos + 1 ∨ j = pos + 2 ∨ j = pos + 3) with rfl | rfl | rfl | rfl
          · exact ha
          · omega
          · omega
          · omega
        · exact one
      · exact one
theorem get_bang (s : ByteArray) (j : Nat) (h : j < s.size) : s.get! j = s[j] := get_at s j h
/-- the iterator of block g stands at pos -/
def IterAt (W : World) (g : Nat) (s : ByteArray) (pos : Nat) : Prop := W.heap[g]? = some (.stringIter s pos)
def iterTo (W : World) (g : Nat) (s : ByteArray) (pos : Nat) : World := { W with heap := W.heap.setIfInBounds g (.stringIter s pos) }
theorem IterAt.to {W : World} {g : Nat} {s : ByteArray} {pos : Nat} (h : IterAt W g s pos) (p : Nat) : IterAt (iterTo W g s p) g s p := by
  have hlt : g < W.heap.size := by
    rcases Nat.lt_or_ge g W.heap.size with h' | h'
    · exact h'
    · unfold IterAt at h; rw [Array.getElem?_eq_none h'] at h; cases h
  show (W.heap.setIfInBounds g (.stringIter s p))[g]? = _
  simp [hlt]
theorem IterAt.lt {W : World} {g : Nat} {s : ByteArray} {pos : Nat} (h : IterAt W g s pos) : g < W.heap.size := by
  rcases Nat.lt_or_ge g W.heap.size with h' | h'
  · exact h'
  · unfold IterAt at h; rw [Array.getElem?_eq_none h'] at h; cases h
theorem IterAt.below {W W' : World} {g : Nat} {s : ByteArray} {pos : Nat} (h : IterAt W g s pos) (hb : Below W.heap.size W W') : IterAt W' g s pos := (hb.block g h.lt).trans h
theorem below_iterTo {B : Nat} {w W : World} {g : Nat} (h : Below B w W) (hg : B ≤ g) (s : ByteArray) (p : Nat) : Below B w (iterTo W g s p) := by
  refine ⟨h.1, h.2, h.3, ?_, fun j hj => ?_⟩
  · show w.heap.size ≤ (W.heap.setIfInBounds g _).size
    rw [Array.size_setIfInBounds]; exact h.size
  · show (W.heap.setIfInBounds g _)[j]? = _
    rw [Array.getElem?_setIfInBounds_ne (by omega)]; exact h.block j hj
theorem next_at {W : World} {g : Nat} {s : ByteArray} {pos : Nat} (hg : IterAt W g s pos) (h : pos < s.size) (ty : TypeId) :
    (Instr.next (.pointer (some ⟨g, 0, none⟩)) true ty).run Tryz.prog W = .ok (.tuple #[.bool true, .int .i64 pos, .int .i32 (Utf8.decode s pos).1]) (iterTo W g s (pos + (Utf8.decode s pos).2)) := by
  unfold IterAt at hg
  simp only [Instr.next, getObj, setObj, Sem.run_bind, Sem.run, hg, Result.andThen, h, if_true]
  simp [goInt, iterTo]
theorem next_end {W : World} {g : Nat} {s : ByteArray} {pos : Nat} (hg : IterAt W g s pos) (h : ¬ pos < s.size) (ty : TypeId) :
    (Instr.next (.pointer (some ⟨g, 0, none⟩)) true ty).run Tryz.prog W = .ok (.tuple #[.bool false]) W := by
  unfold IterAt at hg
  simp [Instr.next, getObj, Sem.run, hg, h]

set_option maxHeartbeats 1000000 in
theorem ValidRune_any (r : Int) (w : World) :
    Calls Tryz.prog 232 #[.int .i32 r] w fun e w' => e = .returned (.bool (Utf8.valid r)) ∧ w = w' := by
  go_enter Tryz.func232, Tryz.ntmps232
  go_wp2
  all_goals
    go_ret
    exact ⟨ret_bool (by rw [Bool.eq_iff_iff]; simp [Utf8.valid]; omega), rfl⟩

theorem zero75 : ∀ w, (zeroValue 177).run Tryz.prog w = .ok (.agg (Array.replicate 256 (.bool false))) w := (zero_of_info (P := Tryz.prog) (n := 256) (by kernel_rfl)).1

/-- bytes below 128 alone -/
def Asc (cs : ByteArray) : Prop := ∀ b ∈ cs.data.toList, b.toNat < 128
theorem Asc.at {cs : ByteArray} (h : Asc cs) (i : Nat) (hi : i < cs.size) : cs[i].toNat < 128 := h _ (by
  have : cs.data.toList[i]? = some cs[i] := Lib.data_getElem? cs i hi
  exact List.mem_of_getElem? this)
theorem noAny_asc {s cs : ByteArray} {pos : Nat} (hc : Asc cs) (h : pos < s.size) (ha : 128 ≤ s[pos].toNat) (hno : Lib.NoAny s.data.toList cs.data.toList pos) :
    Lib.NoAny s.data.toList cs.data.toList (pos + (Utf8.decode s pos).2) := by
  intro j b hj hb
  by_cases hlt : j < pos
  · exact hno j b hlt hb
  · have hjs : j < s.size := by have := (List.getElem?_eq_some_iff.1 hb).1; simpa using this
    have h2 := (decode_wide s pos h (by rw [get_bang s pos h]; exact ha)).2.2 j (by omega) hj
    rw [get_bang s j hjs] at h2
    have e : s[j] = b := by
      have := (List.getElem?_eq_some_iff.1 hb).2
      rw [← this]; rfl
    rw [e] at h2
    cases hk : cs.data.toList.contains b
    · rfl
    · have := hc b (by simpa using hk); omega
theorem indexByte_high : ∀ (l : List UInt8) (c : UInt8), (∀ b ∈ l, b.toNat < 128) → 128 ≤ c.toNat → Lib.indexByte l c = -1
  | [], _, _, _ => rfl
  | b :: l, c, h, hc => by
    have ih := indexByte_high l c (fun x hx => h x (List.mem_cons_of_mem _ hx)) hc
    have hb := h b (by simp)
    have hne : b ≠ c := by rintro rfl; omega
    simp [Lib.indexByte, ih, hne]
theorem extract_asc {cs : ByteArray} (h : Asc cs) (i j : Nat) : Asc (cs.extract i j) := by
  intro b hb
  refine h b ?_
  have e : (cs.extract i j).data.toList = (cs.data.toList.take j).drop i := by simp [ByteArray.data_extract, List.drop_take]
  rw [e] at hb
  exact List.mem_of_mem_take (List.mem_of_mem_drop hb)
theorem IndexByte_high (x : ByteArray) (c : UInt8) (w : World) (hx : Asc x) (hc : 128 ≤ c.toNat) :
    Calls Tryz.prog 180 #[.string x, .int .u8 (c.toNat : Int)] w fun e w' => e = .returned (.int .i64 (-1)) ∧ w = w' := by
  refine (Tryz.strings_IndexByte x (c.toNat : Int) w).mono ?_
  rintro e w' ⟨rfl, rfl⟩
  refine ⟨?_, rfl⟩
  rw [show ((c.toNat : Int)).toNat.toUInt8 = c by simp, indexByte_high _ _ hx hc]

set_option maxRecDepth 100000 in
set_option maxHeartbeats 4000000 in
theorem IndexRune_wide (cs : ByteArray) (r : Int) (w : World) (hc : Asc cs) (hz : cs.size ≤ 1000) (h1 : 128 ≤ r) (h2 : r ≤ 2147483647) :
    Calls Tryz.prog 202 #[.string cs, .int .i32 r] w fun e w' => e = .returned (.int .i64 (-1)) ∧ Below w.heap.size w w' := by
  by_cases he : r = 65533
  · subst he
    have HC := Lib.hid hc
    clear hc
    go_enter Tryz.func202, Tryz.ntmps202
    go_wp2
    go_loopg [5, 6] cs.size (fun g _ _ wx => ∃ i : Nat, i + g = cs.size ∧ wx = w.iter cs i)
    case atStart => exact ⟨0, by omega, rfl⟩
    case round =>
      obtain ⟨i, hig, rfl⟩ := hrel
      by_cases hlt : i < cs.size
      · have hx := HC.out.at i hlt
        have hnx := fun ty => run_next_ascii (P := Tryz.prog) w cs i ty hlt hx
        generalize cs[i].toNat = x at *
        have hne : ((x : Int) == 65533) = false := by simp; omega
        go_wp2
        go_roundg (gk - 1)
        case measure => omega
        case rel => exact ⟨i + 1, by omega, rfl⟩
      · have hnx := fun ty => run_next_end (P := Tryz.prog) w cs i ty (by omega)
        go_wp2
        go_ret
        exact ⟨rfl, (Below.refl _ _).alloc (Nat.le_refl _) _⟩
  · cases hv : Utf8.valid r
    · have HV := Lib.hid hv
      go_enter Tryz.func202, Tryz.ntmps202
      go_wp2_with (go_at_call 232; refine (ValidRune_any _ _).mono ?_; rintro e w' ⟨rfl, rfl⟩; rw [HV.out])
      go_ret
      exact ⟨rfl, Below.refl _ _⟩
    · obtain ⟨z1, z2, z3⟩ := encode_facts r hv h1
      have HV := Lib.hid hv
      have hcv := run_convert_int_string (P := Tryz.prog) w 21 9 .i32 r (by rw [Tryz.underlying21]; rfl) Tryz.underlying9
      obtain ⟨t, ht⟩ : ∃ t, t = Utf8.encode r := ⟨_, rfl⟩
      rw [← ht] at z1 z2 z3 hcv
      clear ht hv
      obtain ⟨L, hLt, hL⟩ : ∃ L, L < t.size ∧ t.size = L + 1 := ⟨t.size - 1, by omega, by omega⟩
      have z4 : 128 ≤ (t[L]'hLt).toNat := by
        have := z3 (by omega)
        simpa [hL] using this
      clear z3
      by_cases h3 : L < cs.size
      · have hcl := hc.at L h3
        have HC := Lib.hid hc
        clear hc
        have hne : (((cs[L]'h3).toNat : Int) != ((t[L]'hLt).toNat : Int)) = true := by rw [bne_iff_ne]; omega
        go_enter Tryz.func202, Tryz.ntmps202
        go_wp2_with (go_at_call 232; refine (ValidRune_any _ _).mono ?_; rintro e w' ⟨rfl, rfl⟩; rw [HV.out])
        go_step3
        go_wp2
        go_loopw [9, 10, 11, 12] (fun i _ _ _ wx => i = .int .i64 (L : Int) ∧ wx = w) (fun _ _ _ _ _ => 0)
        case atStart => exact ⟨rfl, rfl⟩
        case round =>
          obtain ⟨rfl, rfl⟩ := hrel
          go_wp2_with fail
          go_step3
          go_wp2_with fail
          clear hL z1 z2
          go_quiet (fail)
          generalize hwq : wr.drewN nq = wq
          go_wp2_with fail
          go_quiet ((go_at_call 180; exact quiet_mine (IndexByte_high _ _ _ (extract_asc HC.out _ _) z4)))
          go_wp2
          rw [Exit.noGoto_ret]
          go_wp2
          rw [Exit.noGoto_ret]
          go_ret
          subst hwq
          exact ⟨rfl, below_drewN (below_drewN (Below.refl _ _) _) _⟩
      · have hge : ¬ ((L : Int) < (cs.size : Int)) := by omega
        go_enter Tryz.func202, Tryz.ntmps202
        go_wp2_with (go_at_call 232; refine (ValidRune_any _ _).mono ?_; rintro e w' ⟨rfl, rfl⟩; rw [HV.out])
        go_step3
        go_wp2
        go_loopw [9, 10, 11, 12] (fun i _ _ _ wx => i = .int .i64 (L : Int) ∧ wx = w) (fun _ _ _ _ _ => 0)
        case atStart => exact ⟨rfl, rfl⟩
        case round =>
          obtain ⟨rfl, rfl⟩ := hrel
          go_wp2
          try rw [Exit.noGoto_ret]
          go_ret
          exact ⟨rfl, Below.refl _ _⟩

set_option maxHeartbeats 4000000 in
set_option maxRecDepth 100000 in
theorem IndexAny_asc (s cs : ByteArray) (w : World) (hs : s.size < 4294967281) (hc : Asc cs) (hz : cs.size ≤ 1000) (hz2 : 2 ≤ cs.size) :
    Calls Tryz.prog 179 #[.string s, .string cs] w fun e w' => e = .returned (.int .i64 (Lib.indexAny s.data.toList cs.data.toList)) ∧ Below w.heap.size w w' := by
  by_cases h8 : 8 < s.size
  · refine (Tryz.strings_IndexAny_long zero75 s cs w hz2 h8 hs (by omega) ?_).mono ?_
    · intro j b hb
      exact hc b (List.mem_of_getElem? hb)
    · rintro e w' ⟨rfl, rfl⟩
      exact ⟨rfl, ((Below.refl _ _).alloc (Nat.le_refl _) _).alloc (by simp) _⟩
  have HC0 := Lib.hid hc
  clear hc
  have he1 : cs.toList.isEmpty = false := ba_notEmpty (by intro e; have h0 : cs.size = 0 := congrArg List.length e; omega)
  have he2 : ((cs.size : Int) == 1) = false := by simp; omega
  have h8z : decide ((8 : Int) < (s.size : Int)) = false := decide_eq_false (by omega)
  go_enter Tryz.func179, Tryz.ntmps179
  go_wp2_with (go_at_call 203; refine (Tryz.strings_shouldUseASCIISet _ _).mono ?_; rintro e w' ⟨rfl, hw⟩; rw [hw, h8z])
  go_loopg [9, 10] s.size (fun g _ _ wx => ∃ i : Nat, i ≤ s.size ∧ s.size - i ≤ g ∧ IterAt wx w.heap.size s i ∧ Below w.heap.size w wx ∧ Lib.NoAny s.data.toList cs.data.toList i)
  case atStart => exact ⟨0, by omega, by omega, World.iter_heap w s 0, (Below.refl _ _).alloc (Nat.le_refl _) _, Lib.NoAny.zero _ _⟩
  case round =>
    obtain ⟨i, hi, hig, hit, hbl, hno⟩ := hrel
    have HN := Lib.hid hno
    have HB := Lib.hid hbl
    have HI := Lib.hid hit
    clear hno hbl hit
    by_cases hlt : i < s.size
    · obtain ⟨x, hx⟩ : ∃ x : UInt8, s[i]'hlt = x := ⟨_, rfl⟩
      have hxl : s.data.toList[i]? = some x := by rw [← hx]; exact Lib.data_getElem? s i hlt
      have Hx := Lib.hid hxl
      clear hxl
      by_cases hx128 : x.toNat < 128
      · have hdec : Utf8.decode s i = (x.toNat, 1) := by rw [decode_ascii s i hlt (by rw [hx]; exact hx128), hx]
        have hnx := fun ty => next_at HI.out hlt ty
        rw [hdec] at hnx
        have HI2 : Hid (IterAt (iterTo wr w.heap.size s (i + 1)) w.heap.size s (i + 1)) := HI.out.to _
        have HB2 : Hid (Below w.heap.size w (iterTo wr w.heap.size s (i + 1))) := below_iterTo HB.out (Nat.le_refl _) _ _
        clear hx hdec
        have hcon := Lib.contains_iff_indexByte cs.data.toList x
        have hback : ((x.toNat : Int)).toNat.toUInt8 = x := by simp
        generalize iterTo wr w.heap.size s (i + 1) = wr2 at *
        cases hin : cs.data.toList.contains x
        · rw [hin] at hcon
          have hlt2 : ¬ ((0 : Int) ≤ Lib.indexByte cs.data.toList x) := of_decide_eq_false hcon.symm
          have HC := Lib.hid hin
          clear hcon hin
          go_wp2_with (go_at_call 202; refine (Tryz.strings_IndexRune_ascii _ _ _ (by omega) (by omega)).mono ?_; rintro e w' ⟨rfl, hw⟩; rw [hw, hback])
          go_roundg (gk - 1)
          case measure => omega
          case rel => exact ⟨i + 1, by omega, by omega, HI2.out, HB2.out, HN.out.succ Hx.out HC.out⟩
        · rw [hin] at hcon
          have hge : (0 : Int) ≤ Lib.indexByte cs.data.toList x := of_decide_eq_true hcon.symm
          have HC := Lib.hid hin
          clear hcon hin
          go_wp2_with (go_at_call 202; refine (Tryz.strings_IndexRune_ascii _ _ _ (by omega) (by omega)).mono ?_; rintro e w' ⟨rfl, hw⟩; rw [hw, hback])
          go_ret
          exact ⟨ret_int (by rw [Lib.indexAny_hit HN.out Hx.out HC.out]), HB2.out⟩
      · have hnx := fun ty => next_at HI.out hlt ty
        obtain ⟨d1, d2, _⟩ := decode_wide s i hlt (by rw [get_bang s i hlt, hx]; omega)
        have hd128 := (decode_high s i hlt (by rw [hx]; omega)).1
        have hdle := decode_le s i
        have HNW := Lib.hid (noAny_asc HC0.out hlt (by rw [hx]; omega) HN.out)
        generalize Utf8.decode s i = d at *
        obtain ⟨r, k⟩ := d
        simp only at hnx d1 d2 hd128 hdle
        have HNW2 : Hid (Lib.NoAny s.data.toList cs.data.toList (i + k)) := HNW.out
        have HI2 : Hid (IterAt (iterTo wr w.heap.size s (i + k)) w.heap.size s (i + k)) := HI.out.to _
        have HB2 : Hid (Below w.heap.size w (iterTo wr w.heap.size s (i + k))) := below_iterTo HB.out (Nat.le_refl _) _ _
        clear hx HNW
        generalize iterTo wr w.heap.size s (i + k) = wr2 at *
        go_wp2_with fail
        refine (IndexRune_wide cs r _ HC0.out hz (by omega) (by omega)).mono ?_
        rintro e w3 ⟨rfl, hb3⟩
        have HI3 : Hid (IterAt w3 w.heap.size s (i + k)) := HI2.out.below hb3
        have HB3 : Hid (Below w.heap.size w w3) := HB2.out.trans (hb3.mono HB2.out.size)
        clear hb3
        go_wp2
        go_roundg (gk - 1)
        case measure => omega
        case rel => exact ⟨i + k, by omega, by omega, HI3.out, HB3.out, HNW2.out⟩
    · have hnx := fun ty => next_end HI.out hlt ty
      go_wp2
      go_ret
      obtain rfl : i = s.size := by omega
      exact ⟨ret_int (by rw [Lib.indexAny_none (by rw [← Lib.size_eq]; exact HN.out)]), HB.out⟩

set_option maxHeartbeats 1000000 in
theorem ContainsAny_asc (s cs : ByteArray) (w : World) (hs : s.size < 4294967281) (hc : Asc cs) (hz : cs.size ≤ 1000) (hz2 : 2 ≤ cs.size) :
    Calls Tryz.prog 210 #[.string s, .string cs] w fun e w' => e = .returned (.bool (Lib.containsAny s.data.toList cs.data.toList)) ∧ Below w.heap.size w w' := by
  go_enter Tryz.func210, Tryz.ntmps210
  go_wp2_with fail
  refine (IndexAny_asc s cs _ hs hc hz hz2).mono ?_
  rintro e w' ⟨rfl, hb⟩
  go_wp2
  go_ret
  exact ⟨rfl, hb⟩
theorem containsAny_eq (cs : List UInt8) : ∀ s : List UInt8, Lib.containsAny s cs = s.any cs.contains
  | [] => rfl
  | b :: l => by
    have ih := containsAny_eq cs l
    unfold Lib.containsAny at ih ⊢
    have hge := Lib.indexAny_ge cs l
    rw [Lib.indexAny, List.any_cons, ← ih]
    cases h : cs.contains b
    · simp only [Bool.false_eq_true, if_false, Bool.false_or]
      split
      · rename_i h1
        rw [beq_iff_eq] at h1
        rw [h1]
      · rename_i h1
        rw [beq_iff_eq] at h1
        rw [decide_eq_decide]
        omega
    · simp
end Go.Proofs.YtlkneapidmdpbaaGreatDoor
