/-
  The contracts of header's Get and Set over this seat's program: each returns what the plain mathematics says, and nothing that was there has turned. Conditions: at most a thousand headers, each text of at most 100,000 bytes.
-/
import Derived.Test.YtinpfkbplflecaaDHdr2
namespace Go.Proofs.Ytinpfkbplflecaa
open Go.RowKit

/-- not too many headers, not too long ones -/
def Sm (l : List Hd) : Prop := l.length ≤ 1000 ∧ ∀ h ∈ l, h.1.length ≤ 100000 ∧ h.2.length ≤ 100000
theorem Sm.sizes {xs : List (ByteArray × ByteArray)} (h : Sm (xs.map hd)) : xs.length ≤ 1000 ∧ ∀ x ∈ xs, x.1.size ≤ 100000 ∧ x.2.size ≤ 100000 :=
  ⟨by simpa using h.1, fun x hx => h.2 (hd x) (List.mem_map_of_mem hx)⟩
theorem sum_le {K : Nat} : ∀ l : List (List UInt8), (∀ x ∈ l, x.length ≤ K) → (l.map List.length).sum ≤ K * l.length
  | [], _ => by simp
  | x :: r, h => by
    have h1 := h x (by simp)
    have h2 := sum_le r fun y hy => h y (List.mem_cons_of_mem _ hy)
    simp only [List.map_cons, List.sum_cons, List.length_cons, Nat.mul_add, Nat.mul_one]
    omega
theorem vals_len (l : List Hd) (n : List UInt8) : (valsH l n).length ≤ l.length := by
  unfold valsH; rw [List.length_map]; exact List.length_filter_le _ _
theorem vals_small {l : List Hd} (h : Sm l) (n : List UInt8) : ∀ x ∈ valsH l n, x.length ≤ 100000 := by
  intro x hx
  unfold valsH at hx
  obtain ⟨g, hg, rfl⟩ := List.mem_map.1 hx
  have := h.2 g (List.mem_filter.1 hg).1
  exact Nat.le_trans (Lk.trim_len _) this.2
theorem get_len {l : List Hd} (h : Sm l) (n : List UInt8) : (getH l n).length ≤ 200000000 := by
  have h1 := Lk.join_len (valsH l n)
  have h2 := sum_le _ (vals_small h n)
  have h3 := vals_len l n
  have h4 := h.1
  unfold getH
  have h5 : 100000 * (valsH l n).length ≤ 100000 * 1000 := Nat.mul_le_mul_left _ (by omega)
  omega
theorem trow_of {w : World} {b : Nat} {v : Value} {xs : List (List UInt8)} (h : w.ownsRow b 9 1 v xs.length (xs.map sv)) :
    ∃ A c, v = .slice A xs.length c ∧ xs.length ≤ c ∧ SRow w w.heap.size A (xs.map mk) := by
  have h0 := h
  rcases h.2 with ⟨e1, e2⟩ | ⟨g, cap, cur, e1, _, _, e4, _⟩
  · obtain ⟨A, c, e, hr⟩ := srow_of h0
    exact ⟨A, c, e, by omega, hr⟩
  · obtain ⟨A, c, e, hr⟩ := srow_of h0
    refine ⟨A, c, e, ?_, hr⟩
    rw [e1] at e
    injection e with _ _ e
    omega
theorem dat_mk (l : List (List UInt8)) : dat (l.map mk) = l := by
  unfold dat
  rw [List.map_map]
  conv => rhs; rw [← List.map_id l]
  apply List.map_congr_left
  intro x _
  exact mk_data x
theorem take_hd {xs : List (ByteArray × ByteArray)} {k : Nat} {x : ByteArray × ByteArray} (h : xs.take (k + 1) = xs.take k ++ [x]) : (xs.take (k + 1)).map hd = (xs.take k).map hd ++ [hd x] := by rw [h]; simp

set_option maxHeartbeats 2000000 in
theorem Get_any (A : Option Addr) (len c B : Nat) (xs : List (ByteArray × ByteArray)) (name : ByteArray) (w : World) (hlen : len = xs.length) (hB : B ≤ w.heap.size) (hx : PRow w B A xs) (hsm : Sm (xs.map hd)) (hname : name.size ≤ maxLen) :
    Calls Try.prog 13 #[.slice A len c, .string name] w fun e w' => e = .returned (.tuple #[.string (mk (getH (xs.map hd) name.data.toList)), .bool (gotH (xs.map hd) name.data.toList)]) ∧ Below w.heap.size w w' := by
  subst hlen
  obtain ⟨hl, hs⟩ := hsm.sizes
  have HG := Lib.hid (get_len hsm name.data.toList)
  have HVL := Lib.hid (vals_len (xs.map hd) name.data.toList)
  have HX := Lib.hid hx
  have HS := Lib.hid hs
  clear hx hs hsm
  obtain ⟨i0, hi, hz0, hz1, hz2⟩ := info_parts infoS
  go_enter Try.func13, Try.ntmps13
  go_wp2_with fail
  go_loopw [6, 11] (fun v i wr => ∃ (k : Nat) (dl : List Hd), k ≤ xs.length ∧ i = .int .i64 k ∧ dl = (xs.take k).map hd ∧ wr.ownsRow w.heap.size 9 1 v (valsH dl name.data.toList).length ((valsH dl name.data.toList).map sv) ∧ Below w.heap.size w wr) (fun _ i _ => xs.length - (intOf i).toNat)
  case atStart => exact ⟨0, [], Nat.zero_le _, rfl, rfl, World.ownsRow_nil _ _ _ _, Below.refl _ _⟩
  case round =>
    obtain ⟨k, dl, hk, rfl, hdl, hr, hb⟩ := hrel
    have HDL := Lib.hid hdl
    have HRR := Lib.hid hr
    have HBB := Lib.hid hb
    clear hr hb hdl
    by_cases hlt : k < xs.length
    · obtain ⟨ad, hA, _, hc1, hc2⟩ := ((HX.out.mono hB).below HBB.out) k xs[k] (List.getElem?_eq_getElem hlt)
      have hz := HS.out xs[k] (List.getElem_mem hlt)
      have HD := Lib.hid (take_hd (List.take_succ_eq_append_getElem hlt))
      have HVK : Hid ((valsH dl name.data.toList).length ≤ k) := by
        show _ ≤ _
        have h1 := vals_len dl name.data.toList
        have h2 : dl.length = k := by rw [HDL.out]; simp; omega
        omega
      generalize xs[k] = x at *
      obtain ⟨x1, x2⟩ := x
      subst hA
      obtain ⟨W, hW⟩ : ∃ W, W = wr.alloc (.cells #[.string x1, .string x2] 41) := ⟨_, rfl⟩
      have HBW : Hid (Below w.heap.size w W) := by show Below _ _ _; rw [hW]; exact HBB.out.alloc HBB.out.size _
      have HRW : Hid (W.ownsRow w.heap.size 9 1 u6 (valsH dl name.data.toList).length ((valsH dl name.data.toList).map sv)) := by show World.ownsRow _ _ _ _ _ _ _; rw [hW]; exact HRR.out.alloc _
      have HBC : Hid (W.cell? ⟨wr.heap.size, 1, none⟩ = some (.string x2)) := by show _ = _; rw [hW]; simp
      obtain ⟨t, ht⟩ : ∃ t : ByteArray, t = ⟨(Lk.trimL x2.data.toList).toArray⟩ := ⟨_, rfl⟩
      have HT := Lib.hid ht
      have HTL : Hid (sv (Lk.trimL x2.data.toList) = .string t) := by show _ = _; rw [ht]; rfl
      clear ht
      go_wp2_with fail
      rw [← hW]
      refine (Fold_any x1 name _ (by unfold maxLen; omega) hname).mono ?_
      rintro e w2 ⟨rfl, n, hw2⟩
      have HB2 : Hid (Below w.heap.size w w2) := by show Below _ _ _; rw [hw2]; exact below_drewN HBW.out n
      have HR2 : Hid (w2.ownsRow w.heap.size 9 1 u6 (valsH dl name.data.toList).length ((valsH dl name.data.toList).map sv)) := by show World.ownsRow _ _ _ _ _ _ _; rw [hw2]; exact HRW.out
      have hbc : w2.cell? ⟨wr.heap.size, 1, none⟩ = some (.string x2) := by rw [hw2]; exact HBC.out
      clear hw2 hW hc1 hc2 HBW HRW HBC
      cases hf : Lk.foldL x1.data.toList name.data.toList
      · have HF := Lib.hid hf
        clear hf
        go_wp2
        go_roundw
        case rel =>
          refine ⟨k + 1, dl ++ [hd (x1, x2)], by omega, by go_num, by rw [HD.out, HDL.out], ?_, HB2.out⟩
          rw [vals_snoc, show Lk.foldL (hd (x1, x2)).1 name.data.toList = false from HF.out]
          simpa using HR2.out
        case measure => simp [intOf]; omega
      · have HF := Lib.hid hf
        clear hf
        go_wp2_with fail
        refine (Trim_as x2 t _ (by unfold maxLen; omega) HT.out).mono ?_
        rintro e w' ⟨rfl, rfl⟩
        go_wp2_with (at_builtin; refine wpList_append_own _ rfl (.tmp 19) (.tmp 23) 36 rfl w.heap.size 9 i0 (.string ⟨#[]⟩) 1 16 Try.underlying36 hi hz0 hz1 hz2 rfl (by decide) _ _ _ rfl (World.ownsRow.alloc (w := w2) HR2.out _) ⟨w2.heap.size, 0, none⟩ 1 1 [.string t] rfl rfl ?c1 ?c2 ?c3 ?c4 ?c5 ?_)
        case c1 => exact cell_one_new _ _ _
        case c2 => intro u hu; simp at hu; subst hu; rfl
        case c3 => have := HVK.out; unfold maxLen; omega
        case c4 => have := HVK.out; omega
        case c5 => have := HB2.out.size; simp; omega
        intro v' w3 hown' hgrow _
        have HR3 := Lib.hid hown'
        have HB3 : Hid (Below w.heap.size w w3) := (HB2.out.alloc HB2.out.size _).grown hgrow (by have := HB2.out.size; simp; omega) (fun b hb => (HR2.out.lt b hb).1)
        clear hown' hgrow
        go_wp2
        go_roundw
        case rel =>
          refine ⟨k + 1, dl ++ [hd (x1, x2)], by omega, by go_num, by rw [HD.out, HDL.out], ?_, HB3.out⟩
          rw [vals_snoc, show Lk.foldL (hd (x1, x2)).1 name.data.toList = true from HF.out, if_pos rfl, List.length_append, List.map_append, List.map_cons, List.map_nil, show sv (Lk.trimL (hd (x1, x2)).2) = .string t from HTL.out]
          exact HR3.out
        case measure => simp [intOf]; omega
    · obtain rfl : k = xs.length := by omega
      have hr := HRR.out
      rw [HDL.out, List.take_length] at hr
      obtain ⟨A2, c2, e2, hc2, hsr⟩ := trow_of hr
      have HSR := Lib.hid hsr
      clear hr hsr
      subst e2
      have HJ : Hid (Lk.joinL (dat ((valsH (xs.map hd) name.data.toList).map mk)) = getH (xs.map hd) name.data.toList) := by show _ = _; rw [dat_mk]; rfl
      have HO : Hid (gotH (xs.map hd) name.data.toList = decide (0 < (valsH (xs.map hd) name.data.toList).length)) := got_vals _ _
      go_wp2_with fail
      refine (Join_any A2 _ c2 wr.heap.size ((valsH (xs.map hd) name.data.toList).map mk) _ (by simp) HSR.out (Nat.le_refl _) (by simpa using hc2) (by have := HVL.out; simp at this ⊢; omega) (by rw [HJ.out]; have := HG.out; omega)).mono ?_
      rintro e w3 ⟨rfl, hb3⟩
      rw [HJ.out]
      go_wp2
      go_ret2
      exact ⟨by rw [HO.out]; rfl, HBB.out.trans (hb3.mono HBB.out.size)⟩

theorem set_of {l : List Hd} {n v : List UInt8} {dl : List Hd} {f : Bool} (h1 : dl = setR n v false l) (h2 : f = gotH l n) : setH l n v = dl ++ (if f then [] else [(n, v)]) := by rw [h1, h2]; rfl
theorem setR_yes {n v : List UInt8} {l : List Hd} {h : Hd} (hf : Lk.foldL h.1 n = true) (hg : gotH l n = true) : setR n v false (l ++ [h]) = setR n v false l := by rw [setR_snoc, hf, hg]; simp
theorem setR_first {n v : List UInt8} {l : List Hd} {h : Hd} (hf : Lk.foldL h.1 n = true) (hg : gotH l n = false) : setR n v false (l ++ [h]) = setR n v false l ++ [(h.1, v)] := by rw [setR_snoc, hf, hg]; simp
theorem setR_no {n v : List UInt8} {l : List Hd} {h : Hd} (hf : Lk.foldL h.1 n = false) : setR n v false (l ++ [h]) = setR n v false l ++ [h] := by rw [setR_snoc, hf]; simp
theorem got_snoc {n : List UInt8} {l : List Hd} {h : Hd} {b : Bool} (hf : Lk.foldL h.1 n = b) : gotH (l ++ [h]) n = (gotH l n || b) := by rw [got_append, got_cons, hf]; simp [gotH]
theorem setR_len (n v : List UInt8) (f : Bool) (l : List Hd) : (setR n v f l).length ≤ l.length := by
  induction l generalizing f with
  | nil => simp [setR]
  | cons h r ih =>
    rw [setR]
    have h1 := ih true
    have h2 := ih f
    repeat' split
    all_goals simp; omega

theorem cells_two_new (w : World) (x y : Value) (t : TypeId) : ∀ j u, [x, y][j]? = some u → (w.alloc (.cells #[x, y] t)).cell? ((⟨w.heap.size, 0, none⟩ : Addr).add j) = some u := by
  intro j u hj
  rw [add_own]
  match j, hj with
  | 0, hj => simp at hj; subst hj; simp
  | 1, hj => simp at hj; subst hj; simp

set_option maxHeartbeats 2000000 in
theorem Set_any (A : Option Addr) (len c B : Nat) (xs : List (ByteArray × ByteArray)) (name value : ByteArray) (w : World) (hlen : len = xs.length) (hB : B ≤ w.heap.size) (hx : PRow w B A xs) (hsm : Sm (xs.map hd)) (hname : name.size ≤ maxLen) :
    Calls Try.prog 22 #[.slice A len c, .string name, .string value] w fun e w' => ∃ v, e = .returned v ∧ HdRow w' w.heap.size v (setH (xs.map hd) name.data.toList value.data.toList) ∧ Below w.heap.size w w' := by
  subst hlen
  obtain ⟨hl, hs⟩ := hsm.sizes
  have HX := Lib.hid hx
  have HS := Lib.hid hs
  clear hx hs hsm
  obtain ⟨i0, hi, hz0, hz1, hz2⟩ := info_parts infoH
  go_enter Try.func22, Try.ntmps22
  go_wp2_with (at_make; refine wpList_make_own _ rfl _ _ 22 rfl w.heap.size 41 i0 (.agg #[.string ⟨#[]⟩, .string ⟨#[]⟩]) 2 Try.underlying22 hi hz0 hz1 _ _ _ (xs.length + 1) rfl rfl (by omega) ?d1 ?d2 ?d3 ?_)
  case d1 => rw [hz2]; omega
  case d2 => unfold maxLen; omega
  case d3 => exact Nat.le_refl _
  intro w1 hown hg
  have hbe : Below w.heap.size w w1 := (Below.refl _ _).grown hg (Nat.le_refl _) (by intro k hk; cases hk)
  have HR := Lib.hid hown
  have BE := Lib.hid hbe
  clear hown hg hbe
  go_wp2_with fail
  go_loopw [7, 8, 17] (fun v f i wr => ∃ (k : Nat) (pl dl : List Hd) (b : Bool), k ≤ xs.length ∧ i = .int .i64 k ∧ f = .bool b ∧ pl = (xs.take k).map hd ∧ dl = setR name.data.toList value.data.toList false pl ∧ b = gotH pl name.data.toList ∧ wr.ownsRow w.heap.size 41 2 v dl.length (hcs dl) ∧ Below w.heap.size w wr) (fun _ _ i _ => xs.length - (intOf i).toNat)
  case atStart => exact ⟨0, [], [], false, Nat.zero_le _, rfl, rfl, rfl, rfl, rfl, HR.out, BE.out⟩
  case round =>
    obtain ⟨k, pl, dl, b, hk, rfl, rfl, hpl, hdl, hbg, hr, hb⟩ := hrel
    have hdk : dl.length ≤ k := by
      have h1 := setR_len name.data.toList value.data.toList false pl
      have h2 : pl.length = k := by rw [hpl]; simp; omega
      rw [← hdl] at h1; omega
    have HPL := Lib.hid hpl
    have HDL := Lib.hid hdl
    have HBG := Lib.hid hbg
    have HRR := Lib.hid hr
    have HBB := Lib.hid hb
    clear hr hb hpl hdl hbg
    by_cases hlt : k < xs.length
    · obtain ⟨ad, hA, _, hc1, hc2⟩ := ((HX.out.mono hB).below HBB.out) k xs[k] (List.getElem?_eq_getElem hlt)
      have hz := HS.out xs[k] (List.getElem_mem hlt)
      have HD := Lib.hid (take_hd (List.take_succ_eq_append_getElem hlt))
      generalize xs[k] = x at *
      obtain ⟨x1, x2⟩ := x
      subst hA
      obtain ⟨W, hW⟩ : ∃ W, W = wr.alloc (.cells #[.string x1, .string x2] 41) := ⟨_, rfl⟩
      have HBW : Hid (Below w.heap.size w W) := by show Below _ _ _; rw [hW]; exact HBB.out.alloc HBB.out.size _
      have HRW : Hid (W.ownsRow w.heap.size 41 2 u7 dl.length (hcs dl)) := by show World.ownsRow _ _ _ _ _ _ _; rw [hW]; exact HRR.out.alloc _
      have HBC : Hid (HdAt W wr.heap.size x1 x2) := by show HdAt _ _ _ _; rw [hW]; exact HdAt.new _ _ _ _
      go_wp2_with fail
      rw [← hW]
      refine (Fold_any x1 name _ (by unfold maxLen; omega) hname).mono ?_
      rintro e w2 ⟨rfl, n, hw2⟩
      have HB2 : Hid (Below w.heap.size w w2) := by show Below _ _ _; rw [hw2]; exact below_drewN HBW.out n
      have HR2 : Hid (w2.ownsRow w.heap.size 41 2 u7 dl.length (hcs dl)) := by show World.ownsRow _ _ _ _ _ _ _; rw [hw2]; exact HRW.out
      obtain ⟨b0, b1⟩ : HdAt w2 wr.heap.size x1 x2 := by rw [hw2]; exact ⟨HBC.out.c0, HBC.out.c1⟩
      clear hw2 hW hc1 hc2 HBW HRW HBC
      cases hf : Lk.foldL x1.data.toList name.data.toList
      · have HF := Lib.hid hf
        clear hf
        go_wp2_with (at_builtin; refine wpList_append_own _ rfl (.tmp 26) (.tmp 28) 22 rfl w.heap.size 41 i0 (.agg #[.string ⟨#[]⟩, .string ⟨#[]⟩]) 2 32 Try.underlying22 hi hz0 hz1 hz2 rfl (by decide) _ _ _ rfl (World.ownsRow.alloc (w := w2) HR2.out _) ⟨w2.heap.size, 0, none⟩ 1 1 [.string x1, .string x2] rfl rfl ?c1 ?c2 ?c3 ?c4 ?c5 ?_)
        case c1 => exact cells_two_new _ _ _ _
        case c2 => intro u hu; simp at hu; rcases hu with rfl | rfl <;> rfl
        case c3 => unfold maxLen; omega
        case c4 => omega
        case c5 => have := HB2.out.size; simp; omega
        intro v' w3 hown' hgrow _
        have HR3 := Lib.hid hown'
        have HB3 : Hid (Below w.heap.size w w3) := (HB2.out.alloc HB2.out.size _).grown hgrow (by have := HB2.out.size; simp; omega) (fun b hb => (HR2.out.lt b hb).1)
        clear hown' hgrow
        go_wp2
        go_roundw
        case rel =>
          refine ⟨k + 1, pl ++ [hd (x1, x2)], dl ++ [hd (x1, x2)], b, by omega, by go_num, rfl, by rw [HD.out, HPL.out], by rw [HDL.out, setR_no HF.out], by rw [got_snoc HF.out, HBG.out]; simp, HdRow.more HR3.out, HB3.out⟩
        case measure => simp [intOf]; omega
      · have HF := Lib.hid hf
        clear hf
        cases b
        · go_wp2_with (at_builtin; refine wpList_append_own _ rfl (.tmp 32) (.tmp 37) 22 rfl w.heap.size 41 i0 (.agg #[.string ⟨#[]⟩, .string ⟨#[]⟩]) 2 32 Try.underlying22 hi hz0 hz1 hz2 rfl (by decide) _ _ _ rfl (World.ownsRow.alloc (w := w2) HR2.out _) ⟨w2.heap.size, 0, none⟩ 1 1 [.string x1, .string value] rfl rfl ?d1 ?d2 ?d3 ?d4 ?d5 ?_)
          case d1 => exact cells_two_new _ _ _ _
          case d2 => intro u hu; simp at hu; rcases hu with rfl | rfl <;> rfl
          case d3 => unfold maxLen; omega
          case d4 => omega
          case d5 => have := HB2.out.size; simp; omega
          intro v' w3 hown' hgrow _
          have HR3 := Lib.hid hown'
          have HB3 : Hid (Below w.heap.size w w3) := (HB2.out.alloc HB2.out.size _).grown hgrow (by have := HB2.out.size; simp; omega) (fun b hb => (HR2.out.lt b hb).1)
          clear hown' hgrow
          go_wp2
          go_roundw
          case rel =>
            refine ⟨k + 1, pl ++ [hd (x1, x2)], dl ++ [(x1.data.toList, value.data.toList)], true, by omega, by go_num, rfl, by rw [HD.out, HPL.out], by rw [HDL.out, setR_first HF.out HBG.out.symm]; rfl, by rw [got_snoc HF.out]; simp, HdRow.more HR3.out, HB3.out⟩
          case measure => simp [intOf]; omega
        · go_wp2
          go_roundw
          case rel =>
            refine ⟨k + 1, pl ++ [hd (x1, x2)], dl, true, by omega, by go_num, rfl, by rw [HD.out, HPL.out], by rw [HDL.out, setR_yes HF.out HBG.out.symm], by rw [got_snoc HF.out]; simp, HR2.out, HB2.out⟩
          case measure => simp [intOf]; omega
    · obtain rfl : k = xs.length := by omega
      have HP2 : Hid (pl = xs.map hd) := by show _ = _; rw [HPL.out, List.take_length]
      cases b
      · go_wp2_with (at_builtin; refine wpList_append_own _ rfl (.tmp 42) (.tmp 46) 22 rfl w.heap.size 41 i0 (.agg #[.string ⟨#[]⟩, .string ⟨#[]⟩]) 2 32 Try.underlying22 hi hz0 hz1 hz2 rfl (by decide) _ _ _ rfl (World.ownsRow.alloc (w := wr) HRR.out _) ⟨wr.heap.size, 0, none⟩ 1 1 [.string name, .string value] rfl rfl ?e1 ?e2 ?e3 ?e4 ?e5 ?_)
        case e1 => exact cells_two_new _ _ _ _
        case e2 => intro u hu; simp at hu; rcases hu with rfl | rfl <;> rfl
        case e3 => unfold maxLen; omega
        case e4 => omega
        case e5 => have := HBB.out.size; simp; omega
        intro v' w3 hown' hgrow _
        have HR3 := Lib.hid hown'
        have HB3 : Hid (Below w.heap.size w w3) := (HBB.out.alloc HBB.out.size _).grown hgrow (by have := HBB.out.size; simp; omega) (fun b hb => (HRR.out.lt b hb).1)
        clear hown' hgrow
        go_wp2
        go_ret
        refine ⟨_, rfl, ?_, HB3.out⟩
        rw [← HP2.out, set_of HDL.out HBG.out]
        exact HdRow.more HR3.out
      · go_wp2
        go_ret
        refine ⟨_, rfl, ?_, HBB.out⟩
        rw [← HP2.out, set_of HDL.out HBG.out]
        rw [if_pos rfl, List.append_nil]
        exact HRR.out
end Go.Proofs.Ytinpfkbplflecaa
