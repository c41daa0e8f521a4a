/-
  Texts at two rows of any texts; what two requests want, and what is kept of them. No conditions beyond those of each statement.
-/
import Derived.Test.YticedcnmajcgbaaGreatDoorALawNorms
namespace Go.Proofs.YticedcnmajcgbaaGreatDoor
open Go.RowKit

set_option maxHeartbeats 1000000 in
/-- two rows of texts are told to be the same just if they are -/
theorem Texts_any (A1 A2 : Option Addr) (n1 n2 c1 c2 B1 B2 : Nat) (xs ys : List ByteArray) (b : Bool) (w : World) (hn1 : n1 = xs.length) (hn2 : n2 = ys.length) (hl : xs.length ≤ maxLen) (h1 : SRow w B1 A1 xs) (h2 : SRow w B2 A2 ys) (hb : b = true ↔ xs = ys) :
    Calls Tryz.prog 17 #[.slice A1 n1 c1, .slice A2 n2 c2] w fun e w' => e = .returned (.bool b) ∧ ∃ n, w' = w.drewN n := by
  by_cases hlen : xs.length = ys.length
  case neg =>
    have hne : ¬ xs = ys := fun h => hlen (by rw [h])
    have hbf : b = false := by cases b; rfl; exact absurd (hb.1 rfl) hne
    subst hn1 hn2 hbf
    unfold maxLen at hl
    have hcmp : ¬ ((xs.length : Int) = (ys.length : Int)) := by omega
    clear hb hne h1 h2
    go_enter Tryz.func17, Tryz.ntmps17
    go_wp2
    go_ret
    exact ⟨rfl, 0, rfl⟩
  subst hn1 hn2
  unfold maxLen at hl
  have H1 := Lib.hid h1
  have H2 := Lib.hid h2
  have HB := Lib.hid hb
  have HL := Lib.hid hlen
  rw [← hlen]
  clear h1 h2 hb
  clear hlen
  go_enter Tryz.func17, Tryz.ntmps17
  go_wp2
  go_loopw [5] (fun i wr => ∃ k m : Nat, k ≤ xs.length ∧ i = .int .i64 k ∧ wr = w.drewN m ∧ xs.take k = ys.take k) (fun i _ => xs.length - (intOf i).toNat)
  case atStart => exact ⟨0, 0, Nat.zero_le _, rfl, rfl, rfl⟩
  case round =>
    obtain ⟨k, m, hk, rfl, hw, htk⟩ := hrel
    have HW := Lib.hid hw
    have HTK := Lib.hid htk
    clear hw htk
    by_cases hlt : k < xs.length
    · have hlt2 : k < ys.length := by rw [← HL.out]; exact hlt
      obtain ⟨a1, e1, _, hc1⟩ := H1.out k xs[k] (List.getElem?_eq_getElem hlt)
      obtain ⟨a2, e2, _, hc2⟩ := H2.out k ys[k] (List.getElem?_eq_getElem hlt2)
      have hc1' : wr.cell? (a1.add k) = some (.string xs[k]) := by rw [HW.out]; exact hc1
      have hc2' : wr.cell? (a2.add k) = some (.string ys[k]) := by rw [HW.out]; exact hc2
      have HX : Hid (xs.take (k + 1) = xs.take k ++ [xs[k]]) := List.take_succ_eq_append_getElem hlt
      have HY : Hid (ys.take (k + 1) = ys.take k ++ [ys[k]]) := List.take_succ_eq_append_getElem hlt2
      have HG : Hid (xs = ys → xs[k] = ys[k]) := fun h => by subst h; rfl
      clear hc1 hc2
      generalize xs[k] = x at *
      generalize ys[k] = y at *
      clear hlt2
      subst e1 e2
      have h32 : ((k : Int) < (xs.length : Int)) := by omega
      by_cases hxy : x = y
      · subst hxy
        have HTK2 : Hid (xs.take (k + 1) = ys.take (k + 1)) := by show _ = _; rw [HX.out, HY.out, HTK.out]
        go_wp2_with fail
        go_quiet (fail)
        go_wp2
        go_roundw
        case rel => exact ⟨k + 1, _, by omega, by go_num, by rw [HW.out, World.drewN_drewN], HTK2.out⟩
        case measure => simp [intOf]; omega
      · have hbe : (x.toList == y.toList) = false := by
          rw [beq_eq_false_iff_ne]; intro h; exact hxy (WideShapes.bytes_inj (by rw [ByteArray.toList_eq, ByteArray.toList_eq] at h; exact h))
        have HF : Hid (b = false) := by
          show _ = _
          cases b
          · rfl
          · exact absurd (HG.out (HB.out.1 rfl)) hxy
        clear hxy
        go_wp2_with fail
        go_quiet (fail)
        go_wp2
        go_ret
        exact ⟨ret_bool HF.out.symm, _, by rw [HW.out, World.drewN_drewN]⟩
    · have HT : Hid (b = true) := by
        show _ = _
        refine HB.out.2 ?_
        have h := HTK.out
        rwa [List.take_of_length_le (by omega), List.take_of_length_le (by have := HL.out; omega)] at h
      go_wp2
      go_ret
      exact ⟨ret_bool HT.out.symm, m, HW.out⟩

theorem bytes_eq_iff {a b : ByteArray} : a = b ↔ a.data.toList = b.data.toList := ⟨fun h => by rw [h], fun h => WideShapes.bytes_inj h⟩
theorem want_x {r q : Rq} (hr : askI r = 0) (hq : askI q = 0) {za zb : Rv} (ea : za.q = normQ r) (eb : zb.q = normQ q) :
    wantQ r = wantQ q ↔ (za.o = zb.o ∧ za.u = zb.u ∧ za.cr = zb.cr ∧ za.m = zb.m ∧ namesQ r = namesQ q) := by
  rw [want_same hr hq, bytes_eq_iff, bytes_eq_iff, bytes_eq_iff (a := za.m)]
  have e1 : za.o.data.toList = (normQ r).o := congrArg Rq.o ea
  have e2 : za.u.data.toList = (normQ r).u := congrArg Rq.u ea
  have e3 : za.cr = (normQ r).cr := congrArg Rq.cr ea
  have e4 : za.m.data.toList = (normQ r).m := congrArg Rq.m ea
  have f1 : zb.o.data.toList = (normQ q).o := congrArg Rq.o eb
  have f2 : zb.u.data.toList = (normQ q).u := congrArg Rq.u eb
  have f3 : zb.cr = (normQ q).cr := congrArg Rq.cr eb
  have f4 : zb.m.data.toList = (normQ q).m := congrArg Rq.m eb
  rw [e1, e2, e3, e4, f1, f2, f3, f4, (norm_mode hr).2.1, (norm_mode hq).2.1]
  unfold namesQ
  rw [if_pos hr, if_pos hq]
theorem key_x {r q : Rq} (hr : askI r = 0) (hq : askI q = 0) (h : wantQ r = wantQ q) : keyQ r = keyQ q := key_same hr hq ((want_same hr hq).1 h).2.1
theorem want_beq (a b : Wq) (x : Bool) (hx : x = true ↔ a = b) : (((mk a.o).toList == (mk b.o).toList) && ((mk a.u).toList == (mk b.u).toList) && (a.cr == b.cr) && ((mk a.m).toList == (mk b.m).toList) && ((mk a.n).toList == (mk b.n).toList)) = x := by
  rw [Bool.eq_iff_iff, hx]
  obtain ⟨a1, a2, a3, a4, a5⟩ := a
  obtain ⟨b1, b2, b3, b4, b5⟩ := b
  simp [ByteArray.toList_eq, mk_data, and_assoc]
theorem names_map {a b : List (List UInt8)} : a.map mk = b.map mk ↔ a = b := by
  constructor
  · intro h
    have := congrArg dat h
    rwa [dat_mk8, dat_mk8] at this
  · rintro rfl; rfl
/-- what holds all through: the two requests in the first two blocks -/
structure W2F (w W : World) (r q : Rv) : Prop where
  bel : Below w.heap.size w W
  env0 : Env8 w
  kr0 : RqOk w r
  kq0 : RqOk w q
  ar : RqAt W w.heap.size r
  aq : RqAt W (w.heap.size + 1) q
theorem W2F.env {w W : World} {r q : Rv} (h : W2F w W r q) : Env8 W := h.env0.below h.bel
theorem W2F.kr {w W : World} {r q : Rv} (h : W2F w W r q) : RqOk W r := h.kr0.below h.bel
theorem W2F.kq {w W : World} {r q : Rv} (h : W2F w W r q) : RqOk W q := h.kq0.below h.bel
theorem W2F.next {w W W' : World} {r q : Rv} (h : W2F w W r q) (hb : Below W.heap.size W W') : W2F w W' r q :=
  ⟨h.bel.trans (hb.mono h.bel.size), h.env0, h.kr0, h.kq0, h.ar.below hb h.ar.lt, h.aq.below hb h.aq.lt⟩
theorem W2F.put {w W : World} {r q : Rv} (h : W2F w W r q) {g : Nat} (hg : w.heap.size + 1 < g) (z : Rv) : W2F w (RqAt.put W g z) r q :=
  ⟨RqAt.put_below h.bel (by omega) z, h.env0, h.kr0, h.kq0, h.ar.besideRqAt (by omega) z, h.aq.besideRqAt (by omega) z⟩
/-- and what is made of them -/
structure W4F (w W : World) (r q a b : Rv) (g5 g6 : Nat) : Prop where
  k : W2F w W r q
  a5 : RqAt W g5 a
  a6 : RqAt W g6 b
theorem W4F.next {w W W' : World} {r q a b : Rv} {g5 g6 : Nat} (h : W4F w W r q a b g5 g6) (hb : Below W.heap.size W W') : W4F w W' r q a b g5 g6 :=
  ⟨h.k.next hb, h.a5.below hb h.a5.lt, h.a6.below hb h.a6.lt⟩
theorem RqAt.fresh {W : World} : RqAt (W.alloc (.cells #[.string ⟨#[]⟩, .string ⟨#[]⟩, .string ⟨#[]⟩, .int .i64 0, .bool false, .slice none 0 0, .int .i64 0, .int .u64 0, .int .i64 0, .int .i64 0] 25)) W.heap.size Rv.zero := RqAt.new W Rv.zero _
end Go.Proofs.YticedcnmajcgbaaGreatDoor
