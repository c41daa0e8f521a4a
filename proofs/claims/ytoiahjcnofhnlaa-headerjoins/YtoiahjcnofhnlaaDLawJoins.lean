/-
  The walk of the law HeaderJoins: whatever the input, it returns true, and nothing that was there has turned. Conditions: the arguments are such as any that come in.
-/
import Derived.Test.YtoiahjcnofhnlaaDWords
namespace Go.Proofs.Ytoiahjcnofhnlaa
open Go.RowKit

theorem Bd.append {l m : List Hd} {n k a b : Nat} (h : Bd l n a b) (h' : Bd m k a b) : Bd (l ++ m) (n + k) a b :=
  ⟨by have := h.1; have := h'.1; simp; omega, fun g hg => by rcases List.mem_append.1 hg with hg | hg; exact h.2 g hg; exact h'.2 g hg⟩
theorem get_both {l m : List Hd} {n : List UInt8} {b0 b1 : Bool} (h0 : b0 = gotH l n) (h1 : b1 = gotH m n) : mk (getH (l ++ m) n) = if b0 && b1 then mk (getH l n) ++ ⟨#[44, 32]⟩ ++ mk (getH m n) else mk (getH l n) ++ mk (getH m n) := by
  rw [get_append, ← h0, ← h1]
  split
  · rw [show (⟨#[44, 32]⟩ : ByteArray) = mk [44, 32] from rfl, mk_append, mk_append]
  · rw [mk_append]

set_option maxRecDepth 100000 in
set_option maxHeartbeats 4000000 in
theorem walk_HeaderJoins (a0 : Option Addr) (c0 : Nat) (xs : List (ByteArray × ByteArray)) (a1 : Option Addr) (c1 : Nat) (ys : List (ByteArray × ByteArray)) (name : ByteArray) (w : World) (h0 : HArg w a0 c0 xs) (h1 : HArg w a1 c1 ys) (t0 : name.size ≤ maxLen) :
    Calls Try.prog 8 #[.slice a0 xs.length c0, .slice a1 ys.length c1, .string name] w fun e w' => e = .returned (.bool true) ∧ Below w.heap.size w w' := by
  have HL0 : Hid (xs.length ≤ maxLen) := Nat.le_trans h0.2.2.1 h0.2.2.2.1
  have HN0 := Lib.hid h0.2.2.2.2
  have HX0 := Lib.hid h0.1
  have HS0 := Lib.hid h0.2.1
  clear h0
  have HL1 : Hid (ys.length ≤ maxLen) := Nat.le_trans h1.2.2.1 h1.2.2.2.1
  have HN1 := Lib.hid h1.2.2.2.2
  have HX1 := Lib.hid h1.1
  have HS1 := Lib.hid h1.2.1
  clear h1
  have HT0 := Lib.hid t0
  clear t0
  cases hg0 : greatB xs
  case true =>
    have HG0 := Lib.hid hg0
    clear hg0
    go_enter Try.func8, Try.ntmps8
    go_wp2_with fail
    refine (Great_any a0 _ c0 w.heap.size xs _ rfl HX0.out HL0.out HS0.out).mono ?_
    rintro e w' ⟨rfl, rfl⟩
    rw [show (decide (40 < xs.length) || greatGo 0 xs) = true from HG0.out]
    go_wp2_with fail
    refine (awake6_any _).mono ?_
    rintro e w1 ⟨rfl, hb⟩
    go_wp2
    go_ret
    exact ⟨rfl, hb⟩
  have HG0 := Lib.hid hg0
  have HD0 := Lib.hid (great_bd hg0)
  clear hg0
  cases hg1 : greatB ys
  case true =>
    have HG1 := Lib.hid hg1
    clear hg1
    go_enter Try.func8, Try.ntmps8
    go_wp2_with fail
    refine (Great_any a0 _ c0 w.heap.size xs _ rfl HX0.out HL0.out HS0.out).mono ?_
    rintro e w' ⟨rfl, rfl⟩
    rw [show (decide (40 < xs.length) || greatGo 0 xs) = false from HG0.out]
    go_wp2_with fail
    refine (Great_any a1 _ c1 w.heap.size ys _ rfl HX1.out HL1.out HS1.out).mono ?_
    rintro e w' ⟨rfl, rfl⟩
    rw [show (decide (40 < ys.length) || greatGo 0 ys) = true from HG1.out]
    go_wp2_with fail
    refine (awake6_any _).mono ?_
    rintro e w1 ⟨rfl, hb⟩
    go_wp2
    go_ret
    exact ⟨rfl, hb⟩
  have HG1 := Lib.hid hg1
  have HD1 := Lib.hid (great_bd hg1)
  clear hg1
  cases hz : Lk.longL 600 ([name].map ByteArray.size)
  case true =>
    have HZ := Lib.hid hz
    clear hz
    go_enter Try.func8, Try.ntmps8
    go_wp2_with fail
    refine (Great_any a0 _ c0 w.heap.size xs _ rfl HX0.out HL0.out HS0.out).mono ?_
    rintro e w' ⟨rfl, rfl⟩
    rw [show (decide (40 < xs.length) || greatGo 0 xs) = false from HG0.out]
    go_wp2_with fail
    refine (Great_any a1 _ c1 w.heap.size ys _ rfl HX1.out HL1.out HS1.out).mono ?_
    rintro e w' ⟨rfl, rfl⟩
    rw [show (decide (40 < ys.length) || greatGo 0 ys) = false from HG1.out]
    go_wp2_with fail
    refine (Long_any 600 _ 1 1 [name] _ (w.heap.size + 1) (by omega) (by omega) rfl (SRow.one_at _ _ _ _ rfl) (by unfold maxLen; simp) (by intro x hx; simp at hx; subst hx; exact HT0.out)).mono ?_
    rintro e w1 ⟨rfl, hwn⟩
    have HB1 : Hid (Below w.heap.size w w1) := by show Below _ _ _; rw [← hwn]; exact (Below.refl _ _).alloc (Nat.le_refl _) _
    clear hwn
    rw [show Lk.longL (600 : Int).toNat ([name].map ByteArray.size) = true from HZ.out]
    go_wp2_with fail
    refine (awake6_any _).mono ?_
    rintro e w2 ⟨rfl, hb⟩
    go_wp2
    go_ret
    exact ⟨rfl, HB1.out.trans (hb.mono HB1.out.size)⟩
  have HZ := Lib.hid hz
  have hsz := Lk.long_no _ _ hz
  simp at hsz
  clear hz
  go_enter Try.func8, Try.ntmps8
  go_wp2_with fail
  refine (Great_any a0 _ c0 w.heap.size xs _ rfl HX0.out HL0.out HS0.out).mono ?_
  rintro e w' ⟨rfl, rfl⟩
  rw [show (decide (40 < xs.length) || greatGo 0 xs) = false from HG0.out]
  go_wp2_with fail
  refine (Great_any a1 _ c1 w.heap.size ys _ rfl HX1.out HL1.out HS1.out).mono ?_
  rintro e w' ⟨rfl, rfl⟩
  rw [show (decide (40 < ys.length) || greatGo 0 ys) = false from HG1.out]
  have HB0 : Hid (Below w.heap.size w w) := Below.refl _ _
  go_wp2_with fail
  refine (Long_any 600 _ 1 1 [name] _ (w.heap.size + 1) (by omega) (by omega) rfl (SRow.one_at _ _ _ _ rfl) (by unfold maxLen; simp) (by intro x hx; simp at hx; subst hx; exact HT0.out)).mono ?_
  rintro e w1 ⟨rfl, hwn⟩
  have hb : Below w.heap.size w w1 := by rw [← hwn]; exact (Below.refl _ _).alloc (Nat.le_refl _) _
  have HB1 : Hid (Below w.heap.size w w1) := HB0.out.trans (hb.mono HB0.out.size)
  clear hb hwn
  rw [show Lk.longL (600 : Int).toNat ([name].map ByteArray.size) = false from HZ.out]
  have HM : Hid (Sm (xs.map hd)) := HD0.out.sm (by omega) (by omega) (by omega)
  have HM1 : Hid (Sm (ys.map hd)) := HD1.out.sm (by omega) (by omega) (by omega)
  have HMN : Hid (Sm (xs.map hd ++ ys.map hd)) := (Bd.append HD0.out HD1.out).sm (by omega) (by omega) (by omega)
  have hl0 : xs.length ≤ 40 := by have := HD0.out.1; simpa using this
  have hl1 : ys.length ≤ 40 := by have := HD1.out.1; simpa using this
  obtain ⟨t0, ht⟩ : ∃ t, t = mk (getH (xs.map hd) name.data.toList) := ⟨_, rfl⟩
  obtain ⟨b0, hbq⟩ : ∃ b, b = gotH (xs.map hd) name.data.toList := ⟨_, rfl⟩
  have hs0 : t0.size ≤ 200000000 := by rw [ht, mk_size]; exact get_len HM.out _
  have HTT0 := Lib.hid ht
  have HBQ0 := Lib.hid hbq
  clear ht hbq
  obtain ⟨t1, ht⟩ : ∃ t, t = mk (getH (ys.map hd) name.data.toList) := ⟨_, rfl⟩
  obtain ⟨b1, hbq⟩ : ∃ b, b = gotH (ys.map hd) name.data.toList := ⟨_, rfl⟩
  have hs1 : t1.size ≤ 200000000 := by rw [ht, mk_size]; exact get_len HM1.out _
  have HTT1 := Lib.hid ht
  have HBQ1 := Lib.hid hbq
  clear ht hbq
  go_wp2_with fail
  refine (Get_any a0 _ c0 w.heap.size xs name _ rfl HB1.out.size (HX0.out.below HB1.out) HM.out (by unfold maxLen; omega)).mono ?_
  rintro e w2 ⟨rfl, hb⟩
  have HB2 : Hid (Below w.heap.size w w2) := HB1.out.trans (hb.mono HB1.out.size)
  clear hb
  rw [← HTT0.out, ← HBQ0.out]
  go_wp2_with fail
  refine (Get_any a1 _ c1 w.heap.size ys name _ rfl HB2.out.size (HX1.out.below HB2.out) HM1.out (by unfold maxLen; omega)).mono ?_
  rintro e w3 ⟨rfl, hb⟩
  have HB3 : Hid (Below w.heap.size w w3) := HB2.out.trans (hb.mono HB2.out.size)
  clear hb
  rw [← HTT1.out, ← HBQ1.out]
  go_wp2_with (at_builtin; refine wpList_append_heads rfl (.const (.slice none 0 0)) (.tmp 39) rfl w3.heap.size _ [] rfl (HdRow.nil _ _) a0 c0 w.heap.size xs rfl (HX0.out.below HB3.out) HN0.out ?c1 (Nat.le_refl _) ?_)
  case c1 => simp; omega
  intro v u1 hr hg
  have hb0 : Below w3.heap.size w3 u1 := (Below.refl _ _).grown hg (Nat.le_refl _) (by intro k hk; cases hk)
  have HR := Lib.hid hr
  have HU := Lib.hid hb0
  clear hr hg hb0
  go_wp2_with (at_builtin; refine wpList_append_heads rfl (.tmp 40) (.tmp 41) rfl w3.heap.size _ _ rfl HR.out a1 c1 w.heap.size ys rfl (HX1.out.below (HB3.out.trans (HU.out.mono HB3.out.size))) HN1.out ?d1 HU.out.size ?_)
  case d1 => simp; omega
  intro v2 w4 hr hg
  have hb : Below w3.heap.size w3 w4 := HU.out.grown hg HU.out.size (fun b hb => (World.ownsRow.lt HR.out b hb).1)
  have HB4 : Hid (Below w.heap.size w w4) := HB3.out.trans (hb.mono HB3.out.size)
  clear hb hg
  obtain ⟨A, nA, cA, yA, rfl, hnA, hyA, hcA, hpA⟩ := hr.row
  have HNA := Lib.hid hnA
  have HYA : Hid (yA.map hd = xs.map hd ++ ys.map hd) := hyA
  have HPA := Lib.hid hpA
  clear hr hnA hyA hpA
  have HC4 : Hid (Below w4.heap.size w4 w4) := Below.refl _ _
  go_wp2_with fail
  refine (Get_any A _ cA w4.heap.size yA name _ HNA.out HC4.out.size (HPA.out.below HC4.out) (by rw [HYA.out]; exact HMN.out) (by unfold maxLen; omega)).mono ?_
  rintro e w5 ⟨rfl, hb⟩
  have HB5 : Hid (Below w.heap.size w w5) := HB4.out.trans (hb.mono HB4.out.size)
  have HC5 : Hid (Below w4.heap.size w4 w5) := HC4.out.trans (hb.mono HC4.out.size)
  clear hb
  rw [HYA.out, get_both HBQ0.out HBQ1.out, got_append, ← HBQ0.out, ← HBQ1.out, ← HTT0.out, ← HTT1.out]
  cases b0 <;> cases b1
  · skip
    go_wp2_with fail
    refine (awake6_any _).mono ?_
    rintro e w6 ⟨rfl, hb⟩
    have HB6 : Hid (Below w.heap.size w w6) := HB5.out.trans (hb.mono HB5.out.size)
    have HC6 : Hid (Below w4.heap.size w4 w6) := HC5.out.trans (hb.mono HC5.out.size)
    clear hb
    go_wp2
    go_ret
    exact ⟨rfl, HB6.out⟩
  · skip
    go_wp2_with fail
    refine (awake6_any _).mono ?_
    rintro e w6 ⟨rfl, hb⟩
    have HB6 : Hid (Below w.heap.size w w6) := HB5.out.trans (hb.mono HB5.out.size)
    have HC6 : Hid (Below w4.heap.size w4 w6) := HC5.out.trans (hb.mono HC5.out.size)
    clear hb
    go_wp2
    go_ret
    exact ⟨rfl, HB6.out⟩
  · skip
    go_wp2_with fail
    refine (awake6_any _).mono ?_
    rintro e w6 ⟨rfl, hb⟩
    have HB6 : Hid (Below w.heap.size w w6) := HB5.out.trans (hb.mono HB5.out.size)
    have HC6 : Hid (Below w4.heap.size w4 w6) := HC5.out.trans (hb.mono HC5.out.size)
    clear hb
    go_wp2
    go_ret
    exact ⟨rfl, HB6.out⟩
  · skip
    go_wp2_with fail
    refine (awake6_any _).mono ?_
    rintro e w6 ⟨rfl, hb⟩
    have HB6 : Hid (Below w.heap.size w w6) := HB5.out.trans (hb.mono HB5.out.size)
    have HC6 : Hid (Below w4.heap.size w4 w6) := HC5.out.trans (hb.mono HC5.out.size)
    clear hb
    go_wp2
    go_ret
    exact ⟨rfl, HB6.out⟩
end Go.Proofs.Ytoiahjcnofhnlaa
