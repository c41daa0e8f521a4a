/-
  What layer 6's statements share: two rows of headers that are alike, and what the chapter tells by example, over this seat's program. Conditions: those of each statement.
-/
import Derived.Test.YtinpfkbplflecaaDHdr5
namespace Go.Proofs.Ytinpfkbplflecaa
open Go.RowKit

theorem PRow.two_at (w : World) (a b c d : ByteArray) (t : TypeId) (g : Nat) (hg : g = w.heap.size) : PRow (w.alloc (.cells #[.string a, .string b, .string c, .string d] t)) (g + 1) (some ⟨g, 0, none⟩) [(a, b), (c, d)] := by
  subst hg
  intro j x hj
  match j, hj with
  | 0, hj => simp at hj; subst hj; exact ⟨_, rfl, by simp, by simp [Addr.add], by simp [Addr.add]⟩
  | 1, hj => simp at hj; subst hj; exact ⟨_, rfl, by simp, by simp [Addr.add], by simp [Addr.add]⟩
theorem PRow.three_at (w : World) (a b c d e f : ByteArray) (t : TypeId) (g : Nat) (hg : g = w.heap.size) : PRow (w.alloc (.cells #[.string a, .string b, .string c, .string d, .string e, .string f] t)) (g + 1) (some ⟨g, 0, none⟩) [(a, b), (c, d), (e, f)] := by
  subst hg
  intro j x hj
  match j, hj with
  | 0, hj => simp at hj; subst hj; exact ⟨_, rfl, by simp, by simp [Addr.add], by simp [Addr.add]⟩
  | 1, hj => simp at hj; subst hj; exact ⟨_, rfl, by simp, by simp [Addr.add], by simp [Addr.add]⟩
  | 2, hj => simp at hj; subst hj; exact ⟨_, rfl, by simp, by simp [Addr.add], by simp [Addr.add]⟩
theorem PRow.one_at (w : World) (a b : ByteArray) (t : TypeId) (g : Nat) (hg : g = w.heap.size) : PRow (w.alloc (.cells #[.string a, .string b] t)) (g + 1) (some ⟨g, 0, none⟩) [(a, b)] := by
  subst hg
  intro j x hj
  match j, hj with
  | 0, hj => simp at hj; subst hj; exact ⟨_, rfl, by simp, by simp [Addr.add], by simp [Addr.add]⟩
theorem HdRow.two {w : World} {base : Nat} {v : Value} {a b c d : List UInt8} (h : HdRow w base v [(a, b), (c, d)]) : ∃ g cap, v = .slice (some ⟨g, 0, none⟩) 2 cap ∧ w.cell? ⟨g, 0, none⟩ = some (.string (mk a)) ∧ w.cell? ⟨g, 1, none⟩ = some (.string (mk b)) ∧ w.cell? ⟨g, 2, none⟩ = some (.string (mk c)) ∧ w.cell? ⟨g, 3, none⟩ = some (.string (mk d)) := by
  have h0 := h
  unfold HdRow at h0
  rcases h0.2 with ⟨_, e2⟩ | ⟨g, cap, cur, e1, _, _, _⟩
  · simp at e2
  · subst e1
    obtain ⟨s1, s2, _⟩ := h.slot rfl 0 (by simp)
    obtain ⟨s3, s4, _⟩ := h.slot rfl 1 (by simp)
    exact ⟨g, cap, rfl, s1, s2, s3, s4⟩

theorem aw6_1 : getH ([((⟨#[97]⟩ : ByteArray), (⟨#[49]⟩ : ByteArray)), (⟨#[65]⟩, ⟨#[32, 50]⟩)].map hd) (⟨#[97]⟩ : ByteArray).data.toList = [49, 44, 32, 50] := by decide
theorem aw6_2 : gotH ([((⟨#[97]⟩ : ByteArray), (⟨#[49]⟩ : ByteArray)), (⟨#[65]⟩, ⟨#[32, 50]⟩)].map hd) (⟨#[97]⟩ : ByteArray).data.toList = true := by decide
theorem aw6_3 : setH ([((⟨#[97]⟩ : ByteArray), (⟨#[49]⟩ : ByteArray)), (⟨#[98]⟩, ⟨#[50]⟩), (⟨#[65]⟩, ⟨#[51]⟩)].map hd) (⟨#[65]⟩ : ByteArray).data.toList (⟨#[120]⟩ : ByteArray).data.toList = [([97], [120]), ([98], [50])] := by decide

set_option maxHeartbeats 1000000 in
theorem awake6_any (w : World) : Calls Try.prog 12 #[] w fun e w' => e = .returned (.bool true) ∧ Below w.heap.size w w' := by
  go_enter Try.func12, Try.ntmps12
  go_wp2_with fail
  refine (Get_any _ _ _ (w.heap.size + 1) [(⟨#[97]⟩, ⟨#[49]⟩), (⟨#[65]⟩, ⟨#[32, 50]⟩)] ⟨#[97]⟩ _ rfl (by simp) (PRow.two_at _ _ _ _ _ _ _ rfl) ⟨by decide, by decide⟩ (by unfold maxLen; decide)).mono ?_
  rintro e w1 ⟨rfl, hb1⟩
  rw [aw6_1, aw6_2]
  have HB1 : Hid (Below w.heap.size w w1) := ((Below.refl _ _).alloc (Nat.le_refl _) _).trans (hb1.mono (by simp))
  clear hb1
  go_wp2_with fail
  refine (Set_any _ _ _ (w1.heap.size + 1) [(⟨#[97]⟩, ⟨#[49]⟩), (⟨#[98]⟩, ⟨#[50]⟩), (⟨#[65]⟩, ⟨#[51]⟩)] ⟨#[65]⟩ ⟨#[120]⟩ _ rfl (by simp) (PRow.three_at _ _ _ _ _ _ _ _ _ rfl) ⟨by decide, by decide⟩ (by unfold maxLen; decide)).mono ?_
  rintro e w2 ⟨v, rfl, hr2, hb2⟩
  have HB2 : Hid (Below w.heap.size w w2) := (HB1.out.alloc HB1.out.size _).trans (hb2.mono (by have := HB1.out.size; simp; omega))
  clear hb2
  rw [aw6_3] at hr2
  obtain ⟨g, cap, rfl, s0, s1, s2, s3⟩ := hr2.two
  clear hr2
  unfold mk at s0 s1 s2 s3 ⊢
  go_wp2
  go_ret
  exact ⟨rfl, HB2.out⟩

set_option maxHeartbeats 1000000 in
/-- two rows that hold the same headers are told to be the same -/
theorem Headers_same (A1 A2 : Option Addr) (n1 n2 c1 c2 B1 B2 : Nat) (xs : List (ByteArray × ByteArray)) (w : World) (hn1 : n1 = xs.length) (hn2 : n2 = xs.length) (hl : xs.length ≤ maxLen) (h1 : PRow w B1 A1 xs) (h2 : PRow w B2 A2 xs) :
    Calls Try.prog 17 #[.slice A1 n1 c1, .slice A2 n2 c2] w fun e w' => e = .returned (.bool true) ∧ ∃ n, w' = w.drewN n := by
  subst hn1 hn2
  unfold maxLen at hl
  have H1 := Lib.hid h1
  have H2 := Lib.hid h2
  clear h1 h2
  go_enter Try.func17, Try.ntmps17
  go_wp2
  go_loopw [5] (fun i wr => ∃ k m : Nat, k ≤ xs.length ∧ i = .int .i64 k ∧ wr = w.drewN m) (fun i _ => xs.length - (intOf i).toNat)
  case atStart => exact ⟨0, 0, Nat.zero_le _, rfl, rfl⟩
  case round =>
    obtain ⟨k, m, hk, rfl, hw⟩ := hrel
    have HW := Lib.hid hw
    clear hw
    by_cases hlt : k < xs.length
    · obtain ⟨a1, e1, _, hc1, hc2⟩ := H1.out k xs[k] (List.getElem?_eq_getElem hlt)
      obtain ⟨a2, e2, _, hc3, hc4⟩ := H2.out k xs[k] (List.getElem?_eq_getElem hlt)
      generalize xs[k] = x at *
      obtain ⟨x1, x2⟩ := x
      have d1 : wr.cell? (a1.add (k * 2)) = some (.string x1) := by rw [HW.out]; exact hc1
      have d2 : wr.cell? ⟨(a1.add (k * 2)).block, (a1.add (k * 2)).off + 1, none⟩ = some (.string x2) := by rw [HW.out]; exact hc2
      have d3 : wr.cell? (a2.add (k * 2)) = some (.string x1) := by rw [HW.out]; exact hc3
      have d4 : wr.cell? ⟨(a2.add (k * 2)).block, (a2.add (k * 2)).off + 1, none⟩ = some (.string x2) := by rw [HW.out]; exact hc4
      clear hc1 hc2 hc3 hc4
      subst e1 e2
      have h32 : ((k : Int) < (xs.length : Int)) := by omega
      go_wp2_with fail
      go_quiet (fail)
      go_wp2
      go_roundw
      case rel => exact ⟨k + 1, _, by omega, by go_num, by rw [HW.out, World.drewN_drewN]⟩
      case measure => simp [intOf]; omega
    · go_wp2
      go_ret
      exact ⟨rfl, m, HW.out⟩
end Go.Proofs.Ytinpfkbplflecaa
