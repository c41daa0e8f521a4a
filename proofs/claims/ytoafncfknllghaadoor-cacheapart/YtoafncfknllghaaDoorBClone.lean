/-
  The contracts of slices.Clone at entries and of the cache's Entries over this seat's program. Conditions: those of each statement.
-/
import Derived.Test.YtoafncfknllghaaDoorBAsk
import Derived.Lib.SliceRun
namespace Go.Proofs.YtoafncfknllghaaDoor
open Go.RowKit

/-- all that a value owns is new -/
def NewL (n : Nat) (v : Value) : Prop := ∀ x ∈ ownL v, n ≤ x
set_option maxHeartbeats 800000 in
theorem clone_any (v : Value) (l : List En) (w : World) (hr : EnRow w v l) (hl : l.length ≤ 1000) :
    Calls Tryd.prog 32 #[v] w fun e w' => ∃ r, e = .returned r ∧ EnRow w' r l ∧ NewL w.heap.size r ∧ Only [] w w' := by
  rcases ERow.form hr with ⟨e1, e2⟩ | ⟨gi, cap, e1, _, _, hlc, hcm⟩
  · subst e1 e2
    have qT : ∀ (w : World) (a : Option Addr) (n c n' c' : Nat), (binOp .eql 43 (.slice a n c) (.slice none n' c')).run Tryd.prog w = .ok (.bool a.isNone) w := fun w a n c n' c' => Lib.run_eql_slice_nil w _ _ a n c n' c' Tryd.underlying43
    clear hr hl
    go_enter Tryd.func32, Tryd.ntmps32
    go_wp2
    go_ret
    exact ⟨_, rfl, EnRow.nil, by intro x hx; simp [ownL, Value.ownBlock] at hx, Only.refl _ _⟩
  · subst e1
    have qT : ∀ (w : World) (a : Option Addr) (n c n' c' : Nat), (binOp .eql 43 (.slice a n c) (.slice none n' c')).run Tryd.prog w = .ok (.bool a.isNone) w := fun w a n c n' c' => Lib.run_eql_slice_nil w _ _ a n c n' c' Tryd.underlying43
    obtain ⟨W1, hW1⟩ : ∃ W1, W1 = w.alloc (.cells #[] 34) := ⟨_, rfl⟩
    obtain ⟨B, hB⟩ : ∃ B, B = w.heap.size := ⟨_, rfl⟩
    have HO1 : Hid (Only [] w W1) := by show Only _ _ _; rw [hW1]; exact (Only.refl _ _).alloc _
    have HR0 : Hid (EnRow W1 (.slice (some ⟨B, 0, none⟩) 0 0) []) := by
      show EnRow _ _ _
      rw [hW1, hB]
      exact ⟨rfl, .inr ⟨w.heap.size, 0, #[], rfl, Nat.zero_le _, heap_alloc_new _ _, Nat.le_refl _, Nat.zero_le _, rfl, rfl⟩⟩
    have HPT : Hid (PartAt eE W1 (.slice (some ⟨gi, 0, none⟩) l.length cap) l) := ERow.part (hr.old HO1.out)
    have HB := Lib.hid hB
    have HS1 := Lib.hid HO1.out.size
    clear hr
    go_enter Tryd.func32, Tryd.ntmps32
    go_wp2_with (at_builtin; rw [← hW1, ← hB]; refine wpList_append_ents rfl (.tmp 5) (.tmp 6) rfl _ [] rfl HR0.out _ l rfl HPT.out (by simp; omega) ?_)
    intro v' w' hr' ho' hg'
    rw [← hW1] at ho'
    clear hW1 hB
    obtain ⟨A', cap', hv', _, _⟩ := EnRow.slice hr'.out
    have HG : Hid (NewL w.heap.size v') := by
      show NewL _ _
      intro x hx
      rcases hg'.out x hx with h1 | h1
      · simp [ownL, Value.ownBlock] at h1; have := HB.out; omega
      · have := HS1.out; omega
    have HO2 : Hid (Only [] w w') := by
      show Only _ _ _
      refine HO1.out.next ho'.out ?_
      intro x hx
      simp [ownL, Value.ownBlock] at hx
      have := HB.out; exact .inr (by omega)
    clear ho' hg'
    subst hv'
    go_wp2
    go_ret
    exact ⟨_, rfl, hr'.out, HG.out, HO2.out⟩
set_option maxHeartbeats 800000 in
theorem cEntries_any (g n : Nat) (v : Value) (l : List En) (w : World) (h : CaAt w g n v l) :
    Calls Tryd.prog 18 #[.pointer (some ⟨g, 0, none⟩)] w fun e w' => ∃ r, e = .returned r ∧ EnRow w' r l ∧ NewL w.heap.size r ∧ Only [] w w' := by
  have hcon := clone_any v l w h.row (by have := h.len; have := h.n2; omega)
  obtain ⟨A, cap, hv, _, _⟩ := h.row.slice
  have hc1 := h.c1
  have hgl := h.lt
  clear h
  subst hv
  go_enter Tryd.func18, Tryd.ntmps18
  go_wp2_with fail
  refine hcon.mono ?_
  rintro e w' ⟨r, rfl, hr, hn, ho⟩
  obtain ⟨A', cap', hv', _, _⟩ := hr.slice
  have HR := Lib.hid hr
  clear hcon hc1 hr
  subst hv'
  go_wp2
  go_ret
  exact ⟨_, rfl, HR.out, hn, ho⟩
end Go.Proofs.YtoafncfknllghaaDoor
