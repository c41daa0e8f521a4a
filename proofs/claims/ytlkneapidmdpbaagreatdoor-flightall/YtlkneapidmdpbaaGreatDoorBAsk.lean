/-
  The contracts of the cache's Sweep, Clear, Method, Header, Covers and Entries over this seat's program. Conditions: those of each statement.
-/
import Derived.Test.YtlkneapidmdpbaaGreatDoorBOps
namespace Go.Proofs.YtlkneapidmdpbaaGreatDoor
open Go.RowKit

theorem box_old {w w' : World} {B : Nat} {u : Value} (h : w.cell? ⟨B, 0, none⟩ = some u) (o : Only [] w w') : w'.cell? ⟨B, 0, none⟩ = some u := (o.cell (p := ⟨B, 0, none⟩) (block_of_cell (a := ⟨B, 0, none⟩) h) (by simp)).trans h
theorem box_new (w : World) (u : Value) (t : TypeId) {B : Nat} (hB : B = w.heap.size) : (w.alloc (.cells #[u] t)).cell? ⟨B, 0, none⟩ = some u := by subst hB; simp
set_option maxHeartbeats 800000 in
theorem cSweep_any (g n : Nat) (v : Value) (l : List En) (t : Nat) (w : World) (h : CaAt w g n v l) :
    Calls Tryz.prog 68 #[.pointer (some ⟨g, 0, none⟩), .int .u64 (t : Int)] w fun r w' => r = .returned (.int .i64 ((l.length - (sweepL t l).length : Nat) : Int)) ∧ CaStep w w' g n v (sweepL t l) := by
  have eg : ∀ args w, (callFunc 115 args).run Tryz.prog w = .ok (.enter 115 args) w := enters_of Tryz.func115 (by kernel_rfl) rfl
  obtain ⟨W1, hW1⟩ : ∃ W1, W1 = w.alloc (.cells #[.int .u64 (t : Int)] 23) := ⟨_, rfl⟩
  have HO1 : Hid (Only [] w W1) := by show Only _ _ _; rw [hW1]; exact (Only.refl _ _).alloc _
  have HK1 : Hid (W1.cell? ⟨w.heap.size, 0, none⟩ = some (.int .u64 (t : Int))) := by show _ = _; rw [hW1]; simp
  have HV : Hid (w.heap.size ∉ ownL v) := fun hm => by have := h.row.own hm; omega
  have HC : Hid (∀ (W : World) (x : En), Only (ownL v) W1 W → Calls Tryz.prog 115 (#[entV x] ++ #[.pointer (some ⟨w.heap.size, 0, none⟩)]) W fun r w' => r = .returned (.bool (expB t x)) ∧ Only [] W w') := by
    show ∀ (W : World) (x : En), _
    intro W x hO
    exact csweep1_any t x w.heap.size W ((hO.cell (p := ⟨w.heap.size, 0, none⟩) (block_of_cell (a := ⟨w.heap.size, 0, none⟩) HK1.out) HV.out).trans HK1.out)
  have hcon := cremove_any g n v l 115 #[.pointer (some ⟨w.heap.size, 0, none⟩)] (expB t) W1 (h.old HO1.out) eg HC.out
  change Calls _ _ _ _ (fun r w' => r = .returned (.int .i64 ((l.length - (sweepL t l).length : Nat) : Int)) ∧ CaStep W1 w' g n v (sweepL t l)) at hcon
  generalize ((l.length - (sweepL t l).length : Nat) : Int) = q at *
  generalize sweepL t l = m at *
  clear h eg
  go_enter Tryz.func68, Tryz.ntmps68
  go_wp2_with fail
  rw [← hW1]
  clear hW1
  refine hcon.mono ?_
  rintro r w' ⟨rfl, hs⟩
  clear hcon
  go_wp2
  go_ret
  exact ⟨rfl, hs.next (HO1.out.mono (by simp)) (Grow.refl _ _)⟩
set_option maxHeartbeats 1600000 in
theorem cMethod_any (g n : Nat) (v : Value) (l : List En) (k : Cl) (s : ByteArray) (t : Nat) (w : World) (h : CaAt w g n v l) :
    Calls Tryz.prog 71 #[.pointer (some ⟨g, 0, none⟩), cellV k, .string s, .int .u64 (t : Int)] w fun r w' => r = .returned (.bool (methL k s t l)) ∧ Only [] w w' := by
  have eg : ∀ args w, (callFunc 120 args).run Tryz.prog w = .ok (.enter 120 args) w := enters_of Tryz.func120 (by kernel_rfl) rfl
  obtain ⟨W3, hW3⟩ : ∃ W3, W3 = ((w.alloc (.cells #[.string k.o, .string k.u, .bool k.c] 45)).alloc (.cells #[.string s] 9)).alloc (.cells #[.bool (!k.c)] 4) := ⟨_, rfl⟩
  obtain ⟨B, hB⟩ : ∃ B, B = w.heap.size := ⟨_, rfl⟩
  have HO3 : Hid (Only [] w W3) := by show Only _ _ _; rw [hW3]; exact (((Only.refl _ _).alloc _).alloc _).alloc _
  have HK1 : Hid (ClBox W3 B k) := by show ClBox _ _ _; rw [hW3, hB]; exact (ClBox.new w k _).old (((Only.refl _ _).alloc _).alloc _)
  have HK2 : Hid (W3.cell? ⟨B + 1, 0, none⟩ = some (.string s)) := by show _ = _; rw [hW3]; exact box_old (box_new _ _ _ (by rw [hB]; simp)) ((Only.refl _ _).alloc _)
  have HK3 : Hid (W3.cell? ⟨B + 1 + 1, 0, none⟩ = some (.bool (!k.c))) := by show _ = _; rw [hW3]; exact box_new _ _ _ (by rw [hB]; simp)
  have HC : Hid (∀ (W : World) (x : En), Only [] W3 W → Calls Tryz.prog 120 (#[entV x] ++ #[.pointer (some ⟨B, 0, none⟩), .pointer (some ⟨B + 1, 0, none⟩), .pointer (some ⟨B + 1 + 1, 0, none⟩)]) W fun r w' => r = .returned (.bool (methE k s x)) ∧ Only [] W w') := by
    show ∀ (W : World) (x : En), _
    intro W x hO
    exact cmeth1_any k s (!k.c) x B (B + 1) (B + 1 + 1) W (HK1.out.old hO) (box_old HK2.out hO) (box_old HK3.out hO)
  have hcon := chas_any g n v l t 120 #[.pointer (some ⟨B, 0, none⟩), .pointer (some ⟨B + 1, 0, none⟩), .pointer (some ⟨B + 1 + 1, 0, none⟩)] (methE k s) W3 (h.old HO3.out) eg HC.out
  change Calls _ _ _ _ (fun r w' => r = .returned (.bool (methL k s t l)) ∧ Only [] W3 w') at hcon
  generalize methL k s t l = q at *
  simp only [cellV]
  clear h eg
  go_enter Tryz.func71, Tryz.ntmps71
  go_wp2_with fail
  rw [← hW3, ← hB]
  clear hW3 hB
  refine hcon.mono ?_
  rintro r w' ⟨rfl, hs⟩
  clear hcon
  go_wp2
  go_ret
  exact ⟨rfl, HO3.out.trans hs⟩
set_option maxHeartbeats 1600000 in
theorem cHeader_any (g n : Nat) (v : Value) (l : List En) (k : Cl) (s : ByteArray) (t : Nat) (w : World) (h : CaAt w g n v l) (hs : s.size ≤ maxLen) :
    Calls Tryz.prog 72 #[.pointer (some ⟨g, 0, none⟩), cellV k, .string s, .int .u64 (t : Int)] w fun r w' => r = .returned (.bool (hdrL k s t l)) ∧ Only [] w w' := by
  have eg : ∀ args w, (callFunc 121 args).run Tryz.prog w = .ok (.enter 121 args) w := enters_of Tryz.func121 (by kernel_rfl) rfl
  obtain ⟨W2, hW2⟩ : ∃ W2, W2 = (w.alloc (.cells #[.string k.o, .string k.u, .bool k.c] 45)).alloc (.cells #[.string s] 9) := ⟨_, rfl⟩
  obtain ⟨B, hB⟩ : ∃ B, B = w.heap.size := ⟨_, rfl⟩
  have HO2 : Hid (Only [] w W2) := by show Only _ _ _; rw [hW2]; exact ((Only.refl _ _).alloc _).alloc _
  have HK1 : Hid (ClBox W2 B k) := by show ClBox _ _ _; rw [hW2, hB]; exact (ClBox.new w k _).old ((Only.refl _ _).alloc _)
  have HK2 : Hid (W2.cell? ⟨B + 1, 0, none⟩ = some (.string s)) := by show _ = _; rw [hW2]; exact box_new _ _ _ (by rw [hB]; simp)
  have HZ2 : Hid (W2.frozen? ⟨B + 1, 0, none⟩ = false) := by show _ = _; rw [hW2, hB]; simp
  have HB : Hid (B = w.heap.size) := hB
  obtain ⟨s2, hs2⟩ : ∃ s2, s2 = lowA s := ⟨_, rfl⟩
  have hlow : Calls Tryz.prog 76 #[.string s] W2 fun e w' => e = .returned (.string s2) ∧ Below W2.heap.size W2 w' := by rw [hs2]; exact Lower_any s W2 hs
  obtain ⟨a, ha⟩ : ∃ a, a = (!k.c && !tB s2 authT) := ⟨_, rfl⟩
  obtain ⟨z, hz⟩ : ∃ z, z = tB s2 authT := ⟨_, rfl⟩
  have hauth := auth_lit s2
  rw [← hz] at ha hauth
  have HH := Lib.hid h
  have HE : Hid (hdrL k s t l = hasL t (fun x => cellB x.k k && noB x.m && (tB x.h s2 || a && tB x.h starT)) l) := by show _ = _; unfold hdrL headE; rw [← hs2, ha, hz]
  have HA := Lib.hid ha
  generalize hdrL k s t l = q at *
  have d0 := HK1.out.c0
  obtain ⟨k1, k2, k3⟩ := k
  simp only [cellV]
  simp only at HA
  clear h hs hs2 hz ha d0
  have hB1 : B + 1 ≠ B := by omega
  go_enter Tryz.func72, Tryz.ntmps72
  go_wp2_with fail
  rw [← hW2, ← hB]
  clear hW2 hB
  refine hlow.mono ?_
  rintro r w3 ⟨rfl, ho3⟩
  have HO3 : Hid (Only [] W2 w3) := Only.of_below ho3 []
  clear hlow ho3
  have HK13 := Lib.hid (HK1.out.old HO3.out)
  have hc2 := box_old HK2.out HO3.out
  have hz2 : w3.frozen? ⟨B + 1, 0, none⟩ = false := (HO3.out.frozen (p := ⟨B + 1, 0, none⟩) (block_of_cell (a := ⟨B + 1, 0, none⟩) HK2.out) (by simp)).trans HZ2.out
  obtain ⟨W4, hW4⟩ : ∃ W4, W4 = w3.setCell ⟨B + 1, 0, none⟩ (.string s2) := ⟨_, rfl⟩
  have HO4 : Hid (Only [B + 1] w3 W4) := by show Only _ _ _; rw [hW4]; exact (Only.refl _ _).setCell (p := ⟨B + 1, 0, none⟩) (by simp) _
  have HK14 : Hid (ClBox W4 B ⟨k1, k2, k3⟩) := HK13.out.only HO4.out (by simp)
  have HK24 : Hid (W4.cell? ⟨B + 1, 0, none⟩ = some (.string s2)) := by show _ = _; rw [hW4]; exact World.cell?_setCell_same _ _ _ hc2
  have HO04 : Hid (Only [] w W4) := ((HO2.out.trans HO3.out)).next HO4.out (fun x hx => by simp at hx; subst hx; have := HB.out; exact .inr (by omega))
  obtain ⟨W5, hW5⟩ : ∃ W5, W5 = W4.alloc (.cells #[.bool a] 4) := ⟨_, rfl⟩
  obtain ⟨C, hC⟩ : ∃ C, C = w3.heap.size := ⟨_, rfl⟩
  have HO5 : Hid (Only [] W4 W5) := by show Only _ _ _; rw [hW5]; exact (Only.refl _ _).alloc _
  have HK5 : Hid (W5.cell? ⟨C, 0, none⟩ = some (.bool a)) := by show _ = _; rw [hW5]; exact box_new _ _ _ (by rw [hC, hW4]; simp [World.setCell])
  have HK15 := Lib.hid (HK14.out.old HO5.out)
  have HK25 := Lib.hid (box_old HK24.out HO5.out)
  have HC : Hid (∀ (W : World) (x : En), Only [] W5 W → Calls Tryz.prog 121 (#[entV x] ++ #[.pointer (some ⟨B, 0, none⟩), .pointer (some ⟨B + 1, 0, none⟩), .pointer (some ⟨C, 0, none⟩)]) W fun r w' => r = .returned (.bool (cellB x.k ⟨k1, k2, k3⟩ && noB x.m && (tB x.h s2 || a && tB x.h starT))) ∧ Only [] W w') := by
    show ∀ (W : World) (x : En), _
    intro W x hO
    exact chead1_any ⟨k1, k2, k3⟩ s2 a x B (B + 1) C W (HK15.out.old hO) (box_old HK25.out hO) (box_old HK5.out hO)
  have hcon := chas_any g n v l t 121 #[.pointer (some ⟨B, 0, none⟩), .pointer (some ⟨B + 1, 0, none⟩), .pointer (some ⟨C, 0, none⟩)] (fun x => cellB x.k ⟨k1, k2, k3⟩ && noB x.m && (tB x.h s2 || a && tB x.h starT)) W5 (HH.out.old (HO04.out.trans HO5.out)) eg HC.out
  rw [← HE.out] at hcon
  clear eg
  obtain ⟨e0, e1, e2⟩ := HK13.out
  simp only at e0 e1 e2
  cases k3 <;> cases z <;>
  · simp only [Bool.not_true, Bool.not_false, Bool.and_true, Bool.and_false] at HA
    have ha := HA.out
    rw [ha] at hW5
    go_wp2_with fail
    rw [← hW4, ← hC, ← hW5]
    clear hW5 hC hW4 hc2 hz2 e0 e1 e2
    refine hcon.mono ?_
    rintro r w' ⟨rfl, hs⟩
    clear hcon
    go_wp2
    go_ret
    exact ⟨rfl, HO04.out.trans (HO5.out.trans hs)⟩
end Go.Proofs.YtlkneapidmdpbaaGreatDoor
