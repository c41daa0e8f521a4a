/-
  The contracts of Table.Keys and the document's own Keys over this seat's program: a row of texts of the call's own. Conditions: the table lies there.
-/
import Derived.Test.YtmpaopfjpigneaaNOps
namespace Go.Proofs.Ytmpaopfjpigneaa
open Go.RowKit

/-- the keys of hosts -/
def keysL (l : List Ho) : List ByteArray := l.map (fun h => h.1)
theorem keysL_take {l : List Ho} {k : Nat} (hk : k < l.length) : keysL (l.take (k + 1)) = keysL (l.take k) ++ [(nthH l k).1] := by
  unfold keysL
  rw [List.take_succ_eq_append_getElem hk, List.map_append, nthH_eq hk]; rfl

theorem cell_second (w : World) (o : Obj) (x : Value) (t : TypeId) : ((w.alloc o).alloc (.cells #[x] t)).cell? ⟨w.heap.size + 1, 0, none⟩ = some x := by
  have h1 : ∀ W : World, (W.alloc (.cells #[x] t)).cell? ⟨W.heap.size, 0, none⟩ = some x := fun W => by simp
  have h2 := h1 (w.alloc o)
  rw [show (w.alloc o).heap.size = w.heap.size + 1 by simp] at h2
  exact h2
set_option maxHeartbeats 1600000 in
theorem hKeys_any (g M : Nat) (v : Value) (l : List Ho) (w : World) (h : TbAt 57 w g M v l) :
    Calls Try.prog 17 #[.pointer (some ⟨g, 0, none⟩)] w fun e w' => ∃ u, e = .returned u ∧ TOwn w' w.heap.size u (keysL l) ∧ Only [] w w' := by
  obtain ⟨i0, hi, hz0, hz1, hz2⟩ := info_partsU infoSt
  obtain ⟨A, cap, rfl, hlc, hcm⟩ := h.room
  have HT := Lib.hid h
  have HL : Hid (l.length ≤ 32) := Nat.le_trans h.ok.len h.ok.m2
  have hc1 := h.head.c1
  have hgl := h.head.lt
  clear h
  go_enter Try.func17, Try.ntmps17
  go_wp2_with (at_make; refine wpList_make_own _ rfl _ _ 37 rfl w.heap.size 9 i0 (.string ⟨#[]⟩) 1 Try.underlying37 hi hz0 hz1 _ _ _ l.length rfl rfl rfl ?d1 ?d2 ?d3 ?_)
  case d1 => rw [hz2]; have := HL.out; omega
  case d2 => have := HL.out; unfold maxLen; omega
  case d3 => exact Nat.le_refl _
  intro w1 hr1 hg1
  have HR1 : Hid (TOwn w1 w.heap.size (.slice (some ⟨w.heap.size, 0, none⟩) 0 l.length) []) := hr1
  have HO1 : Hid (Only [] w w1) := Only.of_grown_own hg1 (by simp)
  have hd1 := (HT.out.old HO1.out).head.c1
  clear hr1 hg1 hc1 hi hz0 hz1 hz2
  go_wp2_with fail
  go_loopw [3, 19] (fun s i wr => ∃ k : Nat, k ≤ l.length ∧ i = .int .i64 k ∧ TOwn wr w.heap.size s (keysL (l.take k)) ∧ Only [] w wr) (fun _ i _ => l.length - (intOf i).toNat)
  case atStart => exact ⟨0, Nat.zero_le _, rfl, by rw [List.take_zero]; exact HR1.out, HO1.out⟩
  case round =>
    obtain ⟨k, hk, rfl, hs, ho⟩ := hrel
    have HS := Lib.hid hs
    have HO := Lib.hid ho
    clear hs ho
    by_cases hlt : k < l.length
    · have HTR := Lib.hid (HT.out.old HO.out)
      obtain ⟨gr, rfl, ⟨f1, f2⟩, _⟩ := HTR.out.at_ hlt
      have HK := Lib.hid (keysL_take hlt)
      obtain ⟨x, hx⟩ : ∃ x, x = nthH l k := ⟨_, rfl⟩
      rw [← hx] at f1 f2 HK
      clear hx
      obtain ⟨x1, x2⟩ := x
      simp only at f1 f2 HK
      obtain ⟨kl, hkl⟩ : ∃ kl, kl = keysL (l.take k) := ⟨_, rfl⟩
      have HKL : Hid (kl.length ≤ 32) := by show _ ≤ _; rw [hkl, keysL, List.length_map, List.length_take]; have := HL.out; omega
      rw [← hkl] at HS HK
      clear hkl
      obtain ⟨A2, cap2, e2, _⟩ := HS.out.view
      subst e2
      have HO3 : Hid (Only [] wr ((wr.alloc (.cells #[.string x1, .int .i64 (x2 : Int)] 57)).alloc (.cells #[.string x1] 9))) := ((Only.refl _ _).alloc _).alloc _
      have HN3 : Hid (((wr.alloc (.cells #[.string x1, .int .i64 (x2 : Int)] 57)).alloc (.cells #[.string x1] 9)).cell? ⟨wr.heap.size + 1, 0, none⟩ = some (.string x1)) := cell_second _ _ _ _
      have HS3 := Lib.hid (HS.out.only HO3.out (by simp))
      go_wp2_with (at_builtin; refine wpList_append_text1 rfl (.tmp 23) (.tmp 26) rfl w.heap.size _ kl rfl HS3.out (wr.heap.size + 1) x1 rfl HN3.out (by have := HKL.out; omega) (by have := HO.out.size; have := HO3.out.size; omega) ?_)
      intro v4 w4 hr4 ho4
      have HO4 : Hid (Only [] w w4) := (HO.out.trans HO3.out).next ho4.out (fun y hy => .inr (HS.out.own hy).1)
      have HR4 : Hid (TOwn w4 w.heap.size v4 (keysL (l.take (k + 1)))) := by show TOwn _ _ _ _; rw [HK.out]; exact hr4.out
      clear hr4 ho4
      obtain ⟨A5, cap5, e5, _⟩ := HR4.out.view
      subst e5
      go_wp2
      go_roundw
      case rel => exact ⟨k + 1, by omega, by go_num, HR4.out, HO4.out⟩
      case measure => simp [intOf]; omega
    · obtain rfl : k = l.length := by omega
      obtain ⟨A2, cap2, e2, _⟩ := HS.out.view
      subst e2
      go_wp2
      go_ret
      exact ⟨_, rfl, by have h1 := HS.out; rw [List.take_length] at h1 ⊢; exact h1, HO.out⟩

set_option maxHeartbeats 1600000 in
theorem rKeys_any (g M : Nat) (v : Value) (l : List Ho) (w : World) (h : TbAt 59 w g M v l) :
    Calls Try.prog 18 #[.pointer (some ⟨g, 0, none⟩)] w fun e w' => ∃ u, e = .returned u ∧ TOwn w' w.heap.size u (keysL l) ∧ Only [] w w' := by
  obtain ⟨A, cap, rfl, hlc, hcm⟩ := h.room
  have HT := Lib.hid h
  have HL : Hid (l.length ≤ 32) := Nat.le_trans h.ok.len h.ok.m2
  clear h
  go_enter Try.func18, Try.ntmps18
  go_wp2_with fail
  go_loopw [3, 4] (fun s i wr => ∃ k : Nat, k ≤ l.length ∧ i = .int .i64 k ∧ TOwn wr w.heap.size s (keysL (l.take k)) ∧ Only [] w wr) (fun _ i _ => l.length - (intOf i).toNat)
  case atStart => exact ⟨0, Nat.zero_le _, rfl, by rw [List.take_zero]; exact TOwn.nil _ _, Only.refl _ _⟩
  case round =>
    obtain ⟨k, hk, rfl, hs, ho⟩ := hrel
    have HS := Lib.hid hs
    have HO := Lib.hid ho
    clear hs ho
    have HTR := Lib.hid (HT.out.old HO.out)
    have hc1 := HTR.out.head.c1
    have hgl := HTR.out.head.lt
    by_cases hlt : k < l.length
    · obtain ⟨gr, rfl, ⟨f1, f2⟩, _⟩ := HTR.out.at_ hlt
      have HK := Lib.hid (keysL_take hlt)
      obtain ⟨x, hx⟩ : ∃ x, x = nthH l k := ⟨_, rfl⟩
      rw [← hx] at f1 f2 HK
      clear hx
      obtain ⟨x1, x2⟩ := x
      simp only at f1 f2 HK
      obtain ⟨kl, hkl⟩ : ∃ kl, kl = keysL (l.take k) := ⟨_, rfl⟩
      have HKL : Hid (kl.length ≤ 32) := by show _ ≤ _; rw [hkl, keysL, List.length_map, List.length_take]; have := HL.out; omega
      rw [← hkl] at HS HK
      clear hkl
      obtain ⟨A2, cap2, e2, _⟩ := HS.out.view
      subst e2
      have HO3 : Hid (Only [] wr (wr.alloc (.cells #[.string x1] 9))) := (Only.refl _ _).alloc _
      have HN3 : Hid ((wr.alloc (.cells #[.string x1] 9)).cell? ⟨wr.heap.size, 0, none⟩ = some (.string x1)) := by show _ = _; simp
      have HS3 := Lib.hid (HS.out.only HO3.out (by simp))
      go_wp2_with (at_builtin; refine wpList_append_text1 rfl (.tmp 14) (.tmp 23) rfl w.heap.size _ kl rfl HS3.out wr.heap.size x1 rfl HN3.out (by have := HKL.out; omega) (by have := HO.out.size; have := HO3.out.size; omega) ?_)
      intro v4 w4 hr4 ho4
      have HO4 : Hid (Only [] w w4) := (HO.out.trans HO3.out).next ho4.out (fun y hy => .inr (HS.out.own hy).1)
      have HR4 : Hid (TOwn w4 w.heap.size v4 (keysL (l.take (k + 1)))) := by show TOwn _ _ _ _; rw [HK.out]; exact hr4.out
      clear hr4 ho4
      obtain ⟨A5, cap5, e5, _⟩ := HR4.out.view
      subst e5
      go_wp2
      go_roundw
      case rel => exact ⟨k + 1, by omega, by go_num, HR4.out, HO4.out⟩
      case measure => simp [intOf]; omega
    · obtain rfl : k = l.length := by omega
      obtain ⟨A2, cap2, e2, _⟩ := HS.out.view
      subst e2
      go_wp2
      go_ret
      exact ⟨_, rfl, by have h1 := HS.out; rw [List.take_length] at h1 ⊢; exact h1, HO.out⟩
end Go.Proofs.Ytmpaopfjpigneaa
