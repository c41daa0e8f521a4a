/-
  The contracts of timer.New, Len, Next, Arm over this seat's program. Conditions: those of each statement.
-/
import Derived.Test.YtbpdemgbljbhcaaWRem
import Derived.Laws.LoneSync
namespace Go.Proofs.Ytbpdemgbljbhcaa
open Go.RowKit

def clampM (n : Int) : Int := if n < 1 then 1 else if 256 < n then 256 else n

set_option maxHeartbeats 400000 in
theorem atomStore_any (gw : Nat) (o : Nat) (t u : Int) (w : World) (h0 : w.cell? ⟨gw, o, none⟩ = some (.int .i64 t)) (hz : w.frozen? ⟨gw, o, none⟩ = false) :
    Calls Try.prog 23 #[.pointer (some ⟨gw, o, none⟩), .int .i64 u] w fun e w' => e = .returned (.tuple #[]) ∧ w' = w.setCell ⟨gw, o, none⟩ (.int .i64 u) := by
  have hst := run_call_store (P := Try.prog) Try.func28 (by kernel_rfl) (by kernel_rfl) (by kernel_rfl) (by kernel_rfl) (k := .i64) (y := u) h0 hz
  go_enter Try.func23, Try.ntmps23
  go_wp2
  go_end0
  exact ⟨rfl, rfl⟩

set_option maxHeartbeats 400000 in
theorem atomAdd_any (gw : Nat) (o : Nat) (t : Int) (w : World) (h0 : w.cell? ⟨gw, o, none⟩ = some (.int .i64 t)) (hz : w.frozen? ⟨gw, o, none⟩ = false) (ht : 0 ≤ t) (ht2 : t ≤ 1000000) :
    Calls Try.prog 24 #[.pointer (some ⟨gw, o, none⟩), .int .i64 1] w fun e w' => e = .returned (.int .i64 (t + 1)) ∧ w' = w.setCell ⟨gw, o, none⟩ (.int .i64 (t + 1)) := by
  have hs : ∀ W : World, (Op.intArith .add .i64 t 1).run Try.prog W = .ok (.int .i64 (t + 1)) W := by
    intro W
    have : IntKind.i64.wrap (t + 1) = t + 1 := IntWalk.i64_in _ (by omega)
    simp [Op.intArith, this]
  have hst := run_call_add (P := Try.prog) Try.func29 (by kernel_rfl) (by kernel_rfl) (by kernel_rfl) .i64 (by kernel_rfl) (y := 1) h0 hz (hs _)
  go_enter Try.func24, Try.ntmps24
  go_wp2
  go_ret
  exact ⟨rfl, rfl⟩

set_option maxHeartbeats 400000 in
theorem wheelNew_any (n : Int) (w : World) :
    Calls Try.prog 9 #[.int .i64 n] w fun e w' => e = .returned (.pointer (some ⟨w.heap.size, 0, none⟩)) ∧ WAt w' w.heap.size (clampM n) 1 (.slice none 0 0) [] ∧ Only [] w w' ∧ w'.heap.size = w.heap.size + 1 := by
  by_cases h1 : n < 1
  · have hm : clampM n = 1 := by unfold clampM; rw [if_pos h1]
    have HM := Lib.hid hm
    clear hm
    obtain ⟨W, hW⟩ : ∃ W, W = w.alloc (.cells #[.int .i64 1, .int .i64 0, .slice none 0 0] 60) := ⟨_, rfl⟩
    have hh : WHead W w.heap.size 1 0 (.slice none 0 0) := by rw [hW]; exact ⟨by simp, by simp, by simp, by simp, by simp⟩
    have ho : Only [] w W := by rw [hW]; exact (Only.refl _ _).alloc _
    have hs : W.heap.size = w.heap.size + 1 := by rw [hW]; simp
    have HH := Lib.hid hh
    have HO := Lib.hid ho
    have HS := Lib.hid hs
    clear hh ho hs
    go_enter Try.func9, Try.ntmps9
    go_wp2_with fail
    rw [← hW]
    clear hW
    refine (atomStore_any w.heap.size 1 0 1 W HH.out.c1 HH.out.z1).mono ?_
    rintro e w2 ⟨rfl, rfl⟩
    go_wp2
    go_ret
    refine ⟨rfl, ?_, HO.out.setNew (p := ⟨w.heap.size, 1, none⟩) (Nat.le_refl _) _, by simp [World.setCell]; exact HS.out⟩
    rw [HM.out]
    exact ⟨HH.out.set1 1, ARow.nil _ _⟩
  by_cases h2 : 256 < n
  · have hm : clampM n = 256 := by unfold clampM; rw [if_neg h1, if_pos h2]
    have HM := Lib.hid hm
    clear hm
    obtain ⟨W, hW⟩ : ∃ W, W = w.alloc (.cells #[.int .i64 256, .int .i64 0, .slice none 0 0] 60) := ⟨_, rfl⟩
    have hh : WHead W w.heap.size 256 0 (.slice none 0 0) := by rw [hW]; exact ⟨by simp, by simp, by simp, by simp, by simp⟩
    have ho : Only [] w W := by rw [hW]; exact (Only.refl _ _).alloc _
    have hs : W.heap.size = w.heap.size + 1 := by rw [hW]; simp
    have HH := Lib.hid hh
    have HO := Lib.hid ho
    have HS := Lib.hid hs
    clear hh ho hs
    have h3 : ¬ n ≤ 256 := by omega
    go_enter Try.func9, Try.ntmps9
    go_wp2_with fail
    rw [← hW]
    clear hW
    refine (atomStore_any w.heap.size 1 0 1 W HH.out.c1 HH.out.z1).mono ?_
    rintro e w2 ⟨rfl, rfl⟩
    go_wp2
    go_ret
    refine ⟨rfl, ?_, HO.out.setNew (p := ⟨w.heap.size, 1, none⟩) (Nat.le_refl _) _, by simp [World.setCell]; exact HS.out⟩
    rw [HM.out]
    exact ⟨HH.out.set1 1, ARow.nil _ _⟩
  · have hm : clampM n = n := by unfold clampM; rw [if_neg h1, if_neg h2]
    have HM := Lib.hid hm
    clear hm
    obtain ⟨W, hW⟩ : ∃ W, W = w.alloc (.cells #[.int .i64 n, .int .i64 0, .slice none 0 0] 60) := ⟨_, rfl⟩
    have hh : WHead W w.heap.size n 0 (.slice none 0 0) := by rw [hW]; exact ⟨by simp, by simp, by simp, by simp, by simp⟩
    have ho : Only [] w W := by rw [hW]; exact (Only.refl _ _).alloc _
    have hs : W.heap.size = w.heap.size + 1 := by rw [hW]; simp
    have HH := Lib.hid hh
    have HO := Lib.hid ho
    have HS := Lib.hid hs
    clear hh ho hs
    have h3 : n ≤ 256 := by omega
    go_enter Try.func9, Try.ntmps9
    go_wp2_with fail
    rw [← hW]
    clear hW
    refine (atomStore_any w.heap.size 1 0 1 W HH.out.c1 HH.out.z1).mono ?_
    rintro e w2 ⟨rfl, rfl⟩
    go_wp2
    go_ret
    refine ⟨rfl, ?_, HO.out.setNew (p := ⟨w.heap.size, 1, none⟩) (Nat.le_refl _) _, by simp [World.setCell]; exact HS.out⟩
    rw [HM.out]
    exact ⟨HH.out.set1 1, ARow.nil _ _⟩

/-- what is armed, by its numbers: each once, below the next one -/
structure Ids (next : Int) (s : List Al) : Prop where
  nodup : (s.map (fun a => a.2.1)).Nodup
  lo : ∀ a ∈ s, 1 ≤ a.2.1
  hi : ∀ a ∈ s, a.2.1 < next
/-- at block gw lies a wheel: of so many, with the next number; s is armed -/
structure Wh (w : World) (gw : Nat) (most next : Int) (v : Value) (s : List Al) : Prop where
  ids : Ids next s
  mem : ∃ l, WAt w gw most next v l ∧ HeapL l ∧ l.Perm s
theorem Wh.lt {w : World} {gw : Nat} {most next : Int} {v : Value} {s : List Al} (h : Wh w gw most next v s) : gw < w.heap.size := by
  obtain ⟨l, h1, _⟩ := h.mem; exact h1.head.lt
theorem Wh.own {w : World} {gw : Nat} {most next : Int} {v : Value} {s : List Al} (h : Wh w gw most next v s) {g : Nat} (hg : g ∈ ownL v) : gw < g ∧ g < w.heap.size := by
  obtain ⟨l, h1, _⟩ := h.mem; exact h1.own hg
theorem Wh.only {w w' : World} {gw : Nat} {most next : Int} {v : Value} {s : List Al} {f : List Nat} (h : Wh w gw most next v s) (o : Only f w w') (hg : gw ∉ f) (hv : ∀ g ∈ ownL v, g ∉ f) : Wh w' gw most next v s := by
  obtain ⟨l, h1, h2, h3⟩ := h.mem
  exact ⟨h.ids, l, h1.only o hg hv, h2, h3⟩
theorem Wh.old {w w' : World} {gw : Nat} {most next : Int} {v : Value} {s : List Al} (h : Wh w gw most next v s) (o : Only [] w w') : Wh w' gw most next v s := h.only o (by simp) (by simp)
theorem Wh.perm {w : World} {gw : Nat} {most next : Int} {v : Value} {s s' : List Al} (h : Wh w gw most next v s) (hp : s.Perm s') : Wh w gw most next v s' := by
  obtain ⟨l, h1, h2, h3⟩ := h.mem
  exact ⟨⟨(hp.map _).nodup_iff.1 h.ids.nodup, fun a ha => h.ids.lo a (hp.mem_iff.2 ha), fun a ha => h.ids.hi a (hp.mem_iff.2 ha)⟩, l, h1, h2, h3.trans hp⟩
theorem Ids.nil (next : Int) : Ids next [] := ⟨by simp, by simp, by simp⟩
theorem Ids.push {next : Int} {s : List Al} (h : Ids next s) (hn : 1 ≤ next) (a t : Int) : Ids (next + 1) (s ++ [(a, next, t)]) := by
  refine ⟨?_, ?_, ?_⟩
  · rw [List.map_append, List.nodup_append]
    refine ⟨h.nodup, by simp, ?_⟩
    intro x hx y hy
    simp at hy
    obtain ⟨b, hb, rfl⟩ := List.mem_map.1 hx
    have := h.hi b hb
    omega
  · intro b hb
    rcases List.mem_append.1 hb with hb | hb
    · exact h.lo b hb
    · simp at hb; subst hb; exact hn
  · intro b hb
    rcases List.mem_append.1 hb with hb | hb
    · have := h.hi b hb; omega
    · simp at hb; subst hb; show next < next + 1; omega
/-- without the number i -/
def without (i : Int) (s : List Al) : List Al := s.filter (fun a => !decide (a.2.1 = i))
theorem Ids.without {next : Int} {s : List Al} (h : Ids next s) (i : Int) : Ids next (without i s) := by
  refine ⟨?_, fun a ha => h.lo a (List.mem_filter.1 ha).1, fun a ha => h.hi a (List.mem_filter.1 ha).1⟩
  exact List.Nodup.sublist (List.Sublist.map _ List.filter_sublist) h.nodup
theorem without_none {i : Int} {s : List Al} (h : ∀ a ∈ s, a.2.1 ≠ i) : without i s = s := by
  unfold Proofs.Ytbpdemgbljbhcaa.without
  rw [List.filter_eq_self]
  intro a ha
  simpa using h a ha
theorem without_perm {i : Int} {s l : List Al} {a : Al} (hp : (a :: l).Perm s) (ha : a.2.1 = i) (hn : (s.map (fun a => a.2.1)).Nodup) : l.Perm (without i s) := by
  have h1 : ((a :: l).map (fun a => a.2.1)).Nodup := (hp.map _).nodup_iff.2 hn
  have h2 : ∀ b ∈ l, b.2.1 ≠ i := by
    intro b hb e
    rw [List.map_cons, List.nodup_cons] at h1
    exact h1.1 (List.mem_map.2 ⟨b, hb, by rw [e, ha]⟩)
  have h3 : without i (a :: l) = l := by
    have h4 := without_none h2
    unfold Proofs.Ytbpdemgbljbhcaa.without at *
    rw [List.filter_cons, if_neg (by simpa using ha), h4]
  have h5 : (without i (a :: l)).Perm (without i s) := hp.filter _
  rwa [h3] at h5

theorem wheelNew_wh (n : Int) (w : World) :
    Calls Try.prog 9 #[.int .i64 n] w fun e w' => e = .returned (.pointer (some ⟨w.heap.size, 0, none⟩)) ∧ Wh w' w.heap.size (clampM n) 1 (.slice none 0 0) [] ∧ Only [] w w' ∧ w'.heap.size = w.heap.size + 1 := by
  refine (wheelNew_any n w).mono ?_
  rintro e w' ⟨rfl, h1, h2, h3⟩
  exact ⟨rfl, ⟨Ids.nil _, [], h1, fun i h0 h1 => by simp at h1, List.Perm.refl _⟩, h2, h3⟩

theorem slice_of {w : World} {base : Nat} {v : Value} {l : List Al} (h : ARow w base v l) : ∃ A cap, v = .slice A l.length cap ∧ l.length ≤ cap ∧ cap ≤ maxLen := by
  rcases h.form with ⟨rfl, rfl⟩ | ⟨g, cap, rfl, _, _, h1, h2⟩
  · exact ⟨none, 0, rfl, Nat.le_refl _, Nat.zero_le _⟩
  · exact ⟨_, cap, rfl, h1, h2⟩

set_option maxHeartbeats 400000 in
theorem wheelLen_any (gw : Nat) (most next : Int) (v : Value) (s : List Al) (w : World) (h : Wh w gw most next v s) :
    Calls Try.prog 20 #[.pointer (some ⟨gw, 0, none⟩)] w fun e w' => e = .returned (.int .i64 s.length) ∧ w = w' := by
  obtain ⟨l, h1, h2, h3⟩ := h.mem
  rw [← h3.length_eq]
  obtain ⟨A, cap, rfl, _, _⟩ := slice_of h1.row
  have hc2 := h1.head.c2
  clear h h1 h2 h3
  go_enter Try.func20, Try.ntmps20
  go_wp2
  go_ret
  exact ⟨rfl, rfl⟩

set_option maxHeartbeats 800000 in
/-- Arm: full -/
theorem wheelArm_full (gw : Nat) (most next : Int) (v : Value) (s : List Al) (at_ tag : Int) (w : World) (h : Wh w gw most next v s) (hm : most ≤ (s.length : Int)) :
    Calls Try.prog 12 #[.pointer (some ⟨gw, 0, none⟩), .int .u64 at_, .int .i64 tag] w fun e w' => e = .returned (.tuple #[.int .i64 0, .int .i64 10]) ∧ Wh w' gw most next v s ∧ Only [] w w' := by
  obtain ⟨l, h1, h2, h3⟩ := h.mem
  rw [← h3.length_eq] at hm
  obtain ⟨A, cap, hv, hlc, hcm⟩ := slice_of h1.row
  have hc2 := h1.head.c2
  have hc0 := h1.head.c0
  rw [hv] at hc2
  have HW := Lib.hid h
  unfold maxLen at hcm
  clear h h1 h2 h3 hv
  go_enter Try.func12, Try.ntmps12
  go_wp2_with fail
  go_quiet (fail)
  go_wp2
  go_ret2
  exact ⟨rfl, HW.out.old ((Only.refl _ _).drewN _), (Only.refl _ _).drewN _⟩
set_option maxHeartbeats 800000 in
/-- Arm: there is room -/
theorem wheelArm_room (gw : Nat) (most next : Int) (v : Value) (s : List Al) (at_ tag : Int) (w : World) (h : Wh w gw most next v s) (hm : (s.length : Int) < most) (hmm : most ≤ 256) (hn : 1 ≤ next) (hn2 : next ≤ 100000) :
    Calls Try.prog 12 #[.pointer (some ⟨gw, 0, none⟩), .int .u64 at_, .int .i64 tag] w fun e w' => e = .returned (.tuple #[.int .i64 next, .int .i64 0]) ∧
      ∃ v', Wh w' gw most (next + 1) v' (s ++ [(at_, next, tag)]) ∧ Only (gw :: ownL v) w w' ∧ ∀ g ∈ ownL v', g ∈ ownL v ∨ w.heap.size ≤ g := by
  have hid := h.ids
  obtain ⟨l, h1, h2, h3⟩ := h.mem
  rw [← h3.length_eq] at hm
  obtain ⟨A, cap, hv, hlc, hcm⟩ := slice_of h1.row
  have hc2 := h1.head.c2
  have hc0 := h1.head.c0
  rw [hv] at hc2
  have HI := Lib.hid hid
  have HW := Lib.hid h1
  have HH := Lib.hid h2
  have HP := Lib.hid h3
  have HL : Hid (l.length ≤ 500) := by show _ ≤ _; omega
  unfold maxLen at hcm
  have hm2 : ¬ most ≤ (l.length : Int) := by omega
  clear h h1 h2 h3 hid hv
  go_enter Try.func12, Try.ntmps12
  go_wp2_with fail
  have hmf : decide (most ≤ (l.length : Int)) = false := decide_eq_false (by omega)
  go_quiet (fail)
  clear hmf
  obtain ⟨W1, hW1⟩ : ∃ W1, W1 = w.drewN nq := ⟨_, rfl⟩
  have HW1 : Hid (WAt W1 gw most next v l) := by show WAt _ _ _ _ _ _; rw [hW1]; exact HW.out.old ((Only.refl _ _).drewN _)
  have HO1 : Hid (Only [] w W1) := by show Only _ _ _; rw [hW1]; exact (Only.refl _ _).drewN _
  go_wp2_with fail
  rw [← hW1]
  clear hW1 hc2 hc0
  refine (atomAdd_any gw 1 next W1 HW1.out.head.c1 HW1.out.head.z1 (by omega) (by omega)).mono ?_
  rintro e w2 ⟨rfl, hw2⟩
  have HW2 : Hid (WAt w2 gw most (next + 1) v l) := by show WAt _ _ _ _ _ _; rw [hw2]; exact ⟨HW1.out.head.set1 _, HW1.out.row.setBelow _ _⟩
  have HO2 : Hid (Only (gw :: ownL v) w w2) := by show Only _ _ _; rw [hw2]; exact (HO1.out.mono (by simp)).setCell (p := ⟨gw, 1, none⟩) (by simp) _
  clear hw2
  go_wp2_with fail
  refine (push_any gw most (next + 1) v l at_ next tag w2 HW2.out HH.out HL.out).mono ?_
  rintro e w3 ⟨rfl, v', l', hw3, hh3, hp3, ho3, hg3⟩
  have HW3 := Lib.hid hw3
  have HH3 := Lib.hid hh3
  have HP3 := Lib.hid hp3
  have HO3 := Lib.hid ho3
  have HG3 := Lib.hid hg3
  clear hw3 hh3 hp3 ho3 hg3
  go_wp2
  go_ret2
  refine ⟨rfl, v', ⟨HI.out.push hn _ _, l', HW3.out, HH3.out, HP3.out.trans (HP.out.append_right _)⟩, HO2.out.trans HO3.out, ?_⟩
  intro g hg
  rcases HG3.out g hg with h | h
  · exact .inl h
  · have := HO2.out.size; exact .inr (by omega)
end Go.Proofs.Ytbpdemgbljbhcaa
