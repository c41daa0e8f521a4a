/-
  The contracts of Wheel.Next, Due and Cancel over this seat's program. Conditions: at most 500 timers are armed.
-/
import Derived.Test.YtbpdemgbljbhcaaWNew
namespace Go.Proofs.Ytbpdemgbljbhcaa
open Go.RowKit

/-- the foremost of s -/
structure Fore (s : List Al) (m : Al) : Prop where
  mem : m ∈ s
  min : ∀ b ∈ s, aLe m b
theorem Fore.heap {l s : List Al} (h : HeapL l) (hp : l.Perm s) (h0 : 0 < l.length) : Fore s (nth l 0) := by
  refine ⟨hp.mem_iff.1 (nth_mem h0), fun b hb => ?_⟩
  obtain ⟨i, hi, rfl⟩ := List.mem_iff_getElem.1 (hp.mem_iff.2 hb)
  rw [← nth_eq hi]
  exact h.least i hi
theorem Ids.one {next : Int} {s : List Al} (hi : Ids next s) {m m' : Al} (h : m ∈ s) (h' : m' ∈ s) (e : m.2.1 = m'.2.1) : m = m' := by
  have hn := hi.nodup
  clear hi
  induction s with
  | nil => simp at h
  | cons a r ih =>
    rw [List.map_cons, List.nodup_cons] at hn
    rcases List.mem_cons.1 h with h1 | h1
    · rcases List.mem_cons.1 h' with h2 | h2
      · rw [h1, h2]
      · exact absurd (List.mem_map.2 ⟨m', h2, by rw [← e, h1]⟩) hn.1
    · rcases List.mem_cons.1 h' with h2 | h2
      · exact absurd (List.mem_map.2 ⟨m, h1, by rw [e, h2]⟩) hn.1
      · exact ih h1 h2 hn.2
theorem Fore.one {next : Int} {s : List Al} (hi : Ids next s) {m m' : Al} (h : Fore s m) (h' : Fore s m') : m = m' := by
  have h1 := h.min m' h'.mem
  have h2 := h'.min m h.mem
  rw [aLe_iff] at h1 h2
  have e : m.2.1 = m'.2.1 := by omega
  exact hi.one h.mem h'.mem e
theorem Fore.ex : ∀ {s : List Al}, s ≠ [] → ∃ m, Fore s m
  | [], h => absurd rfl h
  | [a], _ => ⟨a, by simp, by intro b hb; simp at hb; subst hb; exact aLe.refl _⟩
  | a :: c :: r, _ => by
    obtain ⟨m, hm⟩ := Fore.ex (s := c :: r) (by simp)
    cases hb : bef m a
    · refine ⟨a, by simp, ?_⟩
      intro b hbm
      rcases List.mem_cons.1 hbm with rfl | h
      · exact aLe.refl _
      · exact (aLe_of_not hb).trans (hm.min b h)
    · refine ⟨m, List.mem_cons_of_mem _ hm.mem, ?_⟩
      intro b hbm
      rcases List.mem_cons.1 hbm with rfl | h
      · exact aLe_of_bef hb
      · exact hm.min b h

set_option maxHeartbeats 800000 in
theorem wheelNext_none (gw : Nat) (most next : Int) (v : Value) (w : World) (h : Wh w gw most next v []) :
    Calls Try.prog 18 #[.pointer (some ⟨gw, 0, none⟩)] w fun e w' => e = .returned (.tuple #[.int .u64 0, .bool false]) ∧ w = w' := by
  obtain ⟨l, h1, h2, h3⟩ := h.mem
  obtain rfl : l = [] := h3.eq_nil
  obtain ⟨A, cap, hv, _, _⟩ := slice_of h1.row
  have hc2 := h1.head.c2
  rw [hv] at hc2
  simp only [List.length_nil] at hc2
  clear h h1 h2 h3 hv
  go_enter Try.func18, Try.ntmps18
  go_wp2
  go_ret2
  exact ⟨rfl, rfl⟩
theorem row_some {w : World} {base : Nat} {v : Value} {l : List Al} (h : ARow w base v l) (h0 : 0 < l.length) : ∃ g cap, v = .slice (some ⟨g, 0, none⟩) l.length cap ∧ base ≤ g ∧ g < w.heap.size ∧ l.length ≤ cap ∧ cap ≤ maxLen := by
  rcases h.form with ⟨_, rfl⟩ | h
  · simp at h0
  · exact h

set_option maxHeartbeats 800000 in
theorem wheelNext_some (gw : Nat) (most next : Int) (v : Value) (s : List Al) (m : Al) (w : World) (h : Wh w gw most next v s) (hm : Fore s m) (hs : s.length ≤ 500) :
    Calls Try.prog 18 #[.pointer (some ⟨gw, 0, none⟩)] w fun e w' => e = .returned (.tuple #[.int .u64 m.1, .bool true]) ∧ w = w' := by
  obtain ⟨l, h1, h2, h3⟩ := h.mem
  have h0 : 0 < l.length := by rw [h3.length_eq]; exact List.length_pos_of_mem hm.mem
  have he : nth l 0 = m := Fore.one h.ids (Fore.heap h2 h3 h0) hm
  obtain ⟨g, cap, hv, _, _, hlc, hcm⟩ := row_some h1.row h0
  have hl : l.length ≤ 500 := by rw [h3.length_eq]; exact hs
  have hr := h1.row
  rw [hv] at hr
  have e1 := hr.el rfl h0
  rw [he] at e1
  obtain ⟨m1, m2, m3⟩ := m
  obtain ⟨f1, _, _⟩ := e1
  simp only [Nat.zero_mul] at f1
  have hc2 := h1.head.c2
  rw [hv] at hc2
  unfold maxLen at hcm
  obtain ⟨n, hn⟩ : ∃ n, l.length = n + 1 := ⟨l.length - 1, by omega⟩
  rw [hn] at hc2 hl hlc
  clear h h1 h2 h3 hv hr he hm h0 hn
  go_enter Try.func18, Try.ntmps18
  go_wp2
  go_ret2
  exact ⟨rfl, rfl⟩

set_option maxHeartbeats 800000 in
theorem wheelDue_none (gw : Nat) (most next : Int) (v : Value) (s : List Al) (now : Int) (w : World) (h : Wh w gw most next v s) (hm : ∀ b ∈ s, now < b.1) (hs : s.length ≤ 500) :
    Calls Try.prog 16 #[.pointer (some ⟨gw, 0, none⟩), .int .u64 now] w fun e w' => e = .returned (.tuple #[.int .i64 0, .int .i64 0, .bool false]) ∧ w = w' := by
  obtain ⟨l, h1, h2, h3⟩ := h.mem
  by_cases h0 : 0 < l.length
  · have hnow : now < (nth l 0).1 := hm _ (Fore.heap h2 h3 h0).mem
    obtain ⟨g, cap, hv, _, _, hlc, hcm⟩ := row_some h1.row h0
    have hl : l.length ≤ 500 := by rw [h3.length_eq]; exact hs
    have hr := h1.row
    rw [hv] at hr
    have e1 := hr.el rfl h0
    generalize nth l 0 = m at *
    obtain ⟨m1, m2, m3⟩ := m
    obtain ⟨f1, _, _⟩ := e1
    simp only [Nat.zero_mul] at f1
    have hc2 := h1.head.c2
    rw [hv] at hc2
    unfold maxLen at hcm
    obtain ⟨n, hn⟩ : ∃ n, l.length = n + 1 := ⟨l.length - 1, by omega⟩
    rw [hn] at hc2 hl hlc
    clear h h1 h2 h3 hv hr hm h0 hn
    go_enter Try.func16, Try.ntmps16
    go_wp2
    refine bodyPost_ret (v := .tuple #[.int .i64 0, .int .i64 0, .bool false]) (by simp [results, go_sem]) rfl ?_
    exact ⟨rfl, rfl⟩
  · obtain ⟨A, cap, hv, _, _⟩ := slice_of h1.row
    have hc2 := h1.head.c2
    rw [hv, show l.length = 0 by omega] at hc2
    clear h h1 h2 h3 hv hm
    go_enter Try.func16, Try.ntmps16
    go_wp2
    refine bodyPost_ret (v := .tuple #[.int .i64 0, .int .i64 0, .bool false]) (by simp [results, go_sem]) rfl ?_
    exact ⟨rfl, rfl⟩

set_option maxHeartbeats 1200000 in
theorem wheelDue_some (gw : Nat) (most next : Int) (v : Value) (s : List Al) (m : Al) (now : Int) (w : World) (h : Wh w gw most next v s) (hm : Fore s m) (hnow : m.1 ≤ now) (hs : s.length ≤ 500) :
    Calls Try.prog 16 #[.pointer (some ⟨gw, 0, none⟩), .int .u64 now] w fun e w' => e = .returned (.tuple #[.int .i64 m.2.1, .int .i64 m.2.2, .bool true]) ∧
      ∃ v', Wh w' gw most next v' (without m.2.1 s) ∧ Only (gw :: ownL v) w w' ∧ ∀ g ∈ ownL v', g ∈ ownL v := by
  have hid := h.ids
  obtain ⟨l, h1, h2, h3⟩ := h.mem
  have h0 : 0 < l.length := by rw [h3.length_eq]; exact List.length_pos_of_mem hm.mem
  have he : nth l 0 = m := Fore.one h.ids (Fore.heap h2 h3 h0) hm
  obtain ⟨g, cap, hv, _, hgs, hlc, hcm⟩ := row_some h1.row h0
  have hl : l.length ≤ 500 := by rw [h3.length_eq]; exact hs
  have hr := h1.row
  rw [hv] at hr
  have e1 := hr.el rfl h0
  rw [he] at e1
  obtain ⟨m1, m2, m3⟩ := m
  obtain ⟨f1, f2, f3⟩ := e1
  simp only [Nat.zero_mul, Nat.zero_add] at f1 f2 f3
  have hc2 := h1.head.c2
  rw [hv] at hc2
  unfold maxLen at hcm
  obtain ⟨n, hn⟩ : ∃ n, l.length = n + 1 := ⟨l.length - 1, by omega⟩
  have hnow2 : ¬ now < m1 := by show ¬ _; simp at hnow; omega
  have HI := Lib.hid hid
  have HP := Lib.hid h3
  have HH := Lib.hid h2
  have HE := Lib.hid he
  have HV := Lib.hid hv
  have H0 := Lib.hid h0
  have HL := Lib.hid hl
  rw [hn] at hc2 hl hlc
  obtain ⟨W, hW⟩ : ∃ W, W = w.alloc (.cells #[.int .u64 m1, .int .i64 m2, .int .i64 m3] 66) := ⟨_, rfl⟩
  have HO : Hid (Only [] w W) := by show Only _ _ _; rw [hW]; exact (Only.refl _ _).alloc _
  have HW := Lib.hid (h1.old HO.out)
  have hb1 : W.cell? ⟨w.heap.size, 1, none⟩ = some (.int .i64 m2) := by rw [hW]; simp
  have hb2 : W.cell? ⟨w.heap.size, 2, none⟩ = some (.int .i64 m3) := by rw [hW]; simp
  have HB : Hid (W.heap.size = w.heap.size + 1) := by show _ = _; rw [hW]; simp
  have HF : Hid (gw < w.heap.size ∧ ∀ g ∈ ownL v, g < w.heap.size) := ⟨h1.head.lt, fun g hg => (h1.own hg).2⟩
  have HB1 := Lib.hid hb1
  have HB2 := Lib.hid hb2
  clear h h1 h2 h3 hv hr he hm hid hgs hb1 hb2 h0 hn
  go_enter Try.func16, Try.ntmps16
  go_wp2_with fail
  rw [← hW]
  clear hW
  refine (remove_any gw most next v l 0 W HW.out HH.out HL.out H0.out).mono ?_
  rintro e w2 ⟨rfl, v', l', hw2, hh2, hp2, ho2, hg2⟩
  have HW2 := Lib.hid hw2
  have HH2 := Lib.hid hh2
  have HP2 := Lib.hid hp2
  have HO2 := Lib.hid ho2
  have HG2 := Lib.hid hg2
  clear hw2 hh2 hp2 ho2 hg2
  have hnm : w.heap.size ∉ gw :: ownL v := by
    intro hx
    rcases List.mem_cons.1 hx with h | h
    · have := HF.out.1; omega
    · have := HF.out.2 _ h; omega
  have hc1 : w2.cell? ⟨w.heap.size, 1, none⟩ = some (.int .i64 m2) := (HO2.out.cell (p := ⟨w.heap.size, 1, none⟩) (by rw [HB.out]; simp) hnm).trans HB1.out
  have hc3 : w2.cell? ⟨w.heap.size, 2, none⟩ = some (.int .i64 m3) := (HO2.out.cell (p := ⟨w.heap.size, 2, none⟩) (by rw [HB.out]; simp) hnm).trans HB2.out
  clear hnm
  go_wp2_with fail
  go_quiet (fail)
  go_wp2
  refine bodyPost_ret (v := .tuple #[.int .i64 m2, .int .i64 m3, .bool true]) (by simp [results, go_sem]) rfl ?_
  have hp : l'.Perm (without m2 s) := by
    have := HP2.out
    rw [HE.out] at this
    exact without_perm (this.trans HP.out) rfl HI.out.nodup
  refine ⟨rfl, v', ⟨HI.out.without _, l', HW2.out.old ((Only.refl _ _).drewN _), HH2.out, hp⟩, ?_, HG2.out⟩
  exact ((HO.out.mono (by simp)).trans HO2.out).drewN _

set_option maxHeartbeats 1200000 in
theorem wheelCancel_any (gw : Nat) (most next : Int) (v : Value) (s : List Al) (id : Int) (w : World) (h : Wh w gw most next v s) (hs : s.length ≤ 500) :
    Calls Try.prog 14 #[.pointer (some ⟨gw, 0, none⟩), .int .i64 id] w fun e w' => e = .returned (.bool (s.any (fun a => decide (a.2.1 = id)))) ∧
      ∃ v', Wh w' gw most next v' (without id s) ∧ Only (gw :: ownL v) w w' ∧ ∀ g ∈ ownL v', g ∈ ownL v := by
  have hid := h.ids
  obtain ⟨l, h1, h2, h3⟩ := h.mem
  have hl : l.length ≤ 500 := by rw [h3.length_eq]; exact hs
  obtain ⟨A, cap, hv, hlc, hcm⟩ := slice_of h1.row
  have hc2 := h1.head.c2
  rw [hv] at hc2
  unfold maxLen at hcm
  have HI := Lib.hid hid
  have HP := Lib.hid h3
  have HH := Lib.hid h2
  have HV := Lib.hid hv
  have HL := Lib.hid hl
  have HW := Lib.hid h1
  clear h h1 h2 h3 hv hid
  go_enter Try.func14, Try.ntmps14
  go_wp2_with fail
  go_loopw [14] (fun i wr => ∃ (k : Nat), k ≤ l.length ∧ i = .int .i64 k ∧ WAt wr gw most next v l ∧ Only [] w wr ∧ ∀ j, j < k → (nth l j).2.1 ≠ id) (fun i _ => l.length - (intOf i).toNat)
  case atStart => exact ⟨0, Nat.zero_le _, rfl, HW.out, Only.refl _ _, fun j hj => by omega⟩
  case round =>
    obtain ⟨k, hk, rfl, hw, ho, hn⟩ := hrel
    have HWR := Lib.hid hw
    have HO := Lib.hid ho
    have HN := Lib.hid hn
    clear hw ho hn
    by_cases hlt : k < l.length
    · obtain ⟨g, cap2, hv2, _, hgs, _, _⟩ := row_some HWR.out.row (by omega)
      have hA : A = some ⟨g, 0, none⟩ ∧ cap = cap2 := by
        have := HV.out.symm.trans hv2
        injection this with e1 e2 e3
        exact ⟨e1, e3⟩
      obtain ⟨rfl, rfl⟩ := hA
      have hr := HWR.out.row
      rw [hv2] at hr
      have e1 := hr.el rfl hlt
      obtain ⟨b, hb⟩ : ∃ b, b = nth l k := ⟨_, rfl⟩
      rw [← hb] at e1
      obtain ⟨b1, b2, b3⟩ := b
      have HB := Lib.hid hb
      obtain ⟨f1, f2, f3⟩ := e1
      clear hr hb hv2 hgs
      obtain ⟨W, hW⟩ : ∃ W, W = wr.alloc (.cells #[.int .u64 b1, .int .i64 b2, .int .i64 b3] 66) := ⟨_, rfl⟩
      have HOW : Hid (Only [] wr W) := by show Only _ _ _; rw [hW]; exact (Only.refl _ _).alloc _
      have HWW := Lib.hid (HWR.out.old HOW.out)
      have HO1 := Lib.hid (HO.out.next HOW.out (by simp))
      by_cases hid : b2 = id
      · subst hid
        go_wp2_with fail
        rw [← hW]
        clear hW
        refine (remove_any gw most next v l k W HWW.out HH.out HL.out hlt).mono ?_
        rintro e w2 ⟨rfl, v', l', hw2, hh2, hp2, ho2, hg2⟩
        have HW2 := Lib.hid hw2
        have HH2 := Lib.hid hh2
        have HP2 := Lib.hid hp2
        have HO2 := Lib.hid ho2
        have HG2 := Lib.hid hg2
        clear hw2 hh2 hp2 ho2 hg2
        go_wp2
        go_ret
        have hp : l'.Perm (without b2 s) := by
          have := HP2.out
          rw [← HB.out] at this
          exact without_perm (this.trans HP.out) rfl HI.out.nodup
        have hany : s.any (fun a => decide (a.2.1 = b2)) = true := by
          rw [List.any_eq_true]
          exact ⟨(b1, b2, b3), HP.out.mem_iff.1 (by rw [HB.out]; exact nth_mem hlt), by simp⟩
        exact ⟨ret_bool hany.symm, v', ⟨HI.out.without _, l', HW2.out, HH2.out, hp⟩, (HO1.out.mono (by simp)).trans HO2.out, HG2.out⟩
      · have hidi : ¬ b2 = id := hid
        go_wp2_with fail
        rw [← hW]
        clear hW
        go_roundw
        case rel =>
          refine ⟨k + 1, by omega, by go_num, HWW.out, HO1.out, ?_⟩
          intro j hj
          by_cases e : j = k
          · subst e; rw [← HB.out]; exact hid
          · exact HN.out j (by omega)
        case measure => simp [intOf]; omega
    · obtain rfl : k = l.length := by omega
      go_wp2
      go_ret
      have hno : ∀ a ∈ s, a.2.1 ≠ id := by
        intro a ha
        obtain ⟨i, hi, rfl⟩ := List.mem_iff_getElem.1 (HP.out.mem_iff.2 ha)
        rw [← nth_eq hi]
        exact HN.out i hi
      have hany : s.any (fun a => decide (a.2.1 = id)) = false := by
        rw [List.any_eq_false]
        intro a ha
        simpa using hno a ha
      refine ⟨ret_bool hany.symm, v, ⟨HI.out.without _, l, HWR.out, HH.out, ?_⟩, HO.out.mono (by simp), fun g hg => hg⟩
      rw [without_none hno]
      exact HP.out
end Go.Proofs.Ytbpdemgbljbhcaa
