/-
  The contracts of the document's own Next and Due over this seat's program. Conditions: at most 500 timers are armed.
-/
import Derived.Test.YtbpdemgbljbhcaaWRef3
import Derived.Test.YtbpdemgbljbhcaaWRef5
namespace Go.Proofs.Ytbpdemgbljbhcaa
open Go.RowKit

set_option maxHeartbeats 800000 in
theorem rNext_none (gr : Nat) (most last : Int) (v : Value) (w : World) (h : RAt w gr most last v []) :
    Calls Try.prog 19 #[.pointer (some ⟨gr, 0, none⟩)] w fun e w' => e = .returned (.tuple #[.int .u64 0, .bool false]) ∧ Only [] w w' := by
  have HW := Lib.hid h
  clear h
  go_enter Try.func19, Try.ntmps19
  go_wp2_with fail
  refine (rFirst_any gr most last v [] w HW.out (by simp)).mono ?_
  rintro e w1 ⟨c, rfl, ho, hc⟩
  obtain rfl : c = -1 := by
    rcases hc with ⟨_, h⟩ | ⟨j, _, h, _⟩
    · exact h
    · simp at h
  have HO := Lib.hid ho
  clear ho hc
  go_wp2
  go_ret2
  exact ⟨rfl, HO.out⟩

set_option maxHeartbeats 800000 in
theorem rNext_some (gr : Nat) (most last next : Int) (v : Value) (s : List Al) (m : Al) (w : World) (h : RAt w gr most last v s) (hids : Ids next s) (hm : Fore s m) (hs : s.length ≤ 500) :
    Calls Try.prog 19 #[.pointer (some ⟨gr, 0, none⟩)] w fun e w' => e = .returned (.tuple #[.int .u64 m.1, .bool true]) ∧ Only [] w w' := by
  have HW := Lib.hid h
  have HI := Lib.hid hids
  have HM := Lib.hid hm
  have HS := Lib.hid hs
  clear h hids hm hs
  go_enter Try.func19, Try.ntmps19
  go_wp2_with fail
  refine (rFirst_any gr most last v s w HW.out HS.out).mono ?_
  rintro e w1 ⟨c, rfl, ho, hc⟩
  rcases hc with ⟨h0, _⟩ | ⟨j, rfl, hj, hf⟩
  · have := HM.out.mem; rw [h0] at this; cases this
  have he := Fore.one HI.out hf HM.out
  have HO := Lib.hid ho
  have hw1 := HW.out.old ho
  obtain ⟨g, cap, hv, _, _, hlc, hcm⟩ := hw1.row.some_ (by omega)
  have hr := hw1.row
  rw [hv] at hr
  have e1 := hr.el rfl hj
  rw [he] at e1
  obtain ⟨m1, m2, m3⟩ := m
  obtain ⟨_, _, f3⟩ := e1
  have hc2 := hw1.head.c2
  rw [hv] at hc2
  unfold maxLen at hcm
  clear hw1 hr hv ho hf he
  go_wp2
  go_ret2
  exact ⟨rfl, HO.out⟩

set_option maxHeartbeats 1200000 in
theorem rDue_none (gr : Nat) (most last : Int) (v : Value) (s : List Al) (now : Int) (w : World) (h : RAt w gr most last v s) (hm : ∀ b ∈ s, now < b.1) (hs : s.length ≤ 500) :
    Calls Try.prog 17 #[.pointer (some ⟨gr, 0, none⟩), .int .u64 now] w fun e w' => e = .returned (.tuple #[.int .i64 0, .int .i64 0, .bool false]) ∧ Only [] w w' := by
  have HW := Lib.hid h
  have HM := Lib.hid hm
  have HS := Lib.hid hs
  clear h hm hs
  go_enter Try.func17, Try.ntmps17
  go_wp2_with fail
  refine (rFirst_any gr most last v s w HW.out HS.out).mono ?_
  rintro e w1 ⟨c, rfl, ho, hc⟩
  have HO := Lib.hid ho
  rcases hc with ⟨_, rfl⟩ | ⟨j, rfl, hj, hf⟩
  · clear ho
    go_wp2
    refine bodyPost_ret (v := .tuple #[.int .i64 0, .int .i64 0, .bool false]) (by simp [results, go_sem]) rfl ?_
    exact ⟨rfl, HO.out⟩
  · have hlate := HM.out _ hf.mem
    have hw1 := HW.out.old ho
    obtain ⟨g, cap, hv, _, _, hlc, hcm⟩ := hw1.row.some_ (by omega)
    have hr := hw1.row
    rw [hv] at hr
    have e1 := hr.el rfl hj
    obtain ⟨m, hmm⟩ : ∃ m, m = nth s j := ⟨_, rfl⟩
    rw [← hmm] at e1 hlate
    obtain ⟨m1, m2, m3⟩ := m
    obtain ⟨_, _, f3⟩ := e1
    have hl2 : now < m1 := hlate
    have hc2 := hw1.head.c2
    rw [hv] at hc2
    unfold maxLen at hcm
    clear hw1 hr hv ho hf hmm hlate
    go_wp2
    refine bodyPost_ret (v := .tuple #[.int .i64 0, .int .i64 0, .bool false]) (by simp [results, go_sem]) rfl ?_
    exact ⟨rfl, HO.out⟩

set_option maxHeartbeats 1600000 in
theorem rDue_some (gr : Nat) (most last next : Int) (v : Value) (s : List Al) (m : Al) (now : Int) (w : World) (h : RAt w gr most last v s) (hids : Ids next s) (hm : Fore s m) (hnow : m.1 ≤ now) (hs : s.length ≤ 500) :
    Calls Try.prog 17 #[.pointer (some ⟨gr, 0, none⟩), .int .u64 now] w fun e w' => e = .returned (.tuple #[.int .i64 m.2.1, .int .i64 m.2.2, .bool true]) ∧
      ∃ v', RAt w' gr most last v' (without m.2.1 s) ∧ Only [gr] w w' ∧ ∀ g ∈ ownL v', g ∈ ownL v ∨ w.heap.size ≤ g := by
  have HW := Lib.hid h
  have HI := Lib.hid hids
  have HM := Lib.hid hm
  have HS := Lib.hid hs
  have HN := Lib.hid hnow
  clear h hids hm hs hnow
  go_enter Try.func17, Try.ntmps17
  go_wp2_with fail
  refine (rFirst_any gr most last v s w HW.out HS.out).mono ?_
  rintro e w1 ⟨c, rfl, ho, hc⟩
  rcases hc with ⟨h0, _⟩ | ⟨j, rfl, hj, hf⟩
  · have := HM.out.mem; rw [h0] at this; cases this
  have he := Fore.one HI.out hf HM.out
  have HO := Lib.hid ho
  have hw1 := HW.out.old ho
  have HW1 := Lib.hid hw1
  obtain ⟨g, cap, hv, _, _, hlc, hcm⟩ := hw1.row.some_ (by omega)
  have hr := hw1.row
  rw [hv] at hr
  have e1 := hr.el rfl hj
  rw [he] at e1
  obtain ⟨m1, m2, m3⟩ := m
  obtain ⟨f1, f2, f3⟩ := e1
  have hn2 : m1 ≤ now := HN.out
  have hc2 := hw1.head.c2
  rw [hv] at hc2
  unfold maxLen at hcm
  obtain ⟨W, hW⟩ : ∃ W, W = w1.alloc (.cells #[.int .i64 m2, .int .i64 m3, .int .u64 m1] 68) := ⟨_, rfl⟩
  have HOW : Hid (Only [] w1 W) := by show Only _ _ _; rw [hW]; exact (Only.refl _ _).alloc _
  have hb1 : W.cell? ⟨w1.heap.size, 0, none⟩ = some (.int .i64 m2) := by rw [hW]; simp
  have hb2 : W.cell? ⟨w1.heap.size, 1, none⟩ = some (.int .i64 m3) := by rw [hW]; simp
  have HSZ : Hid (W.heap.size = w1.heap.size + 1) := by show _ = _; rw [hW]; simp
  have HB1 := Lib.hid hb1
  have HB2 := Lib.hid hb2
  clear hw1 hr hv ho hf he hb2 hb1
  go_wp2_with fail
  rw [← hW]
  clear hW hc2 f1 f2 f3
  have hb1 := HB1.out
  go_wp2_with fail
  refine (rCancel_any gr most last next v s m2 W (HW1.out.old HOW.out) HI.out HS.out).mono ?_
  rintro e w3 ⟨rfl, v', hw3, ho3, hg3⟩
  have HW3 := Lib.hid hw3
  have HO3 := Lib.hid ho3
  have HG3 := Lib.hid hg3
  have hne : w1.heap.size ∉ [gr] := by have := HW1.out.head.lt; simp; omega
  have hb3 : w3.cell? ⟨w1.heap.size, 0, none⟩ = some (.int .i64 m2) := (HO3.out.cell (p := ⟨w1.heap.size, 0, none⟩) (by rw [HSZ.out]; simp) hne).trans HB1.out
  have hb4 : w3.cell? ⟨w1.heap.size, 1, none⟩ = some (.int .i64 m3) := (HO3.out.cell (p := ⟨w1.heap.size, 1, none⟩) (by rw [HSZ.out]; simp) hne).trans HB2.out
  clear hw3 ho3 hg3 hb1 hne
  go_wp2_with fail
  go_quiet (fail)
  go_wp2
  refine bodyPost_ret (v := .tuple #[.int .i64 m2, .int .i64 m3, .bool true]) (by simp [results, go_sem]) rfl ?_
  refine ⟨rfl, v', HW3.out.old ((Only.refl _ _).drewN _), (((HO.out.trans HOW.out).mono (by simp)).trans HO3.out).drewN _, ?_⟩
  intro x hx
  rcases HG3.out x hx with h | h
  · exact .inl h
  · have h1 := HO.out.size; have h2 := HOW.out.size; exact .inr (by omega)
end Go.Proofs.Ytbpdemgbljbhcaa
