/-
  The contract of Stream.Stop (a sync.Once) over this seat's program. Conditions: those of each statement.
-/
import Derived.Test.YtaadffheadimpaaSAsk
import Derived.Test.YtaadffheadimpaaKOnce
namespace Go.Proofs.Ytaadffheadimpaa
open Go.RowKit

set_option maxHeartbeats 800000 in
/-- the function that Stop hands to Do: bs: the block of the receiver's variable, bf: of the answer's -/
theorem strStop1_any (g gr gd H L st N bs bf : Nat) (p : Bool) (dn lk : Int) (l : List UInt8) (v : Value) (w : World) (hi : StIn w g gr H L st p dn lk) (hr : RgAt w gr gd N l)
    (hs : w.cell? ⟨bs, 0, none⟩ = some (.pointer (some ⟨g, 0, none⟩))) (hf : w.cell? ⟨bf, 0, none⟩ = some v) (hz : w.frozen? ⟨bf, 0, none⟩ = false)
    (hn : bs ≠ g ∧ bs ≠ gr ∧ bf ≠ g ∧ bf ≠ gr ∧ bf ≠ gd ∧ g ≠ gr ∧ g ≠ gd) :
    Calls Try.prog 29 #[.pointer (some ⟨bs, 0, none⟩), .pointer (some ⟨bf, 0, none⟩)] w fun e w' => e = .returned (.tuple #[]) ∧ StIn w' g gr H L 3 false dn lk ∧ RgAt w' gr gd N [] ∧ w'.cell? ⟨bf, 0, none⟩ = some (.bool true) ∧ Only [g, gr, bf] w w' := by
  have HN := Lib.hid hn
  have d2 := hi.c2
  have z2 := hi.z2
  have d3 := hi.c3
  have z3 := hi.z3
  have d4 := hi.c4
  obtain ⟨W1, hW1⟩ : ∃ W1, W1 = w.setCell ⟨g, 2, none⟩ (.int .i64 3) := ⟨_, rfl⟩
  obtain ⟨W2, hW2⟩ : ∃ W2, W2 = W1.setCell ⟨g, 3, none⟩ (.bool false) := ⟨_, rfl⟩
  have HO2 : Hid (Only [g] w W2) := by show Only _ _ _; rw [hW2, hW1]; exact ((Only.refl _ _).setCell (p := ⟨g, 2, none⟩) (by simp) _).setCell (p := ⟨g, 3, none⟩) (by simp) _
  have HI2 : Hid (StIn W2 g gr H L 3 false dn lk) := by show StIn _ _ _ _ _ _ _ _ _; rw [hW2, hW1]; exact (hi.set2 3).set3 false
  have HR2 : Hid (RgAt W2 gr gd N l) := hr.only HO2.out (by simpa using hn.2.2.2.2.2.1.symm) (by simpa using hn.2.2.2.2.2.2.symm)
  have hb1 := block_of_cell hs
  have hb2 := block_of_cell hf
  have HS2 : Hid (W2.cell? ⟨bs, 0, none⟩ = some (.pointer (some ⟨g, 0, none⟩))) := (HO2.out.cell (p := ⟨bs, 0, none⟩) hb1 (by simpa using hn.1)).trans hs
  have HF2 : Hid (W2.cell? ⟨bf, 0, none⟩ = some v) := (HO2.out.cell (p := ⟨bf, 0, none⟩) hb2 (by simpa using hn.2.2.1)).trans hf
  have HZ2 : Hid (W2.frozen? ⟨bf, 0, none⟩ = false) := (HO2.out.frozen (p := ⟨bf, 0, none⟩) hb2 (by simpa using hn.2.2.1)).trans hz
  have HB : Hid (bs < W2.heap.size ∧ bf < W2.heap.size) := ⟨block_of_cell HS2.out, block_of_cell HF2.out⟩
  have s1 : W1.cell? ⟨bs, 0, none⟩ = some (.pointer (some ⟨g, 0, none⟩)) := by rw [hW1, World.cell?_setCell_other _ _ _ _ (by simp)]; exact hs
  have s2 := HS2.out
  have e4 := HI2.out.c4
  clear hi hr hf hz hb1 hb2 hn
  go_enter Try.func29, Try.ntmps29
  go_wp2_with fail
  rw [← hW1, ← hW2]
  clear hW1 hW2 d2 d3 d4 z2 z3 hs s1
  refine (ringClear_any gr gd N l W2 HR2.out).mono ?_
  rintro e w3 ⟨rfl, hr3, ho3⟩
  have HR3 := Lib.hid hr3
  have HO3 := Lib.hid ho3
  have d5 := (ho3.cell (p := ⟨bf, 0, none⟩) HB.out.2 (by simpa using HN.out.2.2.2.1)).trans HF2.out
  have z5 := (ho3.frozen (p := ⟨bf, 0, none⟩) HB.out.2 (by simpa using HN.out.2.2.2.1)).trans HZ2.out
  have HI3 := Lib.hid (HI2.out.only ho3 (by simpa using HN.out.2.2.2.2.2.1))
  obtain ⟨W4, hW4⟩ : ∃ W4, W4 = w3.setCell ⟨bf, 0, none⟩ (.bool true) := ⟨_, rfl⟩
  have HO4 : Hid (Only [bf] w3 W4) := by show Only _ _ _; rw [hW4]; exact (Only.refl _ _).setCell (p := ⟨bf, 0, none⟩) (by simp) _
  have HF4 : Hid (W4.cell? ⟨bf, 0, none⟩ = some (.bool true)) := by show _ = _; rw [hW4]; exact World.cell?_setCell_same _ _ _ d5
  clear hr3 ho3 s2 e4
  go_wp2_with fail
  rw [← hW4]
  clear hW4 d5 z5
  go_end0
  have h := HN.out
  exact ⟨rfl, HI3.out.only HO4.out (by simpa using h.2.2.1.symm), HR3.out.only HO4.out (by simpa using h.2.2.2.1.symm) (by simpa using h.2.2.2.2.1.symm), HF4.out, ((HO2.out.mono (by simp)).trans (HO3.out.mono (by simp))).trans (HO4.out.mono (by simp))⟩

set_option maxRecDepth 100000 in
set_option maxHeartbeats 1600000 in
/-- '(*sync.Once).doSlow' with that function, not yet done, the lock free -/
theorem strSlow_any (g gr gd H L st N bs bf : Nat) (p : Bool) (l : List UInt8) (v : Value) (w : World) (hi : StIn w g gr H L st p 0 0) (hr : RgAt w gr gd N l)
    (hs : w.cell? ⟨bs, 0, none⟩ = some (.pointer (some ⟨g, 0, none⟩))) (hf : w.cell? ⟨bf, 0, none⟩ = some v) (hz : w.frozen? ⟨bf, 0, none⟩ = false)
    (hn : bs ≠ g ∧ bs ≠ gr ∧ bf ≠ g ∧ bf ≠ gr ∧ bf ≠ gd ∧ g ≠ gr ∧ g ≠ gd) :
    Calls Try.prog 35 #[.pointer (some ⟨g, 5, none⟩), .func (.func 29) #[] #[.pointer (some ⟨bs, 0, none⟩), .pointer (some ⟨bf, 0, none⟩)]] w fun e w' => e = .returned (.tuple #[]) ∧ StIn w' g gr H L 3 false 1 0 ∧ RgAt w' gr gd N [] ∧ w'.cell? ⟨bf, 0, none⟩ = some (.bool true) ∧ Only [g, gr, bf] w w' := by
  have HN := Lib.hid hn
  have HI := Lib.hid hi
  have HR := Lib.hid hr
  obtain ⟨W1, hW1⟩ : ∃ W1, W1 = w.setCell ⟨g, 6, none⟩ (.int .i32 1) := ⟨_, rfl⟩
  have HO1 : Hid (Only [g] w W1) := by show Only _ _ _; rw [hW1]; exact (Only.refl _ _).setCell (p := ⟨g, 6, none⟩) (by simp) _
  have HI1 : Hid (StIn W1 g gr H L st p 0 1) := by show StIn _ _ _ _ _ _ _ _ _; rw [hW1]; exact hi.set6 1
  have HR1 : Hid (RgAt W1 gr gd N l) := hr.only HO1.out (by simpa using hn.2.2.2.2.2.1.symm) (by simpa using hn.2.2.2.2.2.2.symm)
  have HS1 : Hid (W1.cell? ⟨bs, 0, none⟩ = some (.pointer (some ⟨g, 0, none⟩))) := (HO1.out.cell (p := ⟨bs, 0, none⟩) (block_of_cell hs) (by simpa using hn.1)).trans hs
  have HF1 : Hid (W1.cell? ⟨bf, 0, none⟩ = some v) := (HO1.out.cell (p := ⟨bf, 0, none⟩) (block_of_cell hf) (by simpa using hn.2.2.1)).trans hf
  have HZ1 : Hid (W1.frozen? ⟨bf, 0, none⟩ = false) := (HO1.out.frozen (p := ⟨bf, 0, none⟩) (block_of_cell hf) (by simpa using hn.2.2.1)).trans hz
  have hnot : ∀ (x : Bool) (w : World), (Op.unary .not (.bool x)).run Try.prog w = .ok (.bool (!x)) w := fun _ _ => rfl
  clear hi hr hs hf hz hn
  go_enter_defers Try.func35, Try.ntmps35
  go_wp2_with fail
  refine (muLock_free ⟨g, 6, none⟩ w HI.out.c6 HI.out.z6).mono ?_
  rintro e w' ⟨rfl, rfl⟩
  rw [← hW1]
  clear hW1
  go_wp2_with fail
  refine (boolLoad_any ⟨g, 5, none⟩ 0 W1 HI1.out.c5).mono ?_
  rintro e w' ⟨rfl, rfl⟩
  go_wp2_with fail
  refine (strStop1_any g gr gd H L st N bs bf p 0 1 l v W1 HI1.out HR1.out HS1.out HF1.out HZ1.out HN.out).mono ?_
  rintro e w2 ⟨rfl, hi2, hr2, hf2, ho2⟩
  have HI2 := Lib.hid hi2
  have HR2 := Lib.hid hr2
  have HF2 := Lib.hid hf2
  have HO2 := Lib.hid ho2
  clear hi2 hr2 hf2 ho2
  obtain ⟨W3, hW3⟩ : ∃ W3, W3 = w2.drew.setCell ⟨g, 5, none⟩ (.int .u32 1) := ⟨_, rfl⟩
  have HI3 : Hid (StIn W3 g gr H L 3 false 1 1) := by show StIn _ _ _ _ _ _ _ _ _; rw [hW3]; exact (HI2.out.only ((Only.refl [] _).drew) (by simp)).set5 1
  obtain ⟨W4, hW4⟩ : ∃ W4, W4 = W3.setCell ⟨g, 6, none⟩ (.int .i32 0) := ⟨_, rfl⟩
  have HI4 : Hid (StIn W4 g gr H L 3 false 1 0) := by show StIn _ _ _ _ _ _ _ _ _; rw [hW4]; exact HI3.out.set6 0
  have HO4 : Hid (Only [g] w2 W4) := by show Only _ _ _; rw [hW4, hW3]; exact (((Only.refl _ _).drew).setCell (p := ⟨g, 5, none⟩) (by simp) _).setCell (p := ⟨g, 6, none⟩) (by simp) _
  have HOE : Hid (Only [g, gr, bf] w W4) := ((HO1.out.mono (by simp)).trans (HO2.out.mono (by simp))).trans (HO4.out.mono (by simp))
  have HRE : Hid (RgAt W4 gr gd N []) := HR2.out.only HO4.out (by simpa using HN.out.2.2.2.2.2.1.symm) (by simpa using HN.out.2.2.2.2.2.2.symm)
  have HFE : Hid (W4.cell? ⟨bf, 0, none⟩ = some (.bool true)) := (HO4.out.cell (p := ⟨bf, 0, none⟩) (block_of_cell HF2.out) (by simpa using HN.out.2.2.1)).trans HF2.out
  go_wp2_with fail
  -- the door: two deferred calls, the last laid first
  refine leaves_cons (f := 39) (args := #[.pointer (some ⟨g, 5, none⟩), .bool true]) (by simp) (by simp [go_sem]) ?_
  refine (boolStore_deferred ⟨g, 5, none⟩ _ .returning _ HI2.out.c5 HI2.out.z5).mono ?_
  rintro e u' w'' ⟨rfl, rfl, rfl⟩
  rw [← hW3]
  clear hW3
  refine leaves_cons (f := 38) (args := #[.pointer (some ⟨g, 6, none⟩)]) (by simp [settle]) (by simp [go_sem]) ?_
  refine (muUnlock_deferred ⟨g, 6, none⟩ _ _ HI3.out.c6 HI3.out.z6).mono ?_
  rintro e u' w'' ⟨rfl, rfl, rfl⟩
  rw [← hW4]
  simp only [Leaves, settle]
  exact ⟨_, results_none rfl _ _ _, rfl, HI4.out, HRE.out, HFE.out, HOE.out⟩

set_option maxRecDepth 100000 in
set_option maxHeartbeats 1600000 in
/-- '(*sync.Once).Do' with that function, not yet done, the lock free -/
theorem strDo_any (g gr gd H L st N bs bf : Nat) (p : Bool) (l : List UInt8) (v : Value) (w : World) (hi : StIn w g gr H L st p 0 0) (hr : RgAt w gr gd N l)
    (hs : w.cell? ⟨bs, 0, none⟩ = some (.pointer (some ⟨g, 0, none⟩))) (hf : w.cell? ⟨bf, 0, none⟩ = some v) (hz : w.frozen? ⟨bf, 0, none⟩ = false)
    (hn : bs ≠ g ∧ bs ≠ gr ∧ bf ≠ g ∧ bf ≠ gr ∧ bf ≠ gd ∧ g ≠ gr ∧ g ≠ gd) :
    Calls Try.prog 28 #[.pointer (some ⟨g, 5, none⟩), .func (.func 29) #[] #[.pointer (some ⟨bs, 0, none⟩), .pointer (some ⟨bf, 0, none⟩)]] w fun e w' => e = .returned (.tuple #[]) ∧ StIn w' g gr H L 3 false 1 0 ∧ RgAt w' gr gd N [] ∧ w'.cell? ⟨bf, 0, none⟩ = some (.bool true) ∧ Only [g, gr, bf] w w' := by
  have HC := Lib.hid (strSlow_any g gr gd H L st N bs bf p l v w hi hr hs hf hz hn)
  have h5 := Lib.hid hi.c5
  have hnot : ∀ (x : Bool) (w : World), (Op.unary .not (.bool x)).run Try.prog w = .ok (.bool (!x)) w := fun _ _ => rfl
  clear hi hr hs hf hz hn
  go_enter Try.func28, Try.ntmps28
  go_wp2_with fail
  refine (boolLoad_any ⟨g, 5, none⟩ 0 w h5.out).mono ?_
  rintro e w' ⟨rfl, rfl⟩
  go_wp2_with fail
  refine HC.out.mono ?_
  rintro e w2 ⟨rfl, h⟩
  have HE := Lib.hid h
  clear h
  go_wp2
  go_end0
  exact ⟨rfl, HE.out⟩

set_option maxHeartbeats 1600000 in
theorem strStop_any (g gr gd H L : Nat) (s : Sv) (w : World) (hw : StAt w g gr gd H L s) :
    Calls Try.prog 17 #[.pointer (some ⟨g, 0, none⟩)] w fun e w' => e = .returned (.bool (stopC s)) ∧ StAt w' g gr gd H L (stopS s) ∧ Only [g, gr] w w' := by
  have HW := Lib.hid hw
  have HOK := Lib.hid hw.ok.stop
  obtain ⟨bs, hbs⟩ : ∃ bs, bs = w.heap.size := ⟨_, rfl⟩
  obtain ⟨W1, hW1⟩ : ∃ W1, W1 = w.alloc (.cells #[.pointer (some ⟨g, 0, none⟩)] 24) := ⟨_, rfl⟩
  obtain ⟨bf, hbf⟩ : ∃ bf, bf = w.heap.size + 1 := ⟨_, rfl⟩
  have hbw : W1.heap.size = bf := by rw [hW1, hbf]; simp
  obtain ⟨W2, hW2⟩ : ∃ W2, W2 = W1.alloc (.cells #[.bool false] 4) := ⟨_, rfl⟩
  have HS1 : Hid (W1.cell? ⟨bs, 0, none⟩ = some (.pointer (some ⟨g, 0, none⟩))) := by show _ = _; rw [hW1, hbs]; simp
  have hb1 : bs < bf := by omega
  have HO2 : Hid (Only [] w W2) := by show Only _ _ _; rw [hW2, hW1]; exact ((Only.refl _ _).alloc _).alloc _
  have hlt := hw.lt
  have HN : Hid (bs ≠ g ∧ bs ≠ gr ∧ bf ≠ g ∧ bf ≠ gr ∧ bf ≠ gd ∧ g ≠ gr ∧ g ≠ gd ∧ w.heap.size ≤ bf) := by show _ ∧ _; have := hw.n1; have := hw.n2; omega
  have HS2 : Hid (W2.cell? ⟨bs, 0, none⟩ = some (.pointer (some ⟨g, 0, none⟩))) := by
    show _ = _
    rw [hW2]
    exact ((Only.refl [] W1).alloc _).cell (p := ⟨bs, 0, none⟩) (block_of_cell HS1.out) (by simp) |>.trans HS1.out
  have HF2 : Hid (W2.cell? ⟨bf, 0, none⟩ = some (.bool false)) := by show _ = _; rw [hW2, ← hbw]; simp
  have HZ2 : Hid (W2.frozen? ⟨bf, 0, none⟩ = false) := by show _ = _; rw [hW2, ← hbw]; simp
  have HX2 := Lib.hid (hw.old HO2.out)
  have hmf : ∀ (fn : Fn) (first cap : Array Value) (w : World), (Instr.makeFunc fn first cap).run Try.prog w = .ok (.func fn first cap) w := fun _ _ _ _ => rfl
  have hs2 := HS2.out
  clear hw hlt hb1
  obtain ⟨st, p, l⟩ := s
  unfold stopS stopC at *
  by_cases h : st = 3
  · subst h
    simp only [if_true, ne_eq, not_true_eq_false, decide_false] at HOK ⊢
    go_enter Try.func17, Try.ntmps17
    go_wp2_with fail
    rw [← hW1, ← hW2, ← hbf, ← hbs]
    clear hW1 hW2 hbf hbs hbw hmf
    refine (onceDo_done ⟨g, 5, none⟩ _ W2 HX2.out.i.c5).mono ?_
    rintro e w' ⟨rfl, rfl⟩
    have hf2 := HF2.out
    go_wp2_with fail
    go_ret
    exact ⟨rfl, HX2.out, HO2.out.mono (by simp)⟩
  · simp only [ne_eq, h, not_false_eq_true, decide_true] at HOK ⊢
    have HI2 : Hid (StIn W2 g gr H L st p 0 0) := by
      have := HX2.out.i
      unfold doneN at this
      simp only [if_neg h] at this
      exact this
    clear h
    go_enter Try.func17, Try.ntmps17
    go_wp2_with fail
    rw [← hW1, ← hW2, ← hbf, ← hbs]
    clear hW1 hW2 hbf hbs hbw hmf
    refine (strDo_any g gr gd H L st (H + 63) bs bf p l _ W2 HI2.out HX2.out.r HS2.out HF2.out HZ2.out (by have := HN.out; omega)).mono ?_
    rintro e w3 ⟨rfl, hi3, hr3, hf3, ho3⟩
    have HX3 : Hid (StAt w3 g gr gd H L ⟨3, false, []⟩) := ⟨hi3, hr3, HW.out.n1, HW.out.n2, HOK.out⟩
    have HO3 : Hid (Only [g, gr] w w3) := by
      show Only _ _ _
      have h1 : Only [g, gr] w W2 := HO2.out.mono (by simp)
      refine h1.next ho3 (fun x hx => ?_)
      simp only [List.mem_cons, List.not_mem_nil, or_false] at hx
      rcases hx with rfl | rfl | rfl
      · simp
      · simp
      · exact .inr (by have := HN.out; omega)
    clear hi3 hr3 ho3
    go_wp2_with fail
    go_ret
    exact ⟨rfl, HX3.out, HO3.out⟩
end Go.Proofs.Ytaadffheadimpaa
