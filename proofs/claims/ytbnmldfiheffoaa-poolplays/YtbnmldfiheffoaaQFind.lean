/-
  The contracts of the functions that the pool hands over, of slices.IndexFunc and slices.Delete at connections, and of find over this seat's program. Conditions: those of each statement.
-/
import Derived.Test.YtbnmldfiheffoaaQRow
import Derived.Shelf.Abstract
import Derived.Deep.LoopGhost
import Derived.Deep.RegionLaw
import Derived.Lib.SliceRun
namespace Go.Proofs.Ytbnmldfiheffoaa
open Go.RowKit

def linkV (c : Cn) : Value := .agg #[.int .i64 (c.n : Int), .string c.k, .int .u64 (c.u : Int)]
set_option maxHeartbeats 400000 in
/-- the function that find hands over -/
theorem pfind1_any (i : Int) (B : Nat) (x : Cn) (W : World) (hc : W.cell? ⟨B, 0, none⟩ = some (.int .i64 i)) :
    Calls Try.prog 58 (#[linkV x] ++ #[.pointer (some ⟨B, 0, none⟩)]) W fun e w' => e = .returned (.bool (connB i x)) ∧ Only [] W w' := by
  have hBW : B < W.heap.size := block_of_cell (a := ⟨B, 0, none⟩) hc
  have hne : B ≠ W.heap.size := by omega
  have HE : Hid (((x.n : Int) == i) = connB i x) := by show _ = _; unfold connB; rw [Bool.eq_iff_iff]; simp
  generalize connB i x = q at *
  obtain ⟨x1, x2, x3⟩ := x
  simp only [linkV] at HE ⊢
  have he := HE.out
  go_enter Try.func58, Try.ntmps58
  go_wp2
  go_ret
  exact ⟨rfl, (Only.refl _ _).alloc _⟩
set_option maxHeartbeats 400000 in
/-- the function that Expire hands over -/
theorem pexp1_any (t : Nat) (B : Nat) (x : Cn) (W : World) (hc : W.cell? ⟨B, 0, none⟩ = some (.int .u64 (t : Int))) :
    Calls Try.prog 45 (#[linkV x] ++ #[.pointer (some ⟨B, 0, none⟩)]) W fun e w' => e = .returned (.bool (dueB t x)) ∧ Only [] W w' := by
  have hBW : B < W.heap.size := block_of_cell (a := ⟨B, 0, none⟩) hc
  have hne : B ≠ W.heap.size := by omega
  have HE : Hid (decide (x.u ≤ t) = dueB t x) := rfl
  generalize dueB t x = q at *
  obtain ⟨x1, x2, x3⟩ := x
  simp only [linkV] at HE ⊢
  have he := HE.out
  go_enter Try.func45, Try.ntmps45
  go_wp2
  go_ret
  exact ⟨rfl, (Only.refl _ _).alloc _⟩
set_option maxHeartbeats 400000 in
/-- the function that use hands over -/
theorem puse1_any (k : ByteArray) (B : Nat) (x : Cn) (W : World) (hc : W.cell? ⟨B, 0, none⟩ = some (.string k)) :
    Calls Try.prog 52 (#[linkV x] ++ #[.pointer (some ⟨B, 0, none⟩)]) W fun e w' => e = .returned (.bool (ckeyB k x)) ∧ Only [] W w' := by
  have hBW : B < W.heap.size := block_of_cell (a := ⟨B, 0, none⟩) hc
  have hne : B ≠ W.heap.size := by omega
  have HE : Hid ((x.k.toList == k.toList) = ckeyB k x) := rfl
  generalize ckeyB k x = q at *
  obtain ⟨x1, x2, x3⟩ := x
  simp only [linkV] at HE ⊢
  have he := HE.out
  go_enter Try.func52, Try.ntmps52
  go_wp2
  go_ret
  exact ⟨rfl, (Only.refl _ _).alloc _⟩

set_option maxHeartbeats 2000000 in
/-- slices.IndexFunc: the first place of which the function says true -/
theorem idxC_any (fn : Nat) (lb : Array Value) (p : Cn → Bool) (e : TypeId) (v : Value) (l : List Cn) (w : World)
    (eg : ∀ args w, (callFunc fn args).run Try.prog w = .ok (.enter fn args) w) (hr : CRow e w v l)
    (hp : ∀ (W : World) (x : Cn), Only [] w W → Calls Try.prog fn (#[linkV x] ++ lb) W fun e w' => e = .returned (.bool (p x)) ∧ Only [] W w') :
    Calls Try.prog 57 #[v, .func (.func fn) #[] lb] w fun e w' => e = .returned (.int .i64 (firstI p l)) ∧ Only [] w w' := by
  obtain ⟨A, cap, hv, hlc, hcm⟩ := hr.slice
  have HR := Lib.hid hr
  have HP := Lib.hid hp
  unfold maxLen at hcm
  subst hv
  clear hr hp
  go_enter Try.func57, Try.ntmps57
  go_wp2
  go_loopw [8] (fun i wr => ∃ k : Nat, k ≤ l.length ∧ i = .int .i64 k ∧ Only [] w wr ∧ ∀ j, j < k → p (nthC l j) = false) (fun i _ => l.length - (intOf i).toNat)
  case atStart => exact ⟨0, Nat.zero_le _, rfl, Only.refl _ _, fun j hj => by omega⟩
  case round =>
    obtain ⟨k, hk, rfl, ho, hn⟩ := hrel
    have HO := Lib.hid ho
    have HN := Lib.hid hn
    clear ho hn
    by_cases hlt : k < l.length
    · obtain ⟨g, cap2, hv2, hgs, _, _⟩ := HR.out.some_ (by omega)
      obtain ⟨rfl, rfl⟩ : A = some ⟨g, 0, none⟩ ∧ cap = cap2 := by
        injection hv2 with e1 e2 e3
        exact ⟨e1, e3⟩
      obtain ⟨f1, f2, f3⟩ := (HR.out.old HO.out).el rfl hlt
      have hcall := HP.out wr (nthC l k) HO.out
      obtain ⟨x, hx⟩ : ∃ x, x = nthC l k := ⟨_, rfl⟩
      rw [← hx] at f1 f2 f3 hcall
      have HX := Lib.hid hx
      obtain ⟨q, hq⟩ : ∃ q, q = p x := ⟨_, rfl⟩
      rw [← hq] at hcall
      have HQ := Lib.hid hq
      clear hv2 hgs hx hq
      obtain ⟨x1, x2, x3⟩ := x
      simp only [linkV] at f1 f2 f3 hcall
      cases q with
      | true =>
        have HF : Hid (l.findIdx p = k) := by
          refine first_first hlt ?_ HN.out
          rw [← HX.out]; exact HQ.out.symm
        go_wp2_with (go_at_fn fn; refine hcall.mono ?_; rintro e w' ⟨rfl, hb'⟩)
        go_ret
        exact ⟨ret_int (by rw [firstI_yes (by rw [HF.out]; exact hlt), HF.out]), HO.out.trans hb'⟩
      | false =>
        go_wp2_with (go_at_fn fn; refine hcall.mono ?_; rintro e w' ⟨rfl, hb'⟩)
        go_roundw
        case rel =>
          refine ⟨k + 1, by omega, by go_num, HO.out.trans hb', fun j hj => ?_⟩
          by_cases e : j = k
          · subst e; rw [← HX.out]; exact HQ.out.symm
          · exact HN.out j (by omega)
        case measure => simp [intOf]; omega
    · have HF : Hid (firstI p l = -1) := by
        refine firstI_no (fun h => ?_)
        have h1 := first_hit h
        rw [HN.out _ (by omega)] at h1
        cases h1
      go_wp2
      go_ret
      exact ⟨ret_int HF.out.symm, HO.out⟩

set_option maxHeartbeats 800000 in
theorem pfind_any (e : TypeId) (v : Value) (l : List Cn) (i : Int) (w : World) (h : CRow e w v l) :
    Calls Try.prog 38 #[v, .int .i64 i] w fun e w' => e = .returned (.int .i64 (firstI (connB i) l)) ∧ Only [] w w' := by
  obtain ⟨A, cap, rfl, _, _⟩ := h.slice
  have eg : ∀ args w, (callFunc 58 args).run Try.prog w = .ok (.enter 58 args) w := enters_of Try.func58 (by kernel_rfl) rfl
  obtain ⟨W1, hW1⟩ : ∃ W1, W1 = w.alloc (.cells #[.int .i64 i] 3) := ⟨_, rfl⟩
  have HO1 : Hid (Only [] w W1) := by show Only _ _ _; rw [hW1]; exact (Only.refl _ _).alloc _
  have HK1 : Hid (W1.cell? ⟨w.heap.size, 0, none⟩ = some (.int .i64 i)) := by show _ = _; rw [hW1]; simp
  have HC : Hid (∀ (W : World) (x : Cn), Only [] W1 W → Calls Try.prog 58 (#[linkV x] ++ #[.pointer (some ⟨w.heap.size, 0, none⟩)]) W fun e w' => e = .returned (.bool (connB i x)) ∧ Only [] W w') := by
    show ∀ (W : World) (x : Cn), _
    intro W x hO
    exact pfind1_any i w.heap.size x W ((hO.cell (p := ⟨w.heap.size, 0, none⟩) (block_of_cell (a := ⟨w.heap.size, 0, none⟩) HK1.out) (by simp)).trans HK1.out)
  have hcon := idxC_any 58 #[.pointer (some ⟨w.heap.size, 0, none⟩)] (connB i) e _ l W1 eg (h.old HO1.out) HC.out
  clear h eg
  go_enter Try.func38, Try.ntmps38
  go_wp2_with fail
  rw [← hW1]
  clear hW1
  refine hcon.mono ?_
  rintro e w' ⟨rfl, hb'⟩
  clear hcon
  go_wp2
  go_ret
  exact ⟨rfl, HO1.out.trans hb'⟩

def zC : Cn := ⟨0, ⟨#[]⟩, 0⟩
theorem zeroL : ∀ w, (zeroValue 83).run Try.prog w = .ok (.agg #[.int .i64 0, .string ⟨#[]⟩, .int .u64 0]) w := fun w => by kernel_rfl
/-- clear on the last connections of a row -/
theorem clear_conns (b o m c : Nat) (ty : TypeId) (w : World) (hc : ∀ j, j < m * 3 → (w.cell? ⟨b, o + j, none⟩).isSome = true) (hf : ∀ j, j < m * 3 → w.frozen? ⟨b, o + j, none⟩ = false) :
    (Builtin.clear_ #[65] ty #[.slice (some ⟨b, o, none⟩) m c]).run Try.prog w = .ok (.tuple #[]) (w.setCells b o (ecs cE (List.replicate m zC))) :=
  clear_rec cE b o m c 65 83 ty _ zC Try.underlying65 zeroL rfl w hc hf
/-- a row of which the k-th is taken out, and the last place cleared -/
theorem CRow.del {e : TypeId} {w : World} {g cap k : Nat} {l : List Cn} (h : CRow e w (.slice (some ⟨g, 0, none⟩) l.length cap) l) (hk : k < l.length) :
    CRow e ((w.setCells g (k * 3) (ecs cE (l.drop (k + 1)))).setCells g ((l.length - 1) * 3) (ecs cE (List.replicate 1 zC))) (.slice (some ⟨g, 0, none⟩) (l.length - 1) cap) (l.eraseIdx k) :=
  ERow.del (E := cE) h hk zC

set_option maxRecDepth 20000 in
set_option maxHeartbeats 2000000 in
theorem delC_any (g cap k j n : Nat) (l : List Cn) (w : World) (hn : n = l.length) (hj : j = k + 1) (hr : CRow 83 w (.slice (some ⟨g, 0, none⟩) n cap) l) (hk : k < n) (hnc : n ≤ cap) (_hcm : cap ≤ 9223372036854775807) :
    Calls Try.prog 39 #[.slice (some ⟨g, 0, none⟩) n cap, .int .i64 (k : Int), .int .i64 (j : Int)] w fun e w' => e = .returned (.slice (some ⟨g, 0, none⟩) (n - 1) cap) ∧ CRow 83 w' (.slice (some ⟨g, 0, none⟩) (n - 1) cap) (l.eraseIdx k) ∧ Only [g] w w' := by
  obtain ⟨i0, hi, hz0, hz1, hz2⟩ := rec_info infoC
  obtain ⟨W0, hW0⟩ : ∃ W0, W0 = w.drew := ⟨_, rfl⟩
  have HR0 : Hid (CRow 83 W0 (.slice (some ⟨g, 0, none⟩) n cap) l) := by show CRow _ _ _ _; rw [hW0]; exact hr.old (Only.refl _ _).drew
  have HO0 : Hid (Only [g] w W0) := by show Only _ _ _; rw [hW0]; exact (Only.refl _ _).drew
  obtain ⟨news, hnews⟩ : ∃ news, news = ecs cE (l.drop j) := ⟨_, rfl⟩
  have HL : Hid (news.length = (n - j) * 3) := by show _ = _; rw [hnews, ecs_len, List.length_drop, hn]; rfl
  have H1 : Hid (∀ u ∈ news, u.oneCell' = true) := by show ∀ u ∈ _, _; rw [hnews]; exact ecs_one cE _
  have HNW := Lib.hid hnews
  obtain ⟨A, hA, hsrc⟩ : ∃ A : Addr, (if cap = j then (some (⟨g, 0, none⟩ : Addr)) else some ⟨g, j * 3, none⟩) = some A ∧ Hid (∀ t u, news[t]? = some u → W0.cell? (A.add t) = some u) := by
    by_cases h : cap = j
    · refine ⟨⟨g, 0, none⟩, by simp [h], fun t u hu => ?_⟩
      have h0 : news.length = 0 := by rw [HL.out]; omega
      rw [List.length_eq_zero_iff.1 h0] at hu
      simp at hu
    · refine ⟨⟨g, j * 3, none⟩, by simp [h], fun t u hu => ?_⟩
      have h1 := HR0.out
      subst hn
      unfold CRow ERow at h1
      have h2 := World.ownsRow.cells h1 (g := g) rfl (j * 3 + t) u (by rw [← List.getElem?_drop]; have h3 := ecs_drop cE l j; rw [show cE.n = 3 from rfl] at h3; rw [h3, ← hnews]; exact hu)
      have e : (⟨g, j * 3, none⟩ : Addr).add t = (⟨g, 0, none⟩ : Addr).add (j * 3 + t) := by unfold Addr.add; split <;> split <;> simp_all
      rw [e]; exact h2
  obtain ⟨W1, hW1⟩ : ∃ W1, W1 = W0.setCells g (k * 3) news := ⟨_, rfl⟩
  obtain ⟨W2, hW2⟩ : ∃ W2, W2 = W1.setCells g ((n - 1) * 3) (ecs cE (List.replicate 1 zC)) := ⟨_, rfl⟩
  have HR2 : Hid (CRow 83 W2 (.slice (some ⟨g, 0, none⟩) (n - 1) cap) (l.eraseIdx k)) := by
    show CRow _ _ _ _
    rw [hW2, hW1, hnews, hj]
    have h1 := HR0.out
    subst hn
    exact CRow.del h1 hk
  have HO2 : Hid (Only [g] w W2) := by
    show Only _ _ _
    rw [hW2, hW1]
    exact Only.cells (by simp) _ _ _ (Only.cells (by simp) _ _ _ HO0.out)
  have HSP : Hid (∀ t, t < news.length → (W0.cell? ⟨g, 0 + k * 3 + t, none⟩).isSome = true ∧ W0.frozen? ⟨g, 0 + k * 3 + t, none⟩ = false) := by
    show ∀ t, _
    intro t ht
    rw [HL.out] at ht
    exact ERow.isC HR0.out hn _ (by show _ < n * 3; omega)
  have HR1 : Hid (∀ t, t < n * 3 → (W1.cell? ⟨g, t, none⟩).isSome = true ∧ W1.frozen? ⟨g, t, none⟩ = false) := by
    show ∀ t, _
    intro t ht
    have h0 := HR0.out
    rw [hn] at h0
    have h1 := ERow.laid h0 rfl (l.drop j) k (by rw [List.length_drop]; omega)
    rw [← hnews] at h1
    change ERow cE _ (W0.setCells g (k * 3) news) _ _ _ at h1
    rw [← hW1] at h1
    exact ERow.isC h1 (by simp; omega) t (by rw [← hn]; exact ht)
  have hcl : ∀ ty, (Builtin.clear_ #[65] ty #[.slice (some ⟨g, (k + (n - j)) * 3, none⟩) (n - (k + (n - j))) (cap - (k + (n - j)))]).run Try.prog W1 = .ok (.tuple #[]) W2 := by
    intro ty
    rw [show k + (n - j) = n - 1 by omega, show n - (n - 1) = 1 by omega, hW2]
    exact clear_conns g ((n - 1) * 3) 1 _ ty W1 (fun t ht => (HR1.out _ (by omega)).1) (fun t ht => (HR1.out _ (by omega)).2)
  have HW1 : Hid (W1 = W0.setCells g (0 + k * 3) news) := by show _ = _; rw [Nat.zero_add]; exact hW1
  have HJ := Lib.hid hj
  have hic : k ≤ cap := by omega
  have hjc : j ≤ cap := by omega
  have hjn : j ≤ n := by omega
  have hkj : ¬ k = j := by omega
  have hkl : k ≤ j := by omega
  have HE : Hid (k + (n - j) = n - 1) := by show _ = _; omega
  subst hW0
  clear hr hn hj hnews hW1 hW2
  go_enter Try.func39, Try.ntmps39
  go_wp2_with fail
  go_region_law (refine step_append_room rfl (.tmp 22) (.tmp 25) 65 rfl 83 i0 3 Try.underlying65 hi hz1 g 0 k cap (by simp [Act.eval, Act.put]) A (n - j) (cap - j) news (by simp [Act.eval, Act.put]) HL.out hsrc.out H1.out (by omega) HSP.out ?_; rw [← HW1.out])
  go_wp2
  go_ret
  exact ⟨congrArg (fun q => Ending.returned (.slice (some ⟨g, 0, none⟩) q cap)) HE.out, HR2.out, HO2.out⟩
end Go.Proofs.Ytbnmldfiheffoaa
