/-
  The contract of Pool.shut at any function that tells of connections, and of Pool.Expire over this seat's program. Conditions: the pool lies there, not more than a hundred are idle.
-/
import Derived.Test.YtbnmldfiheffoaaQFind
namespace Go.Proofs.Ytbnmldfiheffoaa
open Go.RowKit

/-- a new block of numbers: no block of any old object -/
def NewL (n : Nat) (v : Value) : Prop := ∀ x ∈ ownL v, n ≤ x
theorem keep_take {p : Cn → Bool} {l : List Cn} {k : Nat} (hk : k < l.length) : (l.take (k + 1)).filter p = if p (nthC l k) then (l.take k).filter p ++ [nthC l k] else (l.take k).filter p := by
  rw [List.take_succ_eq_append_getElem hk, List.filter_append, ← nthC_eq hk]
  by_cases h : p (nthC l k) = true
  · rw [if_pos h]; simp [h]
  · rw [if_neg h]; simp [h]
theorem keep_len {p : Cn → Bool} {l : List Cn} {k : Nat} (hk : k ≤ l.length) : ((l.take k).filter p).length ≤ k := by
  have := List.length_filter_le p (l.take k)
  rw [List.length_take] at this; omega
/-- the row while it is gone through: those that stay, then what lay there -/
def midL (F l : List Cn) : List Cn := F ++ l.drop F.length
theorem midL_len {F l : List Cn} (h : F.length ≤ l.length) : (midL F l).length = l.length := by unfold midL; simp; omega
theorem midL_nth {F l : List Cn} {k : Nat} (h : F.length ≤ k) (_hk : k < l.length) : nthC (midL F l) k = nthC l k := by
  unfold nthC midL
  rw [List.getD_eq_getElem?_getD, List.getD_eq_getElem?_getD, List.getElem?_append_right h, List.getElem?_drop, show F.length + (k - F.length) = k by omega]
theorem midL_put {F l : List Cn} (x : Cn) : (midL F l).take F.length ++ [x] ++ (midL F l).drop (F.length + [x].length) = midL (F ++ [x]) l := by
  unfold midL
  rw [List.take_left, List.drop_append, List.drop_eq_nil_of_le (by simp), List.nil_append, List.drop_drop]
  simp
theorem midL_end {F l : List Cn} (h : F.length ≤ l.length) : (midL F l).take F.length ++ List.replicate (l.length - F.length) zC ++ (midL F l).drop (F.length + (List.replicate (l.length - F.length) zC).length) = F ++ List.replicate (l.length - F.length) zC := by
  have h1 := midL_len h
  rw [List.drop_eq_nil_of_le (by rw [List.length_replicate, h1]; omega), List.append_nil]
  unfold midL
  rw [List.take_left]

set_option maxHeartbeats 1000000 in
/-- no row at all -/
theorem shut_nil (fn : Nat) (lb : Array Value) (g gt : Nat) (vt vb : Value) (s : Pv) (w : World) (h : PoAt w g gt vt vb (.slice none 0 0) s) (hs : s.i = []) :
    Calls Try.prog 44 #[.pointer (some ⟨g, 0, none⟩), .func (.func fn) #[] lb] w fun e w' => e = .returned (.slice none 0 0) ∧ PoAt w' g gt vt vb (.slice none 0 0) s ∧ Only [g] w w' := by
  have HP := Lib.hid h
  have hc5 := h.hd.c5
  have hz5 := h.hd.z5
  have hgl := h.hd.lt
  obtain ⟨W2, hW2⟩ : ∃ W2, W2 = w.setCell ⟨g, 5, none⟩ (.slice none 0 0) := ⟨_, rfl⟩
  have HO2 : Hid (Only [g] w W2) := by show Only _ _ _; rw [hW2]; exact (Only.refl _ _).setCell (p := ⟨g, 5, none⟩) (by simp) _
  have HP2 : Hid (PoAt W2 g gt vt vb (.slice none 0 0) s) := by
    show PoAt _ _ _ _ _ _ _
    have h1 := h.turnI (w' := W2) (l := []) (v' := .slice none 0 0) (HO2.out.mono (by simp)) (by rw [hW2]; exact h.hd.set5 _) CRow.nil (Grow.refl _ _)
    have e : { s with i := [] } = s := by rw [← hs]
    rw [e] at h1
    exact h1
  have hcl : ∀ ty, (Builtin.clear_ #[65] ty #[.slice none 0 0]).run Try.prog w = .ok (.tuple #[]) w := by intro ty; simp [Builtin.clear_, run_underlying Try.underlying65]
  clear h
  go_enter Try.func44, Try.ntmps44
  go_wp2_with fail
  go_loopw [5, 6, 19] (fun c st i wr => c = .slice none 0 0 ∧ st = .slice none 0 0 ∧ i = .int .i64 0 ∧ wr = w) (fun _ _ i _ => 0)
  case atStart => exact ⟨rfl, rfl, rfl, rfl⟩
  case round =>
    obtain ⟨rfl, rfl, rfl, rfl⟩ := hrel
    go_wp2_with fail
    rw [← hW2]
    clear hW2 hc5 hz5 hcl
    refine (SortI_any _ [] W2 IRow.nil (by simp)).mono ?_
    rintro e w' ⟨rfl, _, ho⟩
    have HO := Lib.hid ho
    clear ho
    go_wp2
    go_ret
    exact ⟨rfl, HP2.out.old (HO.out.mono (by simp [ownL, Value.ownBlock])), HO2.out.trans (HO.out.mono (by simp [ownL, Value.ownBlock]))⟩

set_option maxRecDepth 8000 in
set_option maxHeartbeats 4000000 in
/-- the idle connections of which the function says true are closed -/
theorem shut_row (fn : Nat) (lb : Array Value) (p : Cn → Bool) (g gt gi cap : Nat) (vt vb : Value) (s : Pv) (w : World) (h : PoAt w g gt vt vb (.slice (some ⟨gi, 0, none⟩) s.i.length cap) s) (hl : s.i.length ≤ 100)
    (eg : ∀ args w, (callFunc fn args).run Try.prog w = .ok (.enter fn args) w)
    (hp : ∀ (W : World) (x : Cn), Only [gi] w W → Calls Try.prog fn (#[linkV x] ++ lb) W fun e w' => e = .returned (.bool (p x)) ∧ Only [] W w') :
    Calls Try.prog 44 #[.pointer (some ⟨g, 0, none⟩), .func (.func fn) #[] lb] w fun e w' => ∃ r m, e = .returned r ∧ IRow w' r (shutG p s) ∧ NewL w.heap.size r ∧ PoAt w' g gt vt vb (.slice (some ⟨gi, 0, none⟩) m cap) (shutP p s) ∧ Only [g, gi] w w' := by
  obtain ⟨i0, hi, hz0, hz1, hz2⟩ := rec_info infoC
  obtain ⟨l, hll⟩ : ∃ l, l = s.i := ⟨_, rfl⟩
  obtain ⟨n, hn⟩ : ∃ n, n = l.length := ⟨_, rfl⟩
  have hgi : ∀ c m : Nat, ownL (.slice (some ⟨gi, 0, none⟩) m c) = [gi] := fun _ _ => rfl
  have HNE : Hid (g ≠ gi) := by show _ ≠ _; have := h.ap.a4; rw [hgi] at this; simpa using this
  have HRI : Hid (CRow 83 w (.slice (some ⟨gi, 0, none⟩) n cap) l) := by show CRow _ _ _ _; rw [hn, hll]; exact h.ri
  have HC : Hid (n ≤ cap ∧ cap ≤ 9223372036854775807) := by
    obtain ⟨A, c, e, h1, h2⟩ := HRI.out.slice
    injection e with _ _ e3
    subst e3
    exact ⟨by rw [hn]; exact h1, by unfold maxLen at h2; exact h2⟩
  have HGI : Hid (gi < w.heap.size) := HRI.out.own (by rw [hgi]; simp)
  have HP := Lib.hid h
  have HCALL := Lib.hid hp
  have HL : Hid (n ≤ 100) := by show _ ≤ _; rw [hn, hll]; exact hl
  have HN := Lib.hid hn
  have HLL := Lib.hid hll
  have hc5 := h.hd.c5
  rw [← hll, ← hn] at hc5
  have hgl := h.hd.lt
  obtain ⟨q1, q2⟩ := HC.out
  clear h hp hl hn hll
  go_enter Try.func44, Try.ntmps44
  go_wp2_with fail
  go_loopw [5, 6, 19] (fun c st i wr => ∃ (k : Nat) (vc : Value), k ≤ n ∧ vc = c ∧ i = .int .i64 k ∧ st = .slice (some ⟨gi, 0, none⟩) ((l.take k).filter (fun c => !p c)).length cap ∧ CRow 83 wr (.slice (some ⟨gi, 0, none⟩) n cap) (midL ((l.take k).filter (fun c => !p c)) l) ∧ IRow wr vc (connsL ((l.take k).filter p)) ∧ NewL w.heap.size vc ∧ Only [gi] w wr) (fun _ _ i _ => n - (intOf i).toNat)
  case atStart => exact ⟨0, _, Nat.zero_le _, rfl, rfl, rfl, HRI.out, IRow.nil, (by intro x hx; simp [ownL, Value.ownBlock] at hx), Only.refl _ _⟩
  case round =>
    obtain ⟨k, vc, hk, hvc, rfl, rfl, hr, hs, hv, ho⟩ := hrel
    subst hvc
    have HR := Lib.hid hr
    have HS := Lib.hid hs
    have HV := Lib.hid hv
    have HO := Lib.hid ho
    clear hr hs hv ho
    have HK1 := Lib.hid (keep_len (p := fun c => !p c) (l := l) (k := k) (by have := HN.out; omega))
    have HK2 := Lib.hid (keep_len (p := p) (l := l) (k := k) (by have := HN.out; omega))
    by_cases hlt : k < n
    · have HT1 := Lib.hid (keep_take (p := fun c => !p c) (l := l) (k := k) (by have := HN.out; omega))
      have HT2 := Lib.hid (keep_take (p := p) (l := l) (k := k) (by have := HN.out; omega))
      obtain ⟨F, hF⟩ : ∃ F, F = (l.take k).filter (fun c => !p c) := ⟨_, rfl⟩
      obtain ⟨G, hG⟩ : ∃ G, G = (l.take k).filter p := ⟨_, rfl⟩
      rw [← hF] at HR HK1 HT1 ⊢
      rw [← hG] at HS HK2 HT2
      clear hF hG
      have HML : Hid (n = (midL F l).length) := by show _ = _; rw [midL_len (by have := HN.out; have := HK1.out; omega)]; exact HN.out
      obtain ⟨f1, f2, f3⟩ := HR.out.el HML.out (k := k) (by rw [← HML.out]; exact hlt)
      rw [midL_nth HK1.out (by rw [← HN.out]; exact hlt)] at f1 f2 f3
      obtain ⟨x, hx⟩ : ∃ x, x = nthC l k := ⟨_, rfl⟩
      rw [← hx] at f1 f2 f3 HT1 HT2
      clear hx
      obtain ⟨W1, hW1⟩ : ∃ W1, W1 = wr.alloc (.cells #[.int .i64 (x.n : Int), .string x.k, .int .u64 (x.u : Int)] 83) := ⟨_, rfl⟩
      obtain ⟨B1, hB1⟩ : ∃ B1, B1 = wr.heap.size := ⟨_, rfl⟩
      have HO1 : Hid (Only [] wr W1) := by show Only _ _ _; rw [hW1]; exact (Only.refl _ _).alloc _
      have HB1 : Hid (W1.cell? ⟨B1, 0, none⟩ = some (.int .i64 (x.n : Int)) ∧ W1.cell? ⟨B1, 1, none⟩ = some (.string x.k) ∧ W1.cell? ⟨B1, 2, none⟩ = some (.int .u64 (x.u : Int))) := by show _ ∧ _ ∧ _; rw [hW1, hB1]; exact ⟨by simp, by simp, by simp⟩
      have HBL : Hid (B1 < W1.heap.size) := block_of_cell (a := ⟨B1, 0, none⟩) HB1.out.1
      have HBN := Lib.hid hB1
      have b1 := HB1.out.1
      have b2 := HB1.out.2.1
      have b3 := HB1.out.2.2
      have hcall := HCALL.out W1 x (HO.out.trans (HO1.out.mono (by simp)))
      obtain ⟨q, hq⟩ : ∃ q, q = p x := ⟨_, rfl⟩
      rw [← hq] at hcall HT1 HT2
      clear hq
      obtain ⟨x1, x2, x3⟩ := x
      simp only [linkV] at f1 f2 f3 hcall hW1 b1 b2 b3 HB1
      go_wp2_with fail
      rw [← hW1, ← hB1]
      clear hW1 hB1 f1 f2 f3
      go_wp2_with fail
      cases q with
      | true =>
        refine hcall.mono ?_
        rintro e w2 ⟨rfl, ho2⟩
        have HO2 := Lib.hid ho2
        have c1 : w2.cell? ⟨B1, 0, none⟩ = some (.int .i64 (x1 : Int)) := (ho2.cell (p := ⟨B1, 0, none⟩) HBL.out (by simp)).trans HB1.out.1
        clear hcall ho2 b1 b2 b3
        obtain ⟨W3, hW3⟩ : ∃ W3, W3 = w2.alloc (.cells #[.int .i64 (x1 : Int)] 3) := ⟨_, rfl⟩
        obtain ⟨B3, hB3⟩ : ∃ B3, B3 = w2.heap.size := ⟨_, rfl⟩
        have HN3 : Hid (W3.cell? ⟨B3, 0, none⟩ = some (.int .i64 (x1 : Int))) := by show _ = _; rw [hW3, hB3]; simp
        have HO3 : Hid (Only [] wr W3) := by show Only _ _ _; rw [hW3]; exact (HO1.out.trans HO2.out).trans ((Only.refl _ _).alloc _)
        have HS3 := Lib.hid (HS.out.old HO3.out)
        obtain ⟨Ac, capc, hce, _⟩ := HS3.out.slice
        subst hce
        go_wp2_with (at_builtin; rw [← hW3, ← hB3]; refine wpList_append_int rfl (.tmp 26) (.tmp 29) rfl _ (connsL G) rfl HS3.out B3 x1 rfl HN3.out (by rw [connsL, List.length_map]; have := HK2.out; have := HL.out; omega) ?_)
        intro g2 cap2 w4 hr4 ho4 hg4
        rw [← hW3] at ho4
        clear hW3 hB3
        have HO4 : Hid (Only [gi] w w4) := (HO.out.trans (HO3.out.mono (by simp))).next ho4.out (fun y hy => .inr (HV.out y hy))
        have HV4 : Hid (w.heap.size ≤ g2) := by
          show _ ≤ _
          rcases hg4.out with h1 | h1
          · exact HV.out g2 h1
          · have h1' := HO.out.size; have h2 := HO1.out.size; have h3 := HO2.out.size; omega
        have HR4 : Hid (CRow 83 w4 (.slice (some ⟨gi, 0, none⟩) n cap) (midL F l)) := by
          refine (HR.out.old HO3.out).only ho4.out ?_
          intro y hy hy2
          rw [hgi] at hy; simp at hy; subst hy
          have := HV.out y hy2; have := HGI.out; omega
        clear ho4 hg4
        go_wp2_with fail
        go_roundw
        case rel =>
          refine ⟨k + 1, _, by omega, rfl, by go_num, ?_, ?_, ?_, ?_, HO4.out⟩
          · rw [HT1.out]; simp
          · rw [HT1.out]; simpa using HR4.out
          · rw [HT2.out, if_pos trivial]
            have e1 : connsL (G ++ [⟨x1, x2, x3⟩]) = connsL G ++ [(x1 : Int)] := by simp [connsL]
            rw [e1]
            exact hr4.out
          · intro y hy
            simp [ownL, Value.ownBlock] at hy
            subst hy; exact HV4.out
        case measure => simp [intOf]; omega
      | false =>
        refine hcall.mono ?_
        rintro e w2 ⟨rfl, ho2⟩
        have HO2 := Lib.hid ho2
        have c1 : w2.cell? ⟨B1, 0, none⟩ = some (.int .i64 (x1 : Int)) := (ho2.cell (p := ⟨B1, 0, none⟩) HBL.out (by simp)).trans HB1.out.1
        have c2 : w2.cell? ⟨B1, 1, none⟩ = some (.string x2) := (ho2.cell (p := ⟨B1, 1, none⟩) HBL.out (by simp)).trans HB1.out.2.1
        have c3 : w2.cell? ⟨B1, 2, none⟩ = some (.int .u64 (x3 : Int)) := (ho2.cell (p := ⟨B1, 2, none⟩) HBL.out (by simp)).trans HB1.out.2.2
        clear hcall ho2 b1 b2 b3
        obtain ⟨W3, hW3⟩ : ∃ W3, W3 = w2.alloc (.cells #[.int .i64 (x1 : Int), .string x2, .int .u64 (x3 : Int)] 83) := ⟨_, rfl⟩
        obtain ⟨B3, hB3⟩ : ∃ B3, B3 = w2.heap.size := ⟨_, rfl⟩
        have HN3 : Hid (∀ j u, (ccs ⟨x1, x2, x3⟩)[j]? = some u → W3.cell? ((⟨B3, 0, none⟩ : Addr).add j) = some u) := by
          show ∀ j u, _
          rw [hW3, hB3]
          exact World.news_of_block (w := _) (fr := (0, 0)) (t := 83) (heap_alloc_new w2 (.cells #[.int .i64 (x1 : Int), .string x2, .int .u64 (x3 : Int)] 83))
        have HO3 : Hid (Only [] wr W3) := by show Only _ _ _; rw [hW3]; exact (HO1.out.trans HO2.out).trans ((Only.refl _ _).alloc _)
        have HR3 : Hid (CRow 83 W3 (.slice (some ⟨gi, 0, none⟩) n cap) (midL F l)) := HR.out.old HO3.out
        have HSP : Hid (∀ t, t < (ccs ⟨x1, x2, x3⟩).length → (W3.cell? ⟨gi, 0 + F.length * 3 + t, none⟩).isSome = true ∧ W3.frozen? ⟨gi, 0 + F.length * 3 + t, none⟩ = false) := by
          show ∀ t, _
          intro t ht
          change t < 3 at ht
          have := HK1.out
          exact ERow.isC HR3.out HML.out _ (by show _ < n * 3; omega)
        obtain ⟨W4, hW4⟩ : ∃ W4, W4 = W3.setCells gi (F.length * 3) (ecs cE [⟨x1, x2, x3⟩]) := ⟨_, rfl⟩
        have HW4 : Hid (W3.setCells gi (0 + F.length * i0.size) (ccs ⟨x1, x2, x3⟩) = W4) := by show _ = _; rw [hW4, Nat.zero_add, hz1]; rfl
        have HR4 : Hid (CRow 83 W4 (.slice (some ⟨gi, 0, none⟩) n cap) (midL (F ++ [⟨x1, x2, x3⟩]) l)) := by
          show CRow _ _ _ _
          have h1 := ERow.laid HR3.out HML.out [⟨x1, x2, x3⟩] F.length (by have := HK1.out; have := HML.out; simp; omega)
          rw [midL_put] at h1
          rw [hW4]
          exact h1
        have HO4 : Hid (Only [gi] w W4) := by
          show Only _ _ _
          rw [hW4]
          exact Only.cells (by simp) _ _ _ (HO.out.trans (HO3.out.mono (by simp)))
        have HS4 : Hid (IRow W4 vc (connsL G)) := by
          show IRow _ _ _
          refine (HS.out.old HO3.out).only (s := [gi]) ?_ ?_
          · rw [hW4]; exact Only.cells (by simp) _ _ _ (Only.refl _ _)
          · intro y hy hm; simp at hm; subst hm; have := HV.out _ hy; have := HGI.out; omega
        clear hW4
        have hroom : F.length + 1 ≤ cap := by have := HK1.out; omega
        go_wp2_with (at_builtin; rw [← hW3, ← hB3]; refine wpList_append_room_at _ rfl (.tmp 31) (.tmp 33) 65 rfl 83 i0 Try.underlying65 hi gi 0 F.length cap rfl ⟨B3, 0, none⟩ 1 1 (ccs ⟨x1, x2, x3⟩) rfl (by rw [hz1]; rfl) HN3.out (cE.one _) hroom (by rw [hz1]; exact HSP.out) ?_; rw [HW4.out])
        clear hW3 hB3
        go_wp2_with fail
        go_roundw
        case rel =>
          refine ⟨k + 1, _, by omega, rfl, by go_num, ?_, ?_, ?_, HV.out, HO4.out⟩
          · rw [HT1.out]; simp
          · rw [HT1.out]; simpa using HR4.out
          · rw [HT2.out]; simpa using HS4.out
        case measure => simp [intOf]; omega
    · obtain rfl : k = n := by omega
      have HTK : Hid (l.take k = l) := List.take_of_length_le (by have := HN.out; omega)
      rw [HTK.out] at HR HS HK1 HK2 ⊢
      obtain ⟨F, hF⟩ : ∃ F, F = l.filter (fun c => !p c) := ⟨_, rfl⟩
      obtain ⟨G, hG⟩ : ∃ G, G = l.filter p := ⟨_, rfl⟩
      rw [← hF] at HR HK1 ⊢
      rw [← hG] at HS HK2
      have HFF := Lib.hid hF
      have HGG := Lib.hid hG
      clear hF hG
      have HML : Hid (k = (midL F l).length) := by show _ = _; rw [midL_len (by have := HN.out; have := HK1.out; omega)]; exact HN.out
      obtain ⟨W4, hW4⟩ : ∃ W4, W4 = wr.setCells gi (F.length * 3) (ecs cE (List.replicate (k - F.length) zC)) := ⟨_, rfl⟩
      have HR4 : Hid (CRow 83 W4 (.slice (some ⟨gi, 0, none⟩) F.length cap) F) := by
        show CRow _ _ _ _
        have h1 := ERow.laid HR.out HML.out (List.replicate (k - F.length) zC) F.length (by have := HK1.out; have := HML.out; rw [List.length_replicate]; omega)
        have e0 : k = l.length := HN.out
        rw [e0] at h1
        rw [midL_end (by have := HK1.out; omega)] at h1
        have e1 : l.length = (F ++ List.replicate (l.length - F.length) zC).length := by rw [List.length_append, List.length_replicate]; have := HK1.out; omega
        obtain ⟨l2, hl2⟩ : ∃ l2, l2 = F ++ List.replicate (l.length - F.length) zC := ⟨_, rfl⟩
        rw [← hl2] at h1 e1
        have h1' : ERow cE 83 (wr.setCells gi (F.length * cE.n) (ecs cE (List.replicate (l.length - F.length) zC))) 0 (.slice (some ⟨gi, 0, none⟩) l2.length cap) l2 := by rw [← e1]; exact h1
        have h2 := ERow.cut h1' F.length (by have := HK1.out; omega)
        have h3 : l2.take F.length = F := by rw [hl2, List.take_left]
        rw [h3] at h2
        rw [hW4, e0]
        exact h2
      have HOC : Hid (Only [gi] wr W4) := by show Only _ _ _; rw [hW4]; exact Only.cells (by simp) _ _ _ (Only.refl _ _)
      obtain ⟨A, hA, hcl⟩ : ∃ A : Addr, (if cap = F.length then (some (⟨gi, 0, none⟩ : Addr)) else some ⟨gi, F.length * 3, none⟩) = some A ∧ ∀ ty, (Builtin.clear_ #[65] ty #[.slice (some A) (k - F.length) (cap - F.length)]).run Try.prog wr = .ok (.tuple #[]) W4 := by
        by_cases hcf : cap = F.length
        · refine ⟨⟨gi, 0, none⟩, by simp [hcf], fun ty => ?_⟩
          have e0 : k - F.length = 0 := by omega
          rw [hW4, e0]
          simp [Builtin.clear_, run_underlying Try.underlying65, ecs, World.setCells]
        · refine ⟨⟨gi, F.length * 3, none⟩, by simp [hcf], fun ty => ?_⟩
          rw [hW4]
          have hb := HK1.out
          exact clear_conns gi (F.length * 3) (k - F.length) _ ty wr (fun j hj => (ERow.isC HR.out HML.out _ (by show _ < k * 3; omega)).1) (fun j hj => (ERow.isC HR.out HML.out _ (by show _ < k * 3; omega)).2)
      obtain ⟨W5, hW5⟩ : ∃ W5, W5 = W4.setCell ⟨g, 5, none⟩ (.slice (some ⟨gi, 0, none⟩) F.length cap) := ⟨_, rfl⟩
      have HO5 : Hid (Only [g, gi] w W5) := by show Only _ _ _; rw [hW5]; exact ((HO.out.trans HOC.out).mono (by simp)).setCell (p := ⟨g, 5, none⟩) (by simp) _
      have HH4 := Lib.hid (HP.out.hd.only (HO.out.trans HOC.out) (by have := HNE.out; simpa using this))
      have HP5 : Hid (PoAt W5 g gt vt vb (.slice (some ⟨gi, 0, none⟩) F.length cap) (shutP p s)) := by
        show PoAt _ _ _ _ _ _ _
        have h1 := HP.out.turnI (w' := W5) (l := F) (v' := .slice (some ⟨gi, 0, none⟩) F.length cap) (by rw [hgi]; exact HO5.out) (by rw [hW5]; exact HH4.out.set5 _)
          (by rw [hW5]; refine HR4.out.only (s := [g]) ((Only.refl _ _).setCell (p := ⟨g, 5, none⟩) (by simp) _) ?_; rw [hgi]; have := HNE.out; simp; exact fun h => this h.symm) (fun x hx => .inl hx)
        rw [HFF.out, HLL.out] at h1
        rw [HFF.out, HLL.out]
        exact h1
      have HS5 : Hid (IRow W5 vc (connsL G)) := by
        show IRow _ _ _
        refine HS.out.only (s := [g, gi]) ?_ ?_
        · rw [hW5]; exact (HOC.out.mono (by simp)).setCell (p := ⟨g, 5, none⟩) (by simp) _
        · intro y hy hm
          have h1 := HV.out _ hy; have h2 := HGI.out; have h3 := HP.out.hd.lt
          simp at hm; rcases hm with rfl | rfl <;> omega
      have hd5 : wr.cell? ⟨g, 5, none⟩ = some (.slice (some ⟨gi, 0, none⟩) k cap) := by
        have h1 := (HP.out.hd.only HO.out (by have := HNE.out; simpa using this)).c5
        rw [← HLL.out, ← HN.out] at h1; exact h1
      have hd4 : W4.cell? ⟨g, 5, none⟩ = some (.slice (some ⟨gi, 0, none⟩) k cap) := by
        have h1 := HH4.out.c5
        rw [← HLL.out, ← HN.out] at h1; exact h1
      have hz4 := HH4.out.z5
      have hk1 : F.length ≤ k := HK1.out
      have hk2 : F.length ≤ cap := by omega
      have hgl4 : g < W4.heap.size := HH4.out.lt
      have hglr : g < wr.heap.size := (HP.out.hd.only HO.out (by have := HNE.out; simpa using this)).lt
      clear hW4 hc5
      go_wp2_with fail
      rw [← hW5]
      clear hW5 hd5 hd4 hz4 hcl
      refine (SortI_any _ (connsL G) W5 HS5.out (by rw [connsL, List.length_map]; have := HK2.out; have := HL.out; omega)).mono ?_
      rintro e w' ⟨rfl, hs', ho'⟩
      have HS' := Lib.hid hs'
      have HO' := Lib.hid ho'
      clear hs' ho'
      go_wp2
      go_ret
      refine ⟨_, _, rfl, ?_, HV.out, HP5.out.only HO'.out ?_, HO5.out.next HO'.out (fun y hy => .inr (HV.out y hy))⟩
      · unfold shutG
        rw [← HLL.out, ← HGG.out]
        exact HS'.out
      · intro y hy hm
        have h1 := HV.out _ hm
        rcases mem_footP.1 hy with rfl | rfl | h2 | h2 | h2
        · have := HP.out.hd.lt; omega
        · have := HP.out.tb.head.lt; omega
        · have := HP.out.ot _ h2; omega
        · have := HP.out.ob _ h2; omega
        · rw [hgi] at h2; simp at h2; subst h2; have := HGI.out; omega
theorem shut_any (fn : Nat) (lb : Array Value) (p : Cn → Bool) (g gt : Nat) (vt vb vi : Value) (s : Pv) (w : World) (h : PoAt w g gt vt vb vi s) (hl : s.i.length ≤ 100)
    (eg : ∀ args w, (callFunc fn args).run Try.prog w = .ok (.enter fn args) w)
    (hp : ∀ (W : World) (x : Cn), Only (ownL vi) w W → Calls Try.prog fn (#[linkV x] ++ lb) W fun e w' => e = .returned (.bool (p x)) ∧ Only [] W w') :
    Calls Try.prog 44 #[.pointer (some ⟨g, 0, none⟩), .func (.func fn) #[] lb] w fun e w' => ∃ r vi', e = .returned r ∧ IRow w' r (shutG p s) ∧ NewL w.heap.size r ∧ PoAt w' g gt vt vb vi' (shutP p s) ∧ Only (g :: ownL vi) w w' ∧ Grow w.heap.size vi vi' := by
  rcases ERow.form h.ri with ⟨e1, e2⟩ | ⟨gi, cap, e1, _⟩
  · subst e1
    refine (shut_nil fn lb g gt vt vb s w h e2).mono ?_
    rintro e w' ⟨rfl, hq, ho⟩
    have e3 : shutP p s = s := by unfold shutP; rw [e2]; cases s; simp at e2; subst e2; rfl
    have e4 : shutG p s = [] := by unfold shutG; rw [e2]; exact List.mergeSort_nil
    exact ⟨_, _, rfl, by rw [e4]; exact IRow.nil, by intro x hx; simp [ownL, Value.ownBlock] at hx, by rw [e3]; exact hq, ho.mono (by simp), Grow.refl _ _⟩
  · subst e1
    refine (shut_row fn lb p g gt gi cap vt vb s w h hl eg (fun W x ho => hp W x (by exact ho))).mono ?_
    rintro e w' ⟨r, m, rfl, h1, h2, h3, h4⟩
    exact ⟨r, _, rfl, h1, h2, h3, h4.mono (by intro y hy; simp [ownL, Value.ownBlock] at hy ⊢; exact hy), fun x hx => .inl hx⟩
end Go.Proofs.Ytbnmldfiheffoaa
