/-
  The contracts of slices.Delete of one preflight, of slices.DeleteFunc and slices.Clone at numbers over this seat's program. Conditions: those of each statement.
-/
import Derived.Test.YtcljmdpnbfefbaaXFun
import Derived.Deep.RegionLaw
import Derived.Lib.SliceRun
import Derived.Deep.MidRow
namespace Go.Proofs.Ytcljmdpnbfefbaa
open Go.RowKit

/-- clear on the last preflights of a row -/
theorem clear_pres (b o m c : Nat) (ty : TypeId) (w : World) (hc : ∀ j, j < m * 7 → (w.cell? ⟨b, o + j, none⟩).isSome = true) (hf : ∀ j, j < m * 7 → w.frozen? ⟨b, o + j, none⟩ = false) :
    (Builtin.clear_ #[62] ty #[.slice (some ⟨b, o, none⟩) m c]).run Try.prog w = .ok (.tuple #[]) (w.setCells b o (ecs pE (List.replicate m zX))) :=
  clear_rec pE b o m c 62 71 ty _ zX Try.underlying62 zeroP rfl w hc hf
/-- a row of which the k-th is taken out, and the last place cleared -/
theorem PRow.del {e : TypeId} {w : World} {g cap k : Nat} {l : List Px} (h : PRow e w (.slice (some ⟨g, 0, none⟩) l.length cap) l) (hk : k < l.length) :
    PRow e ((w.setCells g (k * 7) (ecs pE (l.drop (k + 1)))).setCells g ((l.length - 1) * 7) (ecs pE (List.replicate 1 zX))) (.slice (some ⟨g, 0, none⟩) (l.length - 1) cap) (l.eraseIdx k) :=
  ERow.del (E := pE) h hk zX

set_option maxRecDepth 20000 in
set_option maxHeartbeats 2000000 in
theorem delP_any (g cap k j n : Nat) (l : List Px) (w : World) (hn : n = l.length) (hj : j = k + 1) (hr : PRow 71 w (.slice (some ⟨g, 0, none⟩) n cap) l) (hk : k < n) (hnc : n ≤ cap) (_hcm : cap ≤ 9223372036854775807) :
    Calls Try.prog 45 #[.slice (some ⟨g, 0, none⟩) n cap, .int .i64 (k : Int), .int .i64 (j : Int)] w fun e w' => e = .returned (.slice (some ⟨g, 0, none⟩) (n - 1) cap) ∧ PRow 71 w' (.slice (some ⟨g, 0, none⟩) (n - 1) cap) (l.eraseIdx k) ∧ Only [g] w w' := by
  obtain ⟨i0, hi, hz0, hz1, hz2⟩ := rec_info infoP
  obtain ⟨W0, hW0⟩ : ∃ W0, W0 = w.drew := ⟨_, rfl⟩
  have HR0 : Hid (PRow 71 W0 (.slice (some ⟨g, 0, none⟩) n cap) l) := by show PRow _ _ _ _; rw [hW0]; exact hr.old (Only.refl _ _).drew
  have HO0 : Hid (Only [g] w W0) := by show Only _ _ _; rw [hW0]; exact (Only.refl _ _).drew
  obtain ⟨news, hnews⟩ : ∃ news, news = ecs pE (l.drop j) := ⟨_, rfl⟩
  have HL : Hid (news.length = (n - j) * 7) := by show _ = _; rw [hnews, ecs_len, List.length_drop, hn]; rfl
  have H1 : Hid (∀ u ∈ news, u.oneCell' = true) := by show ∀ u ∈ _, _; rw [hnews]; exact ecs_one pE _
  have HNW := Lib.hid hnews
  obtain ⟨A, hA, hsrc⟩ : ∃ A : Addr, (if cap = j then (some (⟨g, 0, none⟩ : Addr)) else some ⟨g, j * 7, none⟩) = some A ∧ Hid (∀ t u, news[t]? = some u → W0.cell? (A.add t) = some u) := by
    by_cases h : cap = j
    · refine ⟨⟨g, 0, none⟩, by simp [h], fun t u hu => ?_⟩
      have h0 : news.length = 0 := by rw [HL.out]; omega
      rw [List.length_eq_zero_iff.1 h0] at hu
      simp at hu
    · refine ⟨⟨g, j * 7, none⟩, by simp [h], fun t u hu => ?_⟩
      have h1 := HR0.out
      subst hn
      unfold PRow ERow at h1
      have h2 := World.ownsRow.cells h1 (g := g) rfl (j * 7 + t) u (by rw [← List.getElem?_drop]; have h3 := ecs_drop pE l j; rw [show pE.n = 7 from rfl] at h3; rw [h3, ← hnews]; exact hu)
      have e : (⟨g, j * 7, none⟩ : Addr).add t = (⟨g, 0, none⟩ : Addr).add (j * 7 + t) := by unfold Addr.add; split <;> split <;> simp_all
      rw [e]; exact h2
  obtain ⟨W1, hW1⟩ : ∃ W1, W1 = W0.setCells g (k * 7) news := ⟨_, rfl⟩
  obtain ⟨W2, hW2⟩ : ∃ W2, W2 = W1.setCells g ((n - 1) * 7) (ecs pE (List.replicate 1 zX)) := ⟨_, rfl⟩
  have HR2 : Hid (PRow 71 W2 (.slice (some ⟨g, 0, none⟩) (n - 1) cap) (l.eraseIdx k)) := by
    show PRow _ _ _ _
    rw [hW2, hW1, hnews, hj]
    have h1 := HR0.out
    subst hn
    exact PRow.del h1 hk
  have HO2 : Hid (Only [g] w W2) := by
    show Only _ _ _
    rw [hW2, hW1]
    exact Only.cells (by simp) _ _ _ (Only.cells (by simp) _ _ _ HO0.out)
  have HSP : Hid (∀ t, t < news.length → (W0.cell? ⟨g, 0 + k * 7 + t, none⟩).isSome = true ∧ W0.frozen? ⟨g, 0 + k * 7 + t, none⟩ = false) := by
    show ∀ t, _
    intro t ht
    rw [HL.out] at ht
    exact ERow.isC HR0.out hn _ (by show _ < n * 7; omega)
  have HR1 : Hid (∀ t, t < n * 7 → (W1.cell? ⟨g, t, none⟩).isSome = true ∧ W1.frozen? ⟨g, t, none⟩ = false) := by
    show ∀ t, _
    intro t ht
    have h0 := HR0.out
    rw [hn] at h0
    have h1 := ERow.laid h0 rfl (l.drop j) k (by rw [List.length_drop]; omega)
    rw [← hnews] at h1
    change ERow pE _ (W0.setCells g (k * 7) news) _ _ _ at h1
    rw [← hW1] at h1
    exact ERow.isC h1 (by simp; omega) t (by rw [← hn]; exact ht)
  have hcl : ∀ ty, (Builtin.clear_ #[62] ty #[.slice (some ⟨g, (k + (n - j)) * 7, none⟩) (n - (k + (n - j))) (cap - (k + (n - j)))]).run Try.prog W1 = .ok (.tuple #[]) W2 := by
    intro ty
    rw [show k + (n - j) = n - 1 by omega, show n - (n - 1) = 1 by omega, hW2]
    exact clear_pres g ((n - 1) * 7) 1 _ ty W1 (fun t ht => (HR1.out _ (by omega)).1) (fun t ht => (HR1.out _ (by omega)).2)
  have HW1 : Hid (W1 = W0.setCells g (0 + k * 7) news) := by show _ = _; rw [Nat.zero_add]; exact hW1
  have HJ := Lib.hid hj
  have hic : k ≤ cap := by omega
  have hjc : j ≤ cap := by omega
  have hjn : j ≤ n := by omega
  have hkj : ¬ k = j := by omega
  have hkl : k ≤ j := by omega
  have HE : Hid (k + (n - j) = n - 1) := by show _ = _; omega
  subst hW0
  clear hr hn hj hnews hW1 hW2
  go_enter Try.func45, Try.ntmps45
  go_wp2_with fail
  go_region_law (refine step_append_room rfl (.tmp 22) (.tmp 25) 62 rfl 71 i0 7 Try.underlying62 hi hz1 g 0 k cap (by simp [Act.eval, Act.put]) A (n - j) (cap - j) news (by simp [Act.eval, Act.put]) HL.out hsrc.out H1.out (by omega) HSP.out ?_; rw [← HW1.out])
  go_wp2
  go_ret
  exact ⟨congrArg (fun q => Ending.returned (.slice (some ⟨g, 0, none⟩) q cap)) HE.out, HR2.out, HO2.out⟩

/-- clear on the last numbers of a row -/
theorem zeroN : ∀ w, (zeroValue 3).run Try.prog w = .ok (.int .i64 0) w := fun w => by kernel_rfl
theorem clear_ints (b o m c : Nat) (ty : TypeId) (w : World) (hc : ∀ j, j < m * 1 → (w.cell? ⟨b, o + j, none⟩).isSome = true) (hf : ∀ j, j < m * 1 → w.frozen? ⟨b, o + j, none⟩ = false) :
    (Builtin.clear_ #[42] ty #[.slice (some ⟨b, o, none⟩) m c]).run Try.prog w = .ok (.tuple #[]) (w.setCells b o (ecs nE (List.replicate m 0))) :=
  clear_rec nE b o m c 42 3 ty _ 0 Try.underlying42 zeroN rfl w hc hf
/-- the row while it is gone through: those that stay, then what lay there -/
def midN (F l : List Int) : List Int := F ++ l.drop F.length
theorem midN_len {F l : List Int} (h : F.length ≤ l.length) : (midN F l).length = l.length := by unfold midN; simp; omega
theorem midN_nth {F l : List Int} {k : Nat} (h : F.length ≤ k) : (midN F l)[k]? = l[k]? := by
  unfold midN
  rw [List.getElem?_append_right h, List.getElem?_drop, show F.length + (k - F.length) = k by omega]
theorem midN_put {F l : List Int} (x : Int) : (midN F l).take F.length ++ [x] ++ (midN F l).drop (F.length + [x].length) = midN (F ++ [x]) l := by
  unfold midN
  rw [List.take_left, List.drop_append, List.drop_eq_nil_of_le (by simp), List.nil_append, List.drop_drop]
  simp
theorem midN_end {F l : List Int} (h : F.length ≤ l.length) : (midN F l).take F.length ++ List.replicate (l.length - F.length) 0 ++ (midN F l).drop (F.length + (List.replicate (l.length - F.length) (0 : Int)).length) = F ++ List.replicate (l.length - F.length) 0 := by
  have h1 := midN_len h
  rw [List.drop_eq_nil_of_le (by rw [List.length_replicate, h1]; omega), List.append_nil]
  unfold midN
  rw [List.take_left]
theorem keepN_take {q : Int → Bool} {l : List Int} {k : Nat} (h : k < l.length) : (l.take (k + 1)).filter q = (l.take k).filter q ++ (if q l[k] then [l[k]] else []) := by
  rw [List.take_succ_eq_append_getElem h, List.filter_append]
  congr 1
  cases h2 : q l[k] <;> simp [h2]
theorem keepN_len {q : Int → Bool} {l : List Int} {k : Nat} (h : k ≤ l.length) : ((l.take k).filter q).length ≤ k := by
  have := List.length_filter_le q (l.take k)
  rw [List.length_take] at this; omega
theorem keepN_first {p : Int → Bool} {l : List Int} (h : l.findIdx p < l.length) : (l.take (l.findIdx p + 1)).filter (fun e => !p e) = l.take (l.findIdx p) := by
  have h0 : p l[l.findIdx p] = true := List.findIdx_getElem (w := h)
  rw [keepN_take h, h0]
  simp only [Bool.not_true, Bool.false_eq_true, if_false, List.append_nil]
  rw [List.filter_eq_self]
  intro x hx
  obtain ⟨j, hj, rfl⟩ := List.mem_iff_getElem.1 hx
  rw [List.length_take] at hj
  rw [List.getElem_take]
  have := List.not_of_lt_findIdx (p := p) (xs := l) (i := j) (by omega)
  simpa using this
theorem midN_start {l : List Int} (k : Nat) (h : k ≤ l.length) : midN (l.take k) l = l := by
  unfold midN
  rw [List.length_take, Nat.min_eq_left h, List.take_append_drop]
theorem keepN_none {p : Int → Bool} {l : List Int} (h : ¬ l.findIdx p < l.length) : l.filter (fun e => !p e) = l := by
  rw [List.filter_eq_self]
  intro x hx
  have h1 := List.findIdx_le_length (p := p) (xs := l)
  have h2 := List.findIdx_eq_length.1 (show l.findIdx p = l.length by omega) x hx
  simp [h2]

set_option maxRecDepth 8000 in
set_option maxHeartbeats 4000000 in
theorem delN_row (fn : Nat) (lb : Array Value) (p : Int → Bool) (gi n cap : Nat) (l : List Int) (w : World) (hn : n = l.length) (hr : IRow w (.slice (some ⟨gi, 0, none⟩) n cap) l)
    (eg : ∀ args w, (callFunc fn args).run Try.prog w = .ok (.enter fn args) w)
    (hp : ∀ (W : World) (x : Int), Only [gi] w W → Calls Try.prog fn (#[.int .i64 x] ++ lb) W fun e w' => e = .returned (.bool (p x)) ∧ Only [] W w') :
    Calls Try.prog 34 #[.slice (some ⟨gi, 0, none⟩) n cap, .func (.func fn) #[] lb] w fun e w' => ∃ m, e = .returned (.slice (some ⟨gi, 0, none⟩) m cap) ∧ IRow w' (.slice (some ⟨gi, 0, none⟩) m cap) (l.filter (fun e => !p e)) ∧ Only [gi] w w' := by
  have HC : Hid (n ≤ cap ∧ cap ≤ 9223372036854775807) := by
    obtain ⟨A, c, e, h1, h2⟩ := hr.slice
    injection e with _ _ e3
    subst e3
    exact ⟨by rw [hn]; exact h1, by unfold maxLen at h2; exact h2⟩
  have hcon := idxN_any fn lb p _ l w eg hr (fun W x ho => hp W x (ho.mono (by simp)))
  have HRI := Lib.hid hr
  have HCALL := Lib.hid hp
  have HN := Lib.hid hn
  obtain ⟨q1, q2⟩ := HC.out
  clear hr hp hn
  by_cases hit : l.findIdx p < l.length
  case neg =>
    rw [show plI p l = -1 by unfold plI; rw [if_neg hit]] at hcon
    have HF := Lib.hid (keepN_none hit)
    clear hit eg
    go_enter Try.func34, Try.ntmps34
    go_wp2_with fail
    refine hcon.mono ?_
    rintro e w' ⟨rfl, ho⟩
    clear hcon
    go_wp2
    go_ret
    exact ⟨n, rfl, by rw [HF.out]; exact HRI.out.old ho, ho.mono (by simp)⟩
  rw [show plI p l = (l.findIdx p : Int) by unfold plI; rw [if_pos hit]] at hcon
  have HF0 := Lib.hid (keepN_first hit)
  obtain ⟨i0, hi0⟩ : ∃ i0, i0 = l.findIdx p := ⟨_, rfl⟩
  rw [← hi0] at hcon HF0
  have HIT : Hid (i0 < n) := by show _ < _; rw [hi0, HN.out]; exact hit
  have hit0 := HIT.out
  have hz : ((i0 : Int) == -1) = false := by simp
  have HM0 := Lib.hid (midN_start (l := l) i0 (by have := HN.out; omega))
  have HL0 : Hid ((l.take i0).length = i0) := by show _ = _; rw [List.length_take]; have := HN.out; omega
  clear hit hi0
  go_enter Try.func34, Try.ntmps34
  go_wp2_with fail
  refine hcon.mono ?_
  rintro e w1 ⟨rfl, ho1⟩
  have HO0 := Lib.hid ho1
  clear hcon ho1
  go_wp2_with fail
  go_loopw [5, 6] (fun i j wr => ∃ k : Nat, i0 < k ∧ k ≤ n ∧ j = .int .i64 k ∧ i = .int .i64 (((l.take k).filter (fun e => !p e)).length : Nat) ∧ IRow wr (.slice (some ⟨gi, 0, none⟩) n cap) (midN ((l.take k).filter (fun e => !p e)) l) ∧ Only [gi] w wr) (fun _ j _ => n - (intOf j).toNat)
  case atStart =>
    refine ⟨i0 + 1, by omega, by omega, by go_num, ?_, ?_, HO0.out.mono (by simp)⟩
    · rw [HF0.out, HL0.out]
    · rw [HF0.out, HM0.out]; exact HRI.out.old HO0.out
  case round =>
    obtain ⟨k, hik, hk, rfl, rfl, hr, ho⟩ := hrel
    have HR := Lib.hid hr
    have HO := Lib.hid ho
    clear hr ho
    have HK1 := Lib.hid (keepN_len (q := fun e => !p e) (l := l) (k := k) (by have := HN.out; omega))
    by_cases hlt : k < n
    · have hlt2 : k < l.length := by have := HN.out; omega
      have HT1 := Lib.hid (keepN_take (q := fun e => !p e) (l := l) (k := k) hlt2)
      obtain ⟨F, hF⟩ : ∃ F, F = (l.take k).filter (fun e => !p e) := ⟨_, rfl⟩
      rw [← hF] at HR HK1 HT1 ⊢
      clear hF
      have hFk := HK1.out
      have HML : Hid (n = (midN F l).length) := by show _ = _; rw [midN_len (by have := HN.out; have := HK1.out; omega)]; exact HN.out
      obtain ⟨x, hx⟩ : ∃ x, x = l[k] := ⟨_, rfl⟩
      have f0 : wr.cell? ⟨gi, k, none⟩ = some (.int .i64 x) := by
        obtain ⟨g2, e2, h2⟩ := HR.out.at_ HML.out (k := k) (by rw [← HML.out]; exact hlt)
        injection e2 with e2
        injection e2 with e2 _ _
        subst e2
        rw [h2, hx]
        have h3 := midN_nth (F := F) (l := l) (k := k) HK1.out
        rw [List.getElem?_eq_getElem (by rw [← HML.out]; exact hlt), List.getElem?_eq_getElem hlt2] at h3
        rw [Option.some.inj h3]
      rw [← hx] at HT1
      clear hx
      have hcall := HCALL.out wr x HO.out
      obtain ⟨q, hq⟩ : ∃ q, q = p x := ⟨_, rfl⟩
      rw [← hq] at hcall HT1
      clear hq
      cases q with
      | true =>
        go_wp2_with (go_at_fn fn; refine hcall.mono ?_; rintro e w2 ⟨rfl, ho2⟩)
        go_roundw
        case rel =>
          refine ⟨k + 1, by omega, by omega, by go_num, ?_, ?_, HO.out.trans (ho2.mono (by simp))⟩
          · rw [HT1.out]; simp
          · rw [HT1.out]; simpa using HR.out.old ho2
        case measure => simp [intOf]; omega
      | false =>
        go_wp2_with (go_at_fn fn
                     refine hcall.mono ?_
                     rintro e w2 ⟨rfl, ho2⟩
                     have HO2 := Lib.hid ho2
                     have HR2 := Lib.hid (HR.out.old ho2)
                     obtain ⟨c2, z2⟩ := ERow.isC HR2.out HML.out F.length (by show _ < n * 1; omega)
                     obtain ⟨y2, hy2⟩ := Option.isSome_iff_exists.1 c2
                     obtain ⟨W4, hW4⟩ : ∃ W4, W4 = w2.setCell ⟨gi, F.length, none⟩ (.int .i64 x) := ⟨_, rfl⟩
                     have HR4 : Hid (IRow W4 (.slice (some ⟨gi, 0, none⟩) n cap) (midN (F ++ [x]) l)) := by
                       show IRow _ _ _
                       have h1 := ERow.laid HR2.out HML.out [x] F.length (by have := HK1.out; have := HML.out; simp; omega)
                       rw [midN_put] at h1
                       rw [hW4]
                       have e7 : F.length * nE.n = F.length := Nat.mul_one _
                       rw [e7] at h1
                       exact h1
                     have HO4 : Hid (Only [gi] w W4) := by
                       show Only _ _ _
                       rw [hW4]
                       exact (HO.out.trans (HO2.out.mono (by simp))).setCell (p := ⟨gi, F.length, none⟩) (by simp) _
                     clear ho2 c2 f0 hcall)
        rw [← hW4]
        clear hW4
        go_roundw
        case rel =>
          refine ⟨k + 1, by omega, by omega, by go_num, ?_, ?_, HO4.out⟩
          · rw [HT1.out]; simp
          · rw [HT1.out]; simpa using HR4.out
        case measure => simp [intOf]; omega
    · obtain rfl : k = n := by omega
      have HTK : Hid (l.take k = l) := List.take_of_length_le (by have := HN.out; omega)
      rw [HTK.out] at HR HK1 ⊢
      obtain ⟨F, hF⟩ : ∃ F, F = l.filter (fun e => !p e) := ⟨_, rfl⟩
      rw [← hF] at HR HK1 ⊢
      have HFF := Lib.hid hF
      clear hF
      have HML : Hid (k = (midN F l).length) := by show _ = _; rw [midN_len (by have := HN.out; have := HK1.out; omega)]; exact HN.out
      obtain ⟨W4, hW4⟩ : ∃ W4, W4 = wr.setCells gi (F.length * 1) (ecs nE (List.replicate (k - F.length) 0)) := ⟨_, rfl⟩
      have HR4 : Hid (IRow W4 (.slice (some ⟨gi, 0, none⟩) F.length cap) F) := by
        show IRow _ _ _
        have h1 := ERow.laid HR.out HML.out (List.replicate (k - F.length) 0) F.length (by have := HK1.out; have := HML.out; rw [List.length_replicate]; omega)
        have e0 : k = l.length := HN.out
        rw [e0] at h1
        rw [midN_end (by have := HK1.out; omega)] at h1
        have e1 : l.length = (F ++ List.replicate (l.length - F.length) 0).length := by rw [List.length_append, List.length_replicate]; have := HK1.out; omega
        obtain ⟨l2, hl2⟩ : ∃ l2, l2 = F ++ List.replicate (l.length - F.length) 0 := ⟨_, rfl⟩
        rw [← hl2] at h1 e1
        have h1' : ERow nE 3 (wr.setCells gi (F.length * nE.n) (ecs nE (List.replicate (l.length - F.length) 0))) 0 (.slice (some ⟨gi, 0, none⟩) l2.length cap) l2 := by rw [← e1]; exact h1
        have h2 := ERow.cut h1' F.length (by have := HK1.out; omega)
        have h3 : l2.take F.length = F := by rw [hl2, List.take_left]
        rw [h3] at h2
        rw [hW4, e0]
        exact h2
      have HOC : Hid (Only [gi] wr W4) := by show Only _ _ _; rw [hW4]; exact Only.cells (by simp) _ _ _ (Only.refl _ _)
      obtain ⟨A, hA, hcl⟩ : ∃ A : Addr, (if cap = F.length then (some (⟨gi, 0, none⟩ : Addr)) else some ⟨gi, F.length, none⟩) = some A ∧ ∀ ty, (Builtin.clear_ #[42] ty #[.slice (some A) (k - F.length) (cap - F.length)]).run Try.prog wr = .ok (.tuple #[]) W4 := by
        by_cases hcf : cap = F.length
        · refine ⟨⟨gi, 0, none⟩, by simp [hcf], fun ty => ?_⟩
          have e0 : k - F.length = 0 := by omega
          rw [hW4, e0]
          simp [Builtin.clear_, run_underlying Try.underlying42, ecs, World.setCells]
        · refine ⟨⟨gi, F.length, none⟩, by simp [hcf], fun ty => ?_⟩
          rw [hW4]
          have hb := HK1.out
          have hh := clear_ints gi F.length (k - F.length) (cap - F.length) ty wr (fun j hj => (ERow.isC HR.out HML.out _ (by show _ < k * 1; omega)).1) (fun j hj => (ERow.isC HR.out HML.out _ (by show _ < k * 1; omega)).2)
          rw [Nat.mul_one]
          exact hh
      have hk1 : F.length ≤ k := HK1.out
      have hk2 : F.length ≤ cap := by omega
      clear hW4
      go_wp2_with fail
      go_ret
      exact ⟨F.length, rfl, by rw [← HFF.out]; exact HR4.out, HO.out.trans HOC.out⟩

/-- all that a value owns is new -/
def NewL (n : Nat) (v : Value) : Prop := ∀ x ∈ ownL v, n ≤ x
theorem NewL.none_ (n : Nat) : NewL n (.slice none 0 0) := by intro x hx; simp [ownL, Value.ownBlock] at hx
set_option maxHeartbeats 800000 in
theorem nClone_any (v : Value) (l : List Int) (w : World) (hr : IRow w v l) (hl : l.length ≤ 1000) :
    Calls Try.prog 39 #[v] w fun e w' => ∃ r, e = .returned r ∧ IRow w' r l ∧ NewL w.heap.size r ∧ Only [] w w' := by
  rcases ERow.form hr with ⟨e1, e2⟩ | ⟨gi, cap, e1, _, _, hlc, hcm⟩
  · subst e1 e2
    have qT : ∀ (w : World) (a : Option Addr) (n c n' c' : Nat), (binOp .eql 42 (.slice a n c) (.slice none n' c')).run Try.prog w = .ok (.bool a.isNone) w := fun w a n c n' c' => Lib.run_eql_slice_nil w _ _ a n c n' c' Try.underlying42
    clear hr hl
    go_enter Try.func39, Try.ntmps39
    go_wp2
    go_ret
    exact ⟨_, rfl, IRow.nil, NewL.none_ _, Only.refl _ _⟩
  · subst e1
    have qT : ∀ (w : World) (a : Option Addr) (n c n' c' : Nat), (binOp .eql 42 (.slice a n c) (.slice none n' c')).run Try.prog w = .ok (.bool a.isNone) w := fun w a n c n' c' => Lib.run_eql_slice_nil w _ _ a n c n' c' Try.underlying42
    obtain ⟨W1, hW1⟩ : ∃ W1, W1 = w.alloc (.cells #[] 3) := ⟨_, rfl⟩
    obtain ⟨B, hB⟩ : ∃ B, B = w.heap.size := ⟨_, rfl⟩
    have HO1 : Hid (Only [] w W1) := by show Only _ _ _; rw [hW1]; exact (Only.refl _ _).alloc _
    have HR0 : Hid (IRow W1 (.slice (some ⟨B, 0, none⟩) 0 0) []) := by
      show IRow _ _ _
      rw [hW1, hB]
      exact ⟨rfl, .inr ⟨w.heap.size, 0, #[], rfl, Nat.zero_le _, heap_alloc_new _ _, Nat.le_refl _, Nat.zero_le _, rfl, rfl⟩⟩
    have HPT : Hid (PartAt nE W1 (.slice (some ⟨gi, 0, none⟩) l.length cap) l) := ERow.part (hr.old HO1.out)
    have HB := Lib.hid hB
    have HS1 := Lib.hid HO1.out.size
    clear hr
    go_enter Try.func39, Try.ntmps39
    go_wp2_with (at_builtin; rw [← hW1, ← hB]; refine wpList_append_ints rfl (.tmp 5) (.tmp 6) rfl _ [] rfl HR0.out _ l rfl HPT.out (by simp; omega) ?_)
    intro v' w' hr' ho' hg'
    rw [← hW1] at ho'
    clear hW1 hB
    obtain ⟨A', cap', hv', _, _⟩ := IRow.slice hr'.out
    have HG : Hid (NewL w.heap.size v') := by
      show NewL _ _
      intro x hx
      rcases hg'.out x hx with h1 | h1
      · simp [ownL, Value.ownBlock] at h1; have := HB.out; omega
      · have := HS1.out; omega
    have HO2 : Hid (Only [] w w') := by
      show Only _ _ _
      refine HO1.out.next ho'.out ?_
      intro x hx
      simp [ownL, Value.ownBlock] at hx
      have := HB.out; exact .inr (by omega)
    clear ho' hg'
    subst hv'
    go_wp2
    go_ret
    exact ⟨_, rfl, hr'.out, HG.out, HO2.out⟩
end Go.Proofs.Ytcljmdpnbfefbaa
