/-
  The contracts of slices.Delete of one entry and of slices.DeleteFunc at entries over this seat's program. Conditions: those of each statement.
-/
import Derived.Test.YtlkneapidmdpbaaGreatDoorBFun
import Derived.Deep.RegionLaw
import Derived.Lib.SliceRun
import Derived.Deep.MidRow
namespace Go.Proofs.YtlkneapidmdpbaaGreatDoor
open Go.RowKit

/-- clear on the last entries of a row -/
theorem clear_ents (b o m c : Nat) (ty : TypeId) (w : World) (hc : ∀ j, j < m * 6 → (w.cell? ⟨b, o + j, none⟩).isSome = true) (hf : ∀ j, j < m * 6 → w.frozen? ⟨b, o + j, none⟩ = false) :
    (Builtin.clear_ #[41] ty #[.slice (some ⟨b, o, none⟩) m c]).run Tryz.prog w = .ok (.tuple #[]) (w.setCells b o (ecs eE (List.replicate m zE))) :=
  clear_rec eE b o m c 41 64 ty _ zE Tryz.underlying41 zeroEn rfl w hc hf
/-- a row of which the k-th is taken out, and the last place cleared -/
theorem EnRow.del {w : World} {g cap k : Nat} {l : List En} (h : EnRow w (.slice (some ⟨g, 0, none⟩) l.length cap) l) (hk : k < l.length) :
    EnRow ((w.setCells g (k * 6) (ecs eE (l.drop (k + 1)))).setCells g ((l.length - 1) * 6) (ecs eE (List.replicate 1 zE))) (.slice (some ⟨g, 0, none⟩) (l.length - 1) cap) (l.eraseIdx k) :=
  ERow.del (E := eE) h hk zE

set_option maxRecDepth 20000 in
set_option maxHeartbeats 2000000 in
theorem delE_any (g cap k j n : Nat) (l : List En) (w : World) (hn : n = l.length) (hj : j = k + 1) (hr : EnRow w (.slice (some ⟨g, 0, none⟩) n cap) l) (hk : k < n) (hnc : n ≤ cap) (_hcm : cap ≤ 9223372036854775807) :
    Calls Tryz.prog 118 #[.slice (some ⟨g, 0, none⟩) n cap, .int .i64 (k : Int), .int .i64 (j : Int)] w fun e w' => e = .returned (.slice (some ⟨g, 0, none⟩) (n - 1) cap) ∧ EnRow w' (.slice (some ⟨g, 0, none⟩) (n - 1) cap) (l.eraseIdx k) ∧ Only [g] w w' := by
  obtain ⟨i0, hi, hz0, hz1, hz2⟩ := rec_info infoEn
  obtain ⟨W0, hW0⟩ : ∃ W0, W0 = w.drew := ⟨_, rfl⟩
  have HR0 : Hid (EnRow W0 (.slice (some ⟨g, 0, none⟩) n cap) l) := by show EnRow _ _ _; rw [hW0]; exact hr.old (Only.refl _ _).drew
  have HO0 : Hid (Only [g] w W0) := by show Only _ _ _; rw [hW0]; exact (Only.refl _ _).drew
  obtain ⟨news, hnews⟩ : ∃ news, news = ecs eE (l.drop j) := ⟨_, rfl⟩
  have HL : Hid (news.length = (n - j) * 6) := by show _ = _; rw [hnews, ecs_len, List.length_drop, hn]; rfl
  have H1 : Hid (∀ u ∈ news, u.oneCell' = true) := by show ∀ u ∈ _, _; rw [hnews]; exact ecs_one eE _
  have HNW := Lib.hid hnews
  obtain ⟨A, hA, hsrc⟩ : ∃ A : Addr, (if cap = j then (some (⟨g, 0, none⟩ : Addr)) else some ⟨g, j * 6, none⟩) = some A ∧ Hid (∀ t u, news[t]? = some u → W0.cell? (A.add t) = some u) := by
    by_cases h : cap = j
    · refine ⟨⟨g, 0, none⟩, by simp [h], fun t u hu => ?_⟩
      have h0 : news.length = 0 := by rw [HL.out]; omega
      rw [List.length_eq_zero_iff.1 h0] at hu
      simp at hu
    · refine ⟨⟨g, j * 6, none⟩, by simp [h], fun t u hu => ?_⟩
      have h1 := HR0.out
      subst hn
      unfold EnRow ERow at h1
      have h2 := World.ownsRow.cells h1 (g := g) rfl (j * 6 + t) u (by rw [← List.getElem?_drop]; have h3 := ecs_drop eE l j; rw [show eE.n = 6 from rfl] at h3; rw [h3, ← hnews]; exact hu)
      have e : (⟨g, j * 6, none⟩ : Addr).add t = (⟨g, 0, none⟩ : Addr).add (j * 6 + t) := by unfold Addr.add; split <;> split <;> simp_all
      rw [e]; exact h2
  obtain ⟨W1, hW1⟩ : ∃ W1, W1 = W0.setCells g (k * 6) news := ⟨_, rfl⟩
  obtain ⟨W2, hW2⟩ : ∃ W2, W2 = W1.setCells g ((n - 1) * 6) (ecs eE (List.replicate 1 zE)) := ⟨_, rfl⟩
  have HR2 : Hid (EnRow W2 (.slice (some ⟨g, 0, none⟩) (n - 1) cap) (l.eraseIdx k)) := by
    show EnRow _ _ _
    rw [hW2, hW1, hnews, hj]
    have h1 := HR0.out
    subst hn
    exact EnRow.del h1 hk
  have HO2 : Hid (Only [g] w W2) := by
    show Only _ _ _
    rw [hW2, hW1]
    exact Only.cells (by simp) _ _ _ (Only.cells (by simp) _ _ _ HO0.out)
  have HSP : Hid (∀ t, t < news.length → (W0.cell? ⟨g, 0 + k * 6 + t, none⟩).isSome = true ∧ W0.frozen? ⟨g, 0 + k * 6 + t, none⟩ = false) := by
    show ∀ t, _
    intro t ht
    rw [HL.out] at ht
    exact ERow.isC HR0.out hn _ (by show _ < n * 6; omega)
  have HR1 : Hid (∀ t, t < n * 6 → (W1.cell? ⟨g, t, none⟩).isSome = true ∧ W1.frozen? ⟨g, t, none⟩ = false) := by
    show ∀ t, _
    intro t ht
    have h0 := HR0.out
    rw [hn] at h0
    have h1 := ERow.laid h0 rfl (l.drop j) k (by rw [List.length_drop]; omega)
    rw [← hnews] at h1
    change ERow eE _ (W0.setCells g (k * 6) news) _ _ _ at h1
    rw [← hW1] at h1
    exact ERow.isC h1 (by simp; omega) t (by rw [← hn]; exact ht)
  have hcl : ∀ ty, (Builtin.clear_ #[41] ty #[.slice (some ⟨g, (k + (n - j)) * 6, none⟩) (n - (k + (n - j))) (cap - (k + (n - j)))]).run Tryz.prog W1 = .ok (.tuple #[]) W2 := by
    intro ty
    rw [show k + (n - j) = n - 1 by omega, show n - (n - 1) = 1 by omega, hW2]
    exact clear_ents g ((n - 1) * 6) 1 _ ty W1 (fun t ht => (HR1.out _ (by omega)).1) (fun t ht => (HR1.out _ (by omega)).2)
  have HW1 : Hid (W1 = W0.setCells g (0 + k * 6) news) := by show _ = _; rw [Nat.zero_add]; exact hW1
  have HJ := Lib.hid hj
  have hic : k ≤ cap := by omega
  have hjc : j ≤ cap := by omega
  have hjn : j ≤ n := by omega
  have hkj : ¬ k = j := by omega
  have hkl : k ≤ j := by omega
  have HE : Hid (k + (n - j) = n - 1) := by show _ = _; omega
  subst hW0
  clear hr hn hj hnews hW1 hW2
  go_enter Tryz.func118, Tryz.ntmps118
  go_wp2_with fail
  go_region_law (refine step_append_room rfl (.tmp 22) (.tmp 25) 41 rfl 64 i0 6 Tryz.underlying41 hi hz1 g 0 k cap (by simp [Act.eval, Act.put]) A (n - j) (cap - j) news (by simp [Act.eval, Act.put]) HL.out hsrc.out H1.out (by omega) HSP.out ?_; rw [← HW1.out])
  go_wp2
  go_ret
  exact ⟨congrArg (fun q => Ending.returned (.slice (some ⟨g, 0, none⟩) q cap)) HE.out, HR2.out, HO2.out⟩

/-- the row while it is gone through: those that stay, then what lay there -/
def midE (F l : List En) : List En := F ++ l.drop F.length
theorem midE_len {F l : List En} (h : F.length ≤ l.length) : (midE F l).length = l.length := by unfold midE; simp; omega
theorem midE_nth {F l : List En} {k : Nat} (h : F.length ≤ k) : nthE (midE F l) k = nthE l k := by
  unfold nthE midE
  rw [List.getD_eq_getElem?_getD, List.getD_eq_getElem?_getD, List.getElem?_append_right h, List.getElem?_drop, show F.length + (k - F.length) = k by omega]
theorem midE_put {F l : List En} (x : En) : (midE F l).take F.length ++ [x] ++ (midE F l).drop (F.length + [x].length) = midE (F ++ [x]) l := by
  unfold midE
  rw [List.take_left, List.drop_append, List.drop_eq_nil_of_le (by simp), List.nil_append, List.drop_drop]
  simp
theorem midE_end {F l : List En} (h : F.length ≤ l.length) : (midE F l).take F.length ++ List.replicate (l.length - F.length) zE ++ (midE F l).drop (F.length + (List.replicate (l.length - F.length) zE).length) = F ++ List.replicate (l.length - F.length) zE := by
  have h1 := midE_len h
  rw [List.drop_eq_nil_of_le (by rw [List.length_replicate, h1]; omega), List.append_nil]
  unfold midE
  rw [List.take_left]
/-- up to the first hit all stay -/
theorem keepE_first {p : En → Bool} {l : List En} (h : l.findIdx p < l.length) : (l.take (l.findIdx p + 1)).filter (fun e => !p e) = l.take (l.findIdx p) := by
  rw [keepE_take h, spot_hit h]
  show (l.take (l.findIdx p)).filter _ = _
  rw [List.filter_eq_self]
  intro x hx
  obtain ⟨j, hj, rfl⟩ := List.mem_iff_getElem.1 hx
  rw [List.length_take] at hj
  rw [List.getElem_take]
  have := List.not_of_lt_findIdx (p := p) (xs := l) (i := j) (by omega)
  simpa using this
theorem midE_start {l : List En} (k : Nat) (h : k ≤ l.length) : midE (l.take k) l = l := by
  unfold midE
  rw [List.length_take, Nat.min_eq_left h, List.take_append_drop]
theorem keepE_none {p : En → Bool} {l : List En} (h : ¬ l.findIdx p < l.length) : l.filter (fun e => !p e) = l := by
  rw [List.filter_eq_self]
  intro x hx
  have h1 := List.findIdx_le_length (p := p) (xs := l)
  have h2 := List.findIdx_eq_length.1 (show l.findIdx p = l.length by omega) x hx
  simp [h2]

set_option maxHeartbeats 800000 in
theorem delF_nil (fn : Nat) (lb : Array Value) (w : World) (eg : ∀ args w, (callFunc fn args).run Tryz.prog w = .ok (.enter fn args) w) (p : En → Bool)
    (hp : ∀ (W : World) (x : En), Only [] w W → Calls Tryz.prog fn (#[entV x] ++ lb) W fun e w' => e = .returned (.bool (p x)) ∧ Only [] W w') :
    Calls Tryz.prog 163 #[.slice none 0 0, .func (.func fn) #[] lb] w fun e w' => e = .returned (.slice none 0 0) ∧ Only [] w w' := by
  have hcon := idxE_any fn lb p _ [] w eg EnRow.nil hp
  clear eg hp
  rw [show spotI p [] = -1 by rfl] at hcon
  go_enter Tryz.func163, Tryz.ntmps163
  go_wp2_with fail
  refine hcon.mono ?_
  rintro e w' ⟨rfl, ho⟩
  go_wp2
  go_ret
  exact ⟨rfl, ho⟩

set_option maxRecDepth 8000 in
set_option maxHeartbeats 4000000 in
theorem delF_row (fn : Nat) (lb : Array Value) (p : En → Bool) (gi n cap : Nat) (l : List En) (w : World) (hn : n = l.length) (hr : EnRow w (.slice (some ⟨gi, 0, none⟩) n cap) l)
    (eg : ∀ args w, (callFunc fn args).run Tryz.prog w = .ok (.enter fn args) w)
    (hp : ∀ (W : World) (x : En), Only [gi] w W → Calls Tryz.prog fn (#[entV x] ++ lb) W fun e w' => e = .returned (.bool (p x)) ∧ Only [] W w') :
    Calls Tryz.prog 163 #[.slice (some ⟨gi, 0, none⟩) n cap, .func (.func fn) #[] lb] w fun e w' => ∃ m, e = .returned (.slice (some ⟨gi, 0, none⟩) m cap) ∧ EnRow w' (.slice (some ⟨gi, 0, none⟩) m cap) (l.filter (fun e => !p e)) ∧ Only [gi] w w' := by
  have HC : Hid (n ≤ cap ∧ cap ≤ 9223372036854775807) := by
    obtain ⟨A, c, e, h1, h2⟩ := hr.slice
    injection e with _ _ e3
    subst e3
    exact ⟨by rw [hn]; exact h1, by unfold maxLen at h2; exact h2⟩
  have HGI : Hid (gi < w.heap.size) := hr.own (by simp [ownL, Value.ownBlock])
  have hcon := idxE_any fn lb p _ l w eg hr (fun W x ho => hp W x (ho.mono (by simp)))
  have HRI := Lib.hid hr
  have HCALL := Lib.hid hp
  have HN := Lib.hid hn
  obtain ⟨q1, q2⟩ := HC.out
  clear hr hp hn
  by_cases hit : l.findIdx p < l.length
  case neg =>
    rw [spotI_no hit] at hcon
    have HF := Lib.hid (keepE_none hit)
    clear hit eg
    go_enter Tryz.func163, Tryz.ntmps163
    go_wp2_with fail
    refine hcon.mono ?_
    rintro e w' ⟨rfl, ho⟩
    clear hcon
    go_wp2
    go_ret
    exact ⟨n, rfl, by rw [HF.out]; exact HRI.out.old ho, ho.mono (by simp)⟩
  rw [spotI_yes hit] at hcon
  have HF0 := Lib.hid (keepE_first hit)
  obtain ⟨i0, hi0⟩ : ∃ i0, i0 = l.findIdx p := ⟨_, rfl⟩
  rw [← hi0] at hcon HF0
  have HIT : Hid (i0 < n) := by show _ < _; rw [hi0, HN.out]; exact hit
  have hit0 := HIT.out
  have hz : ((i0 : Int) == -1) = false := by simp
  have HM0 := Lib.hid (midE_start (l := l) i0 (by have := HN.out; omega))
  have HL0 : Hid ((l.take i0).length = i0) := by show _ = _; rw [List.length_take]; have := HN.out; omega
  clear hit hi0
  go_enter Tryz.func163, Tryz.ntmps163
  go_wp2_with fail
  refine hcon.mono ?_
  rintro e w1 ⟨rfl, ho1⟩
  have HO0 := Lib.hid ho1
  clear hcon ho1
  go_wp2_with fail
  go_loopw [5, 6] (fun i j wr => ∃ k : Nat, i0 < k ∧ k ≤ n ∧ j = .int .i64 k ∧ i = .int .i64 (((l.take k).filter (fun e => !p e)).length : Nat) ∧ EnRow wr (.slice (some ⟨gi, 0, none⟩) n cap) (midE ((l.take k).filter (fun e => !p e)) l) ∧ Only [gi] w wr) (fun _ j _ => n - (intOf j).toNat)
  case atStart =>
    refine ⟨i0 + 1, by omega, by omega, by go_num, ?_, ?_, HO0.out.mono (by simp)⟩
    · rw [HF0.out, HL0.out]
    · rw [HF0.out, HM0.out]; exact HRI.out.old HO0.out
  case round =>
    obtain ⟨k, hik, hk, rfl, rfl, hr, ho⟩ := hrel
    have HR := Lib.hid hr
    have HO := Lib.hid ho
    clear hr ho
    have HK1 := Lib.hid (keepE_len (p := fun e => !p e) (l := l) (k := k) (by have := HN.out; omega))
    by_cases hlt : k < n
    · have HT1 := Lib.hid (keepE_take (p := fun e => !p e) (l := l) (k := k) (by have := HN.out; omega))
      obtain ⟨F, hF⟩ : ∃ F, F = (l.take k).filter (fun e => !p e) := ⟨_, rfl⟩
      rw [← hF] at HR HK1 HT1 ⊢
      clear hF
      have hFk := HK1.out
      have HML : Hid (n = (midE F l).length) := by show _ = _; rw [midE_len (by have := HN.out; have := HK1.out; omega)]; exact HN.out
      obtain ⟨f0, f1, f2, f3, f4, f5⟩ := HR.out.el HML.out (k := k) (by rw [← HML.out]; exact hlt)
      rw [midE_nth HK1.out] at f0 f1 f2 f3 f4 f5
      obtain ⟨x, hx⟩ : ∃ x, x = nthE l k := ⟨_, rfl⟩
      rw [← hx] at f0 f1 f2 f3 f4 f5 HT1
      clear hx
      obtain ⟨W1, hW1⟩ : ∃ W1, W1 = wr.alloc (.cells #[.string x.k.o, .string x.k.u, .bool x.k.c, .string x.m, .string x.h, .int .u64 (x.t : Int)] 64) := ⟨_, rfl⟩
      obtain ⟨B1, hB1⟩ : ∃ B1, B1 = wr.heap.size := ⟨_, rfl⟩
      have HO1 : Hid (Only [] wr W1) := by show Only _ _ _; rw [hW1]; exact (Only.refl _ _).alloc _
      have HB1 : Hid (EnBox W1 B1 x) := by show EnBox _ _ _; rw [hW1, hB1]; exact EnBox.new _ _ _
      have HBN : Hid (B1 ≠ gi) := by show _ ≠ _; rw [hB1]; have := HGI.out; have := HO.out.size; omega
      have hcall := HCALL.out W1 x (HO.out.trans (HO1.out.mono (by simp)))
      obtain ⟨b0, b1, b2, b3, b4, b5⟩ := HB1.out
      obtain ⟨q, hq⟩ : ∃ q, q = p x := ⟨_, rfl⟩
      rw [← hq] at hcall HT1
      clear hq
      simp only [entV] at hcall
      go_wp2_with fail
      rw [← hW1, ← hB1]
      clear hW1 hB1 f0 f1 f2 f3 f4 f5
      cases q with
      | true =>
        go_wp2_with (go_at_fn fn; refine hcall.mono ?_; rintro e w2 ⟨rfl, ho2⟩)
        clear hcall b0 b1 b2 b3 b4 b5
        go_roundw
        case rel =>
          refine ⟨k + 1, by omega, by omega, by go_num, ?_, ?_, HO.out.trans ((HO1.out.trans ho2).mono (by simp))⟩
          · rw [HT1.out]; simp
          · rw [HT1.out]; simpa using HR.out.old (HO1.out.trans ho2)
        case measure => simp [intOf]; omega
      | false =>
        go_wp2_with (first
          | (go_at_fn fn
             refine hcall.mono ?_
             rintro e w2 ⟨rfl, ho2⟩
             have HO2 := Lib.hid (HO1.out.trans ho2)
             obtain ⟨b0', b1', b2', b3', b4', b5'⟩ := HB1.out.old ho2
             clear ho2 b0 b1 b2 b3 b4 b5 hcall
             obtain ⟨W4, hW4⟩ : ∃ W4, W4 = w2.setCells gi (F.length * 6) (ecs eE [x]) := ⟨_, rfl⟩
             have HW4 : Hid (w2.setCells gi (F.length * 6) [.string x.k.o, .string x.k.u, .bool x.k.c, .string x.m, .string x.h, .int .u64 (x.t : Int)] = W4) := by show _ = _; rw [hW4]; rfl
             have HR2 := Lib.hid (HR.out.old HO2.out)
             have HT2 : Hid (w2.there gi (F.length * 6) 6) := by
               show World.there _ _ _ _
               intro t ht
               exact ERow.isC HR2.out HML.out _ (by show _ < n * 6; omega)
             have HR4 : Hid (EnRow W4 (.slice (some ⟨gi, 0, none⟩) n cap) (midE (F ++ [x]) l)) := by
               show EnRow _ _ _
               have h1 := ERow.laid HR2.out HML.out [x] F.length (by have := HK1.out; have := HML.out; simp; omega)
               rw [midE_put] at h1
               rw [hW4]
               exact h1
             have HO4 : Hid (Only [gi] w W4) := by
               show Only _ _ _
               rw [hW4]
               exact Only.cells (by simp) _ _ _ (HO.out.trans (HO2.out.mono (by simp)))
             clear hW4)
          | (refine wpList_store_mid rfl 64 (.tmp 33) (.tmp 32) rfl gi (F.length * 6) #[.string x.k.o, .string x.k.u, .bool x.k.c, .string x.m, .string x.h, .int .u64 (x.t : Int)] (by simp [Act.eval]) (by simp [Act.eval]) HT2.out (by kernel_rfl) (by simp [Value.oneCell']) ?_
             rw [HW4.out]))
        go_roundw
        case rel =>
          refine ⟨k + 1, by omega, by omega, by go_num, ?_, ?_, HO4.out⟩
          · rw [HT1.out]; simp
          · rw [HT1.out]; simpa using HR4.out
        case measure => simp [intOf]; omega
    · obtain rfl : k = n := by omega
      have HTK : Hid (l.take k = l) := List.take_of_length_le (by have := HN.out; omega)
      rw [HTK.out] at HR HK1 ⊢
      obtain ⟨F, hF⟩ : ∃ F, F = l.filter (fun e => !p e) := ⟨_, rfl⟩
      rw [← hF] at HR HK1 ⊢
      have HFF := Lib.hid hF
      clear hF
      have HML : Hid (k = (midE F l).length) := by show _ = _; rw [midE_len (by have := HN.out; have := HK1.out; omega)]; exact HN.out
      obtain ⟨W4, hW4⟩ : ∃ W4, W4 = wr.setCells gi (F.length * 6) (ecs eE (List.replicate (k - F.length) zE)) := ⟨_, rfl⟩
      have HR4 : Hid (EnRow W4 (.slice (some ⟨gi, 0, none⟩) F.length cap) F) := by
        show EnRow _ _ _
        have h1 := ERow.laid HR.out HML.out (List.replicate (k - F.length) zE) F.length (by have := HK1.out; have := HML.out; rw [List.length_replicate]; omega)
        have e0 : k = l.length := HN.out
        rw [e0] at h1
        rw [midE_end (by have := HK1.out; omega)] at h1
        have e1 : l.length = (F ++ List.replicate (l.length - F.length) zE).length := by rw [List.length_append, List.length_replicate]; have := HK1.out; omega
        obtain ⟨l2, hl2⟩ : ∃ l2, l2 = F ++ List.replicate (l.length - F.length) zE := ⟨_, rfl⟩
        rw [← hl2] at h1 e1
        have h1' : ERow eE 64 (wr.setCells gi (F.length * eE.n) (ecs eE (List.replicate (l.length - F.length) zE))) 0 (.slice (some ⟨gi, 0, none⟩) l2.length cap) l2 := by rw [← e1]; exact h1
        have h2 := ERow.cut h1' F.length (by have := HK1.out; omega)
        have h3 : l2.take F.length = F := by rw [hl2, List.take_left]
        rw [h3] at h2
        rw [hW4, e0]
        exact h2
      have HOC : Hid (Only [gi] wr W4) := by show Only _ _ _; rw [hW4]; exact Only.cells (by simp) _ _ _ (Only.refl _ _)
      obtain ⟨A, hA, hcl⟩ : ∃ A : Addr, (if cap = F.length then (some (⟨gi, 0, none⟩ : Addr)) else some ⟨gi, F.length * 6, none⟩) = some A ∧ ∀ ty, (Builtin.clear_ #[41] ty #[.slice (some A) (k - F.length) (cap - F.length)]).run Tryz.prog wr = .ok (.tuple #[]) W4 := by
        by_cases hcf : cap = F.length
        · refine ⟨⟨gi, 0, none⟩, by simp [hcf], fun ty => ?_⟩
          have e0 : k - F.length = 0 := by omega
          rw [hW4, e0]
          simp [Builtin.clear_, run_underlying Tryz.underlying41, ecs, World.setCells]
        · refine ⟨⟨gi, F.length * 6, none⟩, by simp [hcf], fun ty => ?_⟩
          rw [hW4]
          have hb := HK1.out
          exact clear_ents gi (F.length * 6) (k - F.length) _ ty wr (fun j hj => (ERow.isC HR.out HML.out _ (by show _ < k * 6; omega)).1) (fun j hj => (ERow.isC HR.out HML.out _ (by show _ < k * 6; omega)).2)
      have hk1 : F.length ≤ k := HK1.out
      have hk2 : F.length ≤ cap := by omega
      clear hW4
      go_wp2_with fail
      go_ret
      exact ⟨F.length, rfl, by rw [← HFF.out]; exact HR4.out, HO.out.trans HOC.out⟩
theorem delF_any (fn : Nat) (lb : Array Value) (p : En → Bool) (v : Value) (l : List En) (w : World) (hr : EnRow w v l)
    (eg : ∀ args w, (callFunc fn args).run Tryz.prog w = .ok (.enter fn args) w)
    (hp : ∀ (W : World) (x : En), Only (ownL v) w W → Calls Tryz.prog fn (#[entV x] ++ lb) W fun e w' => e = .returned (.bool (p x)) ∧ Only [] W w') :
    Calls Tryz.prog 163 #[v, .func (.func fn) #[] lb] w fun e w' => ∃ v', e = .returned v' ∧ EnRow w' v' (l.filter (fun e => !p e)) ∧ Only (ownL v) w w' ∧ Grow w.heap.size v v' := by
  rcases ERow.form hr with ⟨e1, e2⟩ | ⟨gi, cap, e1, _⟩
  · subst e1 e2
    refine (delF_nil fn lb w eg p (fun W x ho => hp W x (ho.mono (by simp)))).mono ?_
    rintro e w' ⟨rfl, ho⟩
    exact ⟨_, rfl, EnRow.nil, ho.mono (by simp), Grow.refl _ _⟩
  · subst e1
    refine (delF_row fn lb p gi l.length cap l w rfl hr eg (fun W x ho => hp W x ho)).mono ?_
    rintro e w' ⟨m, rfl, h1, h2⟩
    exact ⟨_, rfl, h1, h2, fun x hx => .inl hx⟩
end Go.Proofs.YtlkneapidmdpbaaGreatDoor
