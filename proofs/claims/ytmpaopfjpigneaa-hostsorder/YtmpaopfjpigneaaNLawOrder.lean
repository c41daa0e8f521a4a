/-
  The walk of the law HostsOrder: it returns true, and nothing that was there has turned. Conditions: the numbers lie where the slice says.
-/
import Derived.Test.YtmpaopfjpigneaaNOrder
import Derived.Test.YtmpaopfjpigneaaKTexts
import Derived.Test.YtmpaopfjpigneaaKLow
import Derived.Test.YtmpaopfjpigneaaKByte
namespace Go.Proofs.Ytmpaopfjpigneaa
open Go.RowKit

/-- a table, and a row of texts beside it -/
structure OrdAt (w W : World) (g : Nat) (v uv : Value) (l : List Ho) (ts : List ByteArray) : Prop where
  t : TbNew w W g 32 v l
  r : TOwn W w.heap.size uv ts
  d : ∀ x ∈ ownL uv, x ∉ g :: ownL v
section
variable {w W : World} {g : Nat} {v uv : Value} {l : List Ho} {ts : List ByteArray}
theorem OrdAt.step {W' : World} {v' : Value} {l' : List Ho} (h : OrdAt w W g v uv l ts) (t : TbAt 57 W' g 32 v' l') (o : Only (g :: ownL v) W W') (hv : ∀ x ∈ ownL v', x ∈ ownL v ∨ W.heap.size ≤ x) : OrdAt w W' g v' uv l' ts :=
  ⟨h.t.step t o hv, h.r.only o h.d, fun x hx hm => by
    rcases List.mem_cons.1 hm with h1 | h1
    · exact h.d x hx (by rw [h1]; exact List.mem_cons_self)
    · rcases hv x h1 with h2 | h2
      · exact h.d x hx (List.mem_cons_of_mem _ h2)
      · have := (h.r.own hx).2; omega⟩
theorem OrdAt.old {W' : World} (h : OrdAt w W g v uv l ts) (o : Only [] W W') : OrdAt w W' g v uv l ts := h.step (h.t.t.old o) (o.mono (by simp)) (fun x hx => .inl hx)
theorem oUse_any (key : ByteArray) (h : OrdAt w W g v uv l ts) :
    Calls Try.prog 14 #[.pointer (some ⟨g, 0, none⟩), .string key] W fun e W' => e = .returned (.tuple #[.string (useG 32 l key), .int .i64 (useC 32 l key : Int)]) ∧ ∃ v', OrdAt w W' g v' uv (useS 32 l key) ts :=
  (hUse_any g 32 v l key W h.t.t).mono fun _ _ ⟨e, v', t, o, hv⟩ => ⟨e, v', h.step t o hv⟩
theorem oFree_any (key : ByteArray) (h : OrdAt w W g v uv l ts) :
    Calls Try.prog 12 #[.pointer (some ⟨g, 0, none⟩), .string key] W fun e W' => e = .returned (.int .i64 (freeC l key : Int)) ∧ OrdAt w W' g v uv (freeS l key) ts :=
  (hFree_any g 32 v l key W h.t.t).mono fun _ _ ⟨e, t, o⟩ => ⟨e, h.step t (o.mono (fun _ hx => List.mem_cons_of_mem _ hx)) (fun _ hx => .inl hx)⟩
theorem oUsed_any (key : ByteArray) (h : OrdAt w W g v uv l ts) :
    Calls Try.prog 19 #[.pointer (some ⟨g, 0, none⟩), .string key] W fun e W' => e = .returned (.int .i64 (usedC l key : Int)) ∧ OrdAt w W' g v uv l ts :=
  (hUsed_any g 32 v l key W h.t.t).mono fun _ _ ⟨e, o⟩ => ⟨e, h.old o⟩
end
theorem TOwn.base {w : World} {b b' : Nat} {v : Value} {l : List ByteArray} (h : TOwn w b v l) (hb : b' ≤ b) : TOwn w b' v l := by
  refine ⟨h.1, ?_⟩
  rcases h.2 with h2 | ⟨g, cap, cur, e1, e2, e3⟩
  · exact .inl h2
  · exact .inr ⟨g, cap, cur, e1, Nat.le_trans hb e2, e3⟩
theorem ownL_len {A : Option Addr} {n m c c' z : Nat} (h : z ∈ ownL (.slice A n c)) : z ∈ ownL (.slice A m c') := by
  cases A <;> exact h
theorem ltr_data (b : Nat) (hb : b < 26) : (UInt8.ofNat (97 + b)).toNat = 97 + b := by simp; omega
/-- a letter, made of one byte -/
theorem conv_ltr (w : World) (b : Nat) (hb : b < 26) : (convert 44 9 (.slice (some ⟨w.heap.size, 0, none⟩) 1 1)).run Try.prog (w.alloc (.cells #[.int .u8 (97 + (b : Int))] 5)) = .ok (.string (ltr b)) (w.alloc (.cells #[.int .u8 (97 + (b : Int))] 5)) :=
  run_convert_bytes_back (w.alloc (.cells #[.int .u8 (97 + (b : Int))] 5)) 44 9 5 ⟨w.heap.size, 0, none⟩ 1 [UInt8.ofNat (97 + b)] Try.underlying44 Try.underlying5 Try.underlying9 (fun j hj => by
    obtain rfl : j = 0 := by simpa using hj
    rw [List.getElem_cons_zero, ltr_data b hb]
    simp [Addr.add])

set_option maxRecDepth 20000 in
set_option maxHeartbeats 800000 in
theorem walk_HostsOrder (a0 : Option Addr) (c0 : Nat) (x0 : List Int) (w : World) (h0 : IArg .i64 w a0 c0 x0) :
    Calls Try.prog 6 #[.slice a0 x0.length c0] w fun e w' => e = .returned (.bool true) ∧ Below w.heap.size w w' := by
  have H0 := Lib.hid h0
  have hl0 := h0.2.2.1
  have hm0 := h0.2.2.2
  unfold maxLen at hm0
  clear h0
  by_cases hb1 : 200 < x0.length
  · go_enter Try.func6, Try.ntmps6
    go_wp2_with fail
    refine (awake12_any _).mono ?_
    rintro e w' ⟨rfl, hb⟩
    go_wp2
    go_ret
    exact ⟨rfl, hb⟩
  go_enter Try.func6, Try.ntmps6
  go_wp2_with fail
  refine (hNew_any 32 w).mono ?_
  rintro e w1 ⟨rfl, ht1, ho1, _⟩
  obtain ⟨g, hg⟩ : ∃ g, g = w.heap.size := ⟨_, rfl⟩
  have N1 := TbNew.new (Below.refl _ w) ht1 ho1
  rw [show clampT 32 = 32 by rfl, ← hg] at N1
  rw [← hg]
  have HX1 : Hid (OrdAt w w1 g (.slice none 0 0) (.slice none 0 0) (zeros []) ([].map ltr)) := ⟨N1, TOwn.nil _ _, by intro x hx; simp [ownL, Value.ownBlock] at hx⟩
  clear ht1 ho1 hg N1
  go_wp2_with fail
  go_loopw [4, 5] (fun s i wr => ∃ (k : Nat) (ks : List Nat) (v : Value), k ≤ x0.length ∧ i = .int .i64 k ∧ Ltrs ks ∧ OrdAt w wr g v s (zeros ks) (ks.map ltr)) (fun _ i _ => x0.length - (intOf i).toNat)
  case atStart => exact ⟨0, [], _, by omega, rfl, Ltrs.nil, HX1.out⟩
  case round =>
    obtain ⟨k, ks, v, hk, rfl, hks, hx⟩ := hrel
    have HX := Lib.hid hx
    have HKS := Lib.hid hks
    clear hx hks HX1
    by_cases hlt : k < x0.length
    · obtain ⟨ad, e1, hB, hc0⟩ := H0.out.1 k x0[k] (List.getElem?_eq_getElem hlt)
      have hf0 := (HX.out.t.b.cell (p := ad.add k) (by rw [block_add]; exact hB)).trans hc0
      obtain ⟨xo, hxo⟩ : ∃ xo, xo = x0[k] := ⟨_, rfl⟩
      rw [← hxo] at hf0
      clear hc0 hxo hB
      subst e1
      obtain ⟨b, hb⟩ : ∃ b : Nat, lowV xo 26 = (b : Int) := ⟨(lowV xo 26).toNat, by have := lowV_bd xo (n := 26) (by omega); omega⟩
      have hb26 : b < 26 := by have := lowV_bd xo (n := 26) (by omega); omega
      have HQ := Lib.hid hb
      clear hb
      go_wp2_with fail
      refine (Low_any xo 26 wr (by omega) (by omega)).mono ?_
      rintro e w' ⟨rfl, rfl⟩
      rw [HQ.out]
      clear hf0
      have hcv := conv_ltr wr b hb26
      obtain ⟨W1, hW1⟩ : ∃ W1, W1 = wr.alloc (.cells #[.int .u8 (97 + (b : Int))] 5) := ⟨_, rfl⟩
      have HX1 : Hid (OrdAt w W1 g v u4 (zeros ks) (ks.map ltr)) := by show OrdAt _ _ _ _ _ _ _; rw [hW1]; exact HX.out.old ((Only.refl _ _).alloc _)
      have HU := Lib.hid (order_use HKS.out hb26)
      have HS1 := Lib.hid (order_used HKS.out hb26 1)
      have HF := Lib.hid (order_free HKS.out hb26)
      have HS0 := Lib.hid (order_used0 HKS.out hb26)
      have HNX := Lib.hid (HKS.out.next hb26)
      obtain ⟨X, hX⟩ : ∃ X, X = ltr b := ⟨_, rfl⟩
      rw [← hX] at hcv HU HS1 HF HS0
      have HXE := Lib.hid hX
      clear hX
      go_wp2_with fail
      rw [← hW1]
      clear hW1 hcv
      refine (oUse_any X HX1.out).mono ?_
      rintro e w2 ⟨rfl, v2, h2⟩
      rw [HU.out.1, HU.out.2.1]
      rw [HU.out.2.2] at h2
      have HX2 := Lib.hid h2
      clear h2
      go_wp2_with fail
      refine (oUsed_any X HX2.out).mono ?_
      rintro e w3 ⟨rfl, h3⟩
      rw [HS1.out]
      have HX3 := Lib.hid h3
      clear h3
      go_wp2_with fail
      refine (oFree_any X HX3.out).mono ?_
      rintro e w4 ⟨rfl, h4⟩
      rw [HF.out.1]
      rw [HF.out.2] at h4
      have HX4 := Lib.hid h4
      clear h4
      go_wp2_with fail
      refine (oUsed_any X HX4.out).mono ?_
      rintro e w5 ⟨rfl, h5⟩
      rw [HS0.out]
      have HX5 := Lib.hid h5
      clear h5
      obtain ⟨A2, cap2, e2, hl2, hm2, _⟩ := HX5.out.r.view
      rw [List.length_map] at e2 hl2
      unfold maxLen at hm2
      subst e2
      go_wp2_with fail
      go_loopw [9, 10] (fun r i wr => ∃ j : Nat, j ≤ ks.length ∧ i = .int .i64 j ∧ TOwn wr w5.heap.size r ((less b (ks.take j)).map ltr) ∧ Only [] w5 wr) (fun _ i _ => ks.length - (intOf i).toNat)
      case atStart => exact ⟨0, by omega, rfl, by rw [List.take_zero]; exact TOwn.nil _ _, Only.refl _ _⟩
      case round =>
        obtain ⟨j, hj, rfl, hr, ho⟩ := hrel
        have HR := Lib.hid hr
        have HO := Lib.hid ho
        clear hr ho
        obtain ⟨A3, cap3, e3, _⟩ := HR.out.view
        subst e3
        have HLL : Hid (((less b (ks.take j)).map ltr).length ≤ 26) := by
          show _ ≤ _
          rw [List.length_map]
          exact Nat.le_trans (List.length_filter_le _ _) (Nat.le_trans (by rw [List.length_take]; omega) HKS.out.len)
        by_cases hjl : j < ks.length
        · have HWR := Lib.hid (HX5.out.r.only HO.out (by simp))
          obtain ⟨A4, cap4, e4, _, _, hs4⟩ := HWR.out.view
          rw [List.length_map] at e4
          obtain ⟨rfl, rfl⟩ : A2 = A4 ∧ cap2 = cap4 := by
            injection e4 with q1 q2 q3
            exact ⟨q1, q3⟩
          obtain ⟨ad2, rfl, hab, hcell⟩ := hs4 j (ltr ks[j]) (by rw [List.getElem?_map, List.getElem?_eq_getElem hjl]; rfl)
          have HLT := Lib.hid (less_take hjl b)
          obtain ⟨y, hy⟩ : ∃ y, y = ks[j] := ⟨_, rfl⟩
          rw [← hy] at hcell HLT
          have HY : Hid (y < 26) := by show _ < _; rw [hy]; exact HKS.out.lt _ (List.getElem_mem _)
          clear hs4 e4 hy hab
          obtain ⟨Y, hY⟩ : ∃ Y, Y = ltr y := ⟨_, rfl⟩
          rw [← hY] at hcell
          have HYE := Lib.hid hY
          clear hY
          by_cases hyb : y = b
          · have hbe : (Y.toList == X.toList) = true := by rw [HYE.out, HXE.out, hyb]; simp
            rw [if_pos hyb, List.append_nil] at HLT
            clear hyb
            go_wp2
            go_roundw
            case rel => exact ⟨j + 1, by omega, by go_num, by rw [HLT.out]; exact HR.out, HO.out⟩
            case measure => simp [intOf]; omega
          · have hbe : (Y.toList == X.toList) = false := by
              rw [HYE.out, HXE.out]
              exact (keyB_no (k := ltr b) (h := ((ltr y, 0) : Ho))).2 (fun h => hyb (ltr_inj HY.out hb26 h))
            rw [if_neg hyb] at HLT
            have hbi : ¬ Y = X := by intro h; rw [h] at hbe; simp at hbe
            have HO6 : Hid (Only [] wr (wr.alloc (.cells #[.string Y] 9))) := (Only.refl _ _).alloc _
            have HN6 : Hid ((wr.alloc (.cells #[.string Y] 9)).cell? ⟨wr.heap.size, 0, none⟩ = some (.string Y)) := by show _ = _; simp
            have HR6 := Lib.hid (HR.out.only HO6.out (by simp))
            clear hyb hbi
            go_wp2_with (at_builtin; refine wpList_append_text1 rfl (.tmp 75) (.tmp 80) rfl w5.heap.size _ _ rfl HR6.out wr.heap.size Y rfl HN6.out (by have := HLL.out; omega) (by have := HO.out.size; have := HO6.out.size; omega) ?_)
            intro v7 w7 hr7 ho7
            have HO7 : Hid (Only [] w5 w7) := (HO.out.trans HO6.out).next ho7.out (fun z hz => .inr (HR.out.own (ownL_len hz)).1)
            have HR7 : Hid (TOwn w7 w5.heap.size v7 ((less b (ks.take (j + 1))).map ltr)) := by show TOwn _ _ _ _; rw [HLT.out, List.map_append, List.map_cons, List.map_nil, ← HYE.out]; exact hr7.out
            clear hr7 ho7
            obtain ⟨A5, cap5, e5, _⟩ := HR7.out.view
            subst e5
            go_wp2
            go_roundw
            case rel => exact ⟨j + 1, by omega, by go_num, HR7.out, HO7.out⟩
            case measure => simp [intOf]; omega
        · obtain rfl : j = ks.length := by omega
          have HO6 : Hid (Only [] wr (wr.alloc (.cells #[.string X] 9))) := (Only.refl _ _).alloc _
          have HN6 : Hid ((wr.alloc (.cells #[.string X] 9)).cell? ⟨wr.heap.size, 0, none⟩ = some (.string X)) := by show _ = _; simp
          have HR6 := Lib.hid (HR.out.only HO6.out (by simp))
          go_wp2_with (at_builtin; refine wpList_append_text1 rfl (.tmp 82) (.tmp 84) rfl w5.heap.size _ _ rfl HR6.out wr.heap.size X rfl HN6.out (by have := HLL.out; omega) (by have := HO.out.size; have := HO6.out.size; omega) ?_)
          intro v7 w7 hr7 ho7
          have HO7 : Hid (Only [] w5 w7) := (HO.out.trans HO6.out).next ho7.out (fun z hz => .inr (HR.out.own (ownL_len hz)).1)
          have HR7 : Hid (TOwn w7 w5.heap.size v7 ((less b ks ++ [b]).map ltr)) := by
            show TOwn _ _ _ _
            rw [List.map_append, List.map_cons, List.map_nil, ← HXE.out]
            have h1 := hr7.out
            exact h1
          have HX7 : Hid (OrdAt w w7 g v2 v7 (zeros (less b ks ++ [b])) ((less b ks ++ [b]).map ltr)) := by
            refine ⟨HX5.out.t.old HO7.out, HR7.out.base HX5.out.t.b.size, fun z hz hm => ?_⟩
            have h1 := (HR7.out.own hz).1
            rcases List.mem_cons.1 hm with h2 | h2
            · have := HX5.out.t.t.head.lt; omega
            · have := (HX5.out.t.t.own h2).2; omega
          clear hr7 ho7
          obtain ⟨A5, cap5, e5, _⟩ := HR7.out.view
          subst e5
          go_wp2
          go_roundw
          case rel => exact ⟨k + 1, _, v2, by omega, by go_num, HNX.out, HX7.out⟩
          case measure => simp [intOf]; omega
    · obtain rfl : k = x0.length := by omega
      have HKY : Hid (keysL (zeros ks) = ks.map ltr) := order_keys ks
      have HKL : Hid ((ks.map ltr).length ≤ 26) := by show _ ≤ _; rw [List.length_map]; exact HKS.out.len
      obtain ⟨ts, hts⟩ : ∃ ts, ts = ks.map ltr := ⟨_, rfl⟩
      rw [← hts] at HX HKL HKY
      clear hts
      obtain ⟨A2, cap2, e2, _, _, hs2⟩ := HX.out.r.view
      subst e2
      go_wp2_with fail
      refine (hKeys_any g 32 v (zeros ks) wr HX.out.t.t).mono ?_
      rintro e w2 ⟨u, rfl, hr2, ho2⟩
      rw [HKY.out] at hr2
      obtain ⟨A3, cap3, e3, _, _, hs3⟩ := hr2.view
      subst e3
      have HX2 := Lib.hid (HX.out.old ho2)
      obtain ⟨A4, cap4, e4, _, _, hs4⟩ := HX2.out.r.view
      obtain ⟨rfl, rfl⟩ : A2 = A4 ∧ cap2 = cap4 := by
        injection e4 with q1 q2 q3
        exact ⟨q1, q3⟩
      have HS3 := Lib.hid hs3
      have HS4 := Lib.hid hs4
      clear hr2 ho2 hs2 hs3 hs4 e4
      go_wp2_with fail
      refine (Texts_any A3 A2 ts.length ts.length cap3 cap2 _ _ ts ts true w2 rfl rfl (by have := HKL.out; unfold maxLen; omega) HS3.out HS4.out (by simp)).mono ?_
      rintro e w3 ⟨rfl, n3, h3⟩
      have HB3 : Hid (Below w.heap.size w w3) := by show Below _ _ _; rw [h3]; exact (HX2.out.old ((Only.refl _ _).drewN _)).t.b
      clear h3
      go_wp2_with fail
      refine (awake12_any _).mono ?_
      rintro e w' ⟨rfl, hb⟩
      have HE := Lib.hid (HB3.out.trans (hb.mono HB3.out.size))
      clear hb
      go_wp2
      go_ret
      exact ⟨rfl, HE.out⟩
end Go.Proofs.Ytmpaopfjpigneaa
