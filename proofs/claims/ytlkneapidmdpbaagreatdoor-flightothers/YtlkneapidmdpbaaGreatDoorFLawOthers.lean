/-
  The walk of the law FlightOthers: whatever the input, it returns true, and nothing that was there has turned. Conditions: the arguments are such as any that come in; the library's variables and the tables of methods are as they are laid.
-/
import Derived.Test.YtlkneapidmdpbaaGreatDoorFAwake
import Derived.Test.YtlkneapidmdpbaaGreatDoorFAsked
import Derived.Test.YtlkneapidmdpbaaGreatDoorFMath3
import Derived.Test.YtlkneapidmdpbaaGreatDoorLAskW
import Derived.Test.YtlkneapidmdpbaaGreatDoorLAllowW
import Derived.Deep.Cut
namespace Go.Proofs.YtlkneapidmdpbaaGreatDoor
open Go.RowKit

theorem FoRow.take {w : World} {B : Nat} {A : Option Addr} {xs : List (ByteArray × ByteArray)} (h : PRow w B A xs) (k : Nat) : PRow w B A (xs.take k) := by
  intro j x hj
  rw [List.getElem?_take] at hj
  split at hj
  · exact h j x hj
  · cases hj
theorem fo_sm {xs : List (ByteArray × ByteArray)} {x : ByteArray × ByteArray} (k : Nat) (h1 : Bd (xs.map hd) 40 100 5000) (h2 : Bd ([x].map hd) 40 100 5000) : Sm (((xs.take k ++ [x]) ++ xs.drop k).map hd) := by
  have ht := congrArg List.length (List.take_append_drop k xs)
  refine ⟨?_, fun h hh => ?_⟩
  · have := h1.1
    simp only [List.length_map, List.length_append, List.length_cons, List.length_nil] at *
    omega
  · obtain ⟨y, hy, rfl⟩ := List.mem_map.1 hh
    rcases List.mem_append.1 hy with hy | hy
    · rcases List.mem_append.1 hy with hy | hy
      · have := h1.2 _ (List.mem_map_of_mem (List.mem_of_mem_take hy)); omega
      · have := h2.2 _ (List.mem_map_of_mem hy); omega
    · have := h1.2 _ (List.mem_map_of_mem (List.mem_of_mem_drop hy)); omega
/-- what holds all through: the request and the header in their blocks -/
structure OtF (w W : World) (r : Rv) (n v : ByteArray) (A : Option Addr) (xs : List (ByteArray × ByteArray)) : Prop where
  bel : Below w.heap.size w W
  env0 : Env8 w
  row0 : PRow w w.heap.size A xs
  rrow0 : PRow w w.heap.size r.A r.xs
  req : RqAt W w.heap.size r
  hdr : HdAt W (w.heap.size + 1) n v
section
variable {w W W' : World} {r : Rv} {n v : ByteArray} {A : Option Addr} {xs : List (ByteArray × ByteArray)}
theorem OtF.next (h : OtF w W r n v A xs) (hb : Below W.heap.size W W') : OtF w W' r n v A xs :=
  ⟨h.bel.trans (hb.mono h.bel.size), h.env0, h.row0, h.rrow0, h.req.below hb h.req.lt, h.hdr.below hb h.hdr.lt⟩
theorem OtF.env (h : OtF w W r n v A xs) : Env8 W := h.env0.below h.bel
theorem OtF.row (h : OtF w W r n v A xs) : PRow W w.heap.size A xs := h.row0.below h.bel
theorem OtF.rrow (h : OtF w W r n v A xs) : PRow W w.heap.size r.A r.xs := h.rrow0.below h.bel
theorem OtF.new (he : Env8 w) (hx : PRow w w.heap.size A xs) (hr : PRow w w.heap.size r.A r.xs) (t t' : TypeId) : OtF w ((w.alloc (.cells #[.string r.m, .string r.u, .string r.o, .int .i64 r.mode, .bool r.cr, .slice r.A r.n r.c, .int .i64 r.cl, .int .u64 r.tm, .int .i64 r.gr, .int .i64 r.sg] t)).alloc (.cells #[.string n, .string v] t')) r n v A xs := by
  have e : (w.alloc (.cells #[.string r.m, .string r.u, .string r.o, .int .i64 r.mode, .bool r.cr, .slice r.A r.n r.c, .int .i64 r.cl, .int .u64 r.tm, .int .i64 r.gr, .int .i64 r.sg] t)).heap.size = w.heap.size + 1 := by simp
  have h1 := RqAt.new w r t
  have h2 := HdAt.new (w.alloc (.cells #[.string r.m, .string r.u, .string r.o, .int .i64 r.mode, .bool r.cr, .slice r.A r.n r.c, .int .i64 r.cl, .int .u64 r.tm, .int .i64 r.gr, .int .i64 r.sg] t)) n v t'
  rw [e] at h2
  exact ⟨((Below.refl _ _).alloc (Nat.le_refl _) _).alloc (by rw [e]; omega) _, he, hx, hr, h1.below ((Below.refl _ _).alloc (Nat.le_refl _) _) h1.lt, h2⟩
end

set_option maxRecDepth 100000 in
set_option maxHeartbeats 8000000 in
theorem walk_FlightOthers (r : Rv) (st : Int) (a2 : Option Addr) (c2 : Nat) (xs : List (ByteArray × ByteArray)) (n v : ByteArray) (at_ : Int) (w : World) (h0 : RArg w r) (_h1 : (Lit.int .i64 st).wf = true) (h2 : HArg w a2 c2 xs) (h3 : n.size ≤ maxLen) (h4 : v.size ≤ maxLen) (h5 : (Lit.int .i64 at_).wf = true) (he : Env8 w) :
    Calls Tryz.prog 7 #[r.v, .int .i64 st, .slice a2 xs.length c2, .agg #[.string n, .string v], .int .i64 at_] w fun e w' => e = .returned (.bool true) ∧ Below w.heap.size w w' := by
  have HL0 : Hid (xs.length ≤ maxLen) := Nat.le_trans h2.2.2.1 h2.2.2.2.1
  have HLC : Hid (xs.length ≤ c2) := h2.2.2.1
  have HNN : Hid (a2 = none → c2 = 0) := h2.2.2.2.2
  have HS0 := Lib.hid h2.2.1
  have H0 := Lib.hid h0
  have H3 := Lib.hid h3
  have H4 := Lib.hid h4
  have H5 := Lib.hid h5
  obtain ⟨W0, hW0⟩ : ∃ W0, W0 = (w.alloc (.cells #[.string r.m, .string r.u, .string r.o, .int .i64 r.mode, .bool r.cr, .slice r.A r.n r.c, .int .i64 r.cl, .int .u64 r.tm, .int .i64 r.gr, .int .i64 r.sg] 25)).alloc (.cells #[.string n, .string v] 57) := ⟨_, rfl⟩
  have HP0 : Hid (OtF w W0 r n v a2 xs) := by rw [hW0]; exact OtF.new he h2.1 h0.row.1 _ _
  clear h0 _h1 h2 h3 h4 h5 he
  obtain ⟨gr, hgr⟩ : ∃ b, b = greatR r := ⟨_, rfl⟩
  have HG := Lib.hid hgr
  obtain ⟨g1, hg1⟩ : ∃ g1, greatB xs = g1 := ⟨_, rfl⟩
  have HG1 := Lib.hid hg1
  obtain ⟨g2, hg2⟩ : ∃ g2, greatB [(n, v)] = g2 := ⟨_, rfl⟩
  have HG2 := Lib.hid hg2
  obtain ⟨f1, hf1⟩ : ∃ f1, f1 = askN n.data.toList := ⟨_, rfl⟩
  have HF1 := Lib.hid hf1
  clear hgr hg1 hg2 hf1
  unfold Rv.v
  go_enter Tryz.func7, Tryz.ntmps7
  go_wp2_with fail
  rw [← hW0]
  clear hW0
  refine (GreatReq_any r _ w.heap.size HP0.out.rrow HP0.out.bel.size H0.out.len (Nat.le_trans H0.out.row.2.2.1 H0.out.row.2.2.2.1) H0.out.row.2.1).mono ?_
  rintro e w1 ⟨rfl, hb⟩
  rw [← HG.out]
  have HP1 : Hid (OtF w w1 r n v a2 xs) := HP0.out.next hb
  clear hb HP0
  cases gr
  case true =>
    go_wp2_with fail
    refine (awake17_any _ HP1.out.env).mono ?_
    rintro e w9 ⟨rfl, hb⟩
    have HBZ : Hid (Below w.heap.size w w9) := HP1.out.bel.trans (hb.mono HP1.out.bel.size)
    clear hb
    go_wp2
    go_ret
    exact ⟨rfl, HBZ.out⟩
  case false =>
  have HK := Lib.hid (H0.out.ok HG.out.symm)
  go_wp2_with fail
  refine (Great_any a2 _ c2 w.heap.size xs _ rfl HP1.out.row HL0.out (fun x hx => HS0.out x hx)).mono ?_
  rintro e w' ⟨rfl, rfl⟩
  rw [show (decide (40 < xs.length) || greatGo 0 xs) = g1 from HG1.out]
  cases g1
  case true =>
    go_wp2_with fail
    refine (awake17_any _ HP1.out.env).mono ?_
    rintro e w9 ⟨rfl, hb⟩
    have HBZ : Hid (Below w.heap.size w w9) := HP1.out.bel.trans (hb.mono HP1.out.bel.size)
    clear hb
    go_wp2
    go_ret
    exact ⟨rfl, HBZ.out⟩
  case false =>
  obtain ⟨W2, hW2⟩ : ∃ W2, W2 = w1.alloc (.cells #[.string n, .string v] 57) := ⟨_, rfl⟩
  obtain ⟨B2, hB2⟩ : ∃ B2, B2 = w1.heap.size := ⟨_, rfl⟩
  have hb2 : Below w1.heap.size w1 W2 := by rw [hW2]; exact (Below.refl _ _).alloc (Nat.le_refl _) _
  have HR2 : Hid (PRow W2 (B2 + 1) (some ⟨B2, 0, none⟩) [(n, v)]) := by show PRow _ _ _ _; rw [hW2, hB2]; exact PRow.one_at _ _ _ _ _ rfl
  have HP2 : Hid (OtF w W2 r n v a2 xs) := HP1.out.next hb2
  clear hb2
  obtain ⟨y0, y1⟩ := HP1.out.hdr
  go_wp2_with fail
  rw [← hW2, ← hB2]
  clear hW2 hB2 y0 y1
  refine (Great_any _ 1 1 (B2 + 1) [(n, v)] _ rfl HR2.out (by unfold maxLen; simp) (by intro x hx; simp at hx; subst hx; exact ⟨H3.out, H4.out⟩)).mono ?_
  rintro e w' ⟨rfl, rfl⟩
  rw [show (decide (40 < [(n, v)].length) || greatGo 0 [(n, v)]) = g2 from HG2.out]
  cases g2
  case true =>
    go_wp2_with fail
    refine (awake17_any _ HP2.out.env).mono ?_
    rintro e w9 ⟨rfl, hb⟩
    have HBZ : Hid (Below w.heap.size w w9) := HP2.out.bel.trans (hb.mono HP2.out.bel.size)
    clear hb
    go_wp2
    go_ret
    exact ⟨rfl, HBZ.out⟩
  case false =>
  have HD1 := Lib.hid (great_bd HG1.out)
  have HD2 := Lib.hid (great_bd HG2.out)
  obtain ⟨y0, y1⟩ := HP2.out.hdr
  go_wp2_with fail
  clear y0 y1
  refine (asked_any n _ H3.out).mono ?_
  rintro e w3 ⟨rfl, q3, hw3⟩
  rw [← HF1.out]
  have hb3 : Below W2.heap.size W2 w3 := by rw [hw3]; exact below_drewN (Below.refl _ _) q3
  have HP3 : Hid (OtF w w3 r n v a2 xs) := HP2.out.next hb3
  clear hw3 hb3 HP1 HP2 HR2
  cases f1
  case true =>
    go_wp2_with fail
    refine (awake17_any _ HP3.out.env).mono ?_
    rintro e w9 ⟨rfl, hb⟩
    have HBZ : Hid (Below w.heap.size w w9) := HP3.out.bel.trans (hb.mono HP3.out.bel.size)
    clear hb
    go_wp2
    go_ret
    exact ⟨rfl, HBZ.out⟩
  case false =>
  have hl40 : xs.length ≤ 40 := by have := HD1.out.1; simpa using this
  go_wp2_with fail
  refine (Low_any at_ ((xs.length : Int) + 1) _ (by omega) (by omega)).mono ?_
  rintro e w' ⟨rfl, rfl⟩
  obtain ⟨k, hk⟩ : ∃ k : Nat, lowV at_ ((xs.length : Int) + 1) = (k : Int) := ⟨(lowV at_ ((xs.length : Int) + 1)).toNat, by have := lowV_bd at_ (n := (xs.length : Int) + 1) (by omega); omega⟩
  have hkl : k ≤ xs.length := by have := lowV_bd at_ (n := (xs.length : Int) + 1) (by omega); omega
  rw [hk]
  clear hk
  have hkc : k ≤ c2 := Nat.le_trans hkl HLC.out
  go_wp2_with fail
  go_cut [12] from 17 (fun s12 W => ∃ (A8 : Option Addr) (c8 : Nat) (ys : List (ByteArray × ByteArray)), s12 = .slice A8 ys.length c8 ∧ ys.map hd = ((xs.take k ++ [(n, v)]) ++ xs.drop k).map hd ∧ PRow W W.heap.size A8 ys ∧ OtF w W r n v a2 xs)
  case first =>
    obtain ⟨A2, hA2⟩ : ∃ A2, (if c2 = k then a2 else Option.map (fun x => x.add (k * 2)) a2) = A2 := ⟨_, rfl⟩
    have HPD : Hid (∀ W, PRow W w.heap.size a2 xs → PRow W w.heap.size A2 (xs.drop k)) := by
      show ∀ _, _
      intro W h
      rw [← hA2]
      split
      · rename_i hc
        rw [List.drop_eq_nil_of_le (by have := HLC.out; omega)]
        exact PRow.nil _ _ _
      · intro j x hj
        rw [List.getElem?_drop] at hj
        obtain ⟨ad, rfl, hb, hc1, hc2⟩ := h _ _ hj
        have hbl : (ad.add (k * 2)).block = ad.block := by unfold Addr.add; split <;> rfl
        refine ⟨ad.add (k * 2), rfl, by rw [hbl]; exact hb, ?_, ?_⟩
        · rw [Addr.add_add, show k * 2 + j * 2 = (k + j) * 2 by omega]; exact hc1
        · rw [Addr.add_add, show k * 2 + j * 2 = (k + j) * 2 by omega]; exact hc2
    have HND : Hid (A2 = none → c2 - k = 0) := by
      show _ → _
      intro h
      have h1 : a2 = none := by
        rw [← hA2] at h
        split at h
        · exact h
        · simpa using h
      have := HNN.out h1
      omega
    obtain ⟨F, hF⟩ : ∃ F : World → Prop, ∀ W, F W ↔ OtF w W r n v a2 xs := ⟨_, fun _ => Iff.rfl⟩
    have y0 : ∀ p : Held F, p.w.cell? ⟨w.heap.size + 1, 0, none⟩ = some (.string n) := fun p => ((hF _).1 p.h).hdr.c0
    have y1 : ∀ p : Held F, p.w.cell? ⟨w.heap.size + 1, 1, none⟩ = some (.string v) := fun p => ((hF _).1 p.h).hdr.c1
    have HFW : Hid (∀ W, Below w3.heap.size w3 W → F W) := fun W h => (hF W).2 (HP3.out.next h)
    clear hF
    obtain ⟨wd, hwd⟩ : ∃ wd, wd = w3.drew := ⟨_, rfl⟩
    have HBD : Hid (Below w3.heap.size w3 wd) := by show Below _ _ _; rw [hwd]; exact (Below.refl _ _).drew
    have hne : Nonempty (Held F) := ⟨⟨wd, HFW.out _ HBD.out⟩⟩
    refine mix_start F (by kernel_rfl) ?_
    rw [← hwd]
    clear hwd
    refine mix_seg [0, 1, 2, 4, 7, 8, 9] (by kernel_rfl) (HFW.out _ HBD.out) ?_
    simp only [segOf, pickOps, pickOp]
    repeat (go_big_quiet_step (fail))
    refine wpQuiet_nil ?_
    refine mix_several [3, 5] (by kernel_rfl) ?_
    intro i1 hi1
    simp only [List.mem_cons, List.not_mem_nil, or_false] at hi1
    rcases hi1 with rfl | rfl
    · simp only [segOf, pickOps, pickOp]
      refine wpList_append_heads rfl (.const (.slice none 0 0)) (.tmp 41) rfl w3.heap.size (.slice none 0 0) [] rfl (HdRow.nil _ _) a2 c2 w.heap.size (xs.take k) (by simp [Act.eval, Nat.min_eq_left hkl]) (FoRow.take (HP3.out.next HBD.out).row k) HNN.out (by simp; omega) HBD.out.size ?_
      intro v4 w4 hr4 hg4
      have HR4 : Hid (HdRow w4 w3.heap.size v4 ((xs.take k).map hd)) := by rw [List.nil_append] at hr4; exact hr4
      have HBN : Hid (Below wd.heap.size wd w4) := (Below.refl _ _).grown hg4 (Nat.le_refl _) (by intro j hj; cases hj)
      have HB4 : Hid (Below w3.heap.size w3 w4) := HBD.out.trans (HBN.out.mono HBD.out.size)
      clear hr4 hg4
      go_wp2_with fail
      refine MixPost.normal (HFW.out _ HB4.out) ?_
      refine mix_run 5 (by kernel_rfl) ?_
      simp only [segOf, pickOps, pickOp]
      obtain ⟨W5, hW5⟩ : ∃ W5, W5 = w4.alloc (.cells #[.string n, .string v] 57) := ⟨_, rfl⟩
      have hb5 : Below w4.heap.size w4 W5 := by rw [hW5]; exact (Below.refl _ _).alloc (Nat.le_refl _) _
      obtain ⟨g5, hg5⟩ : ∃ g5, g5 = w4.heap.size := ⟨_, rfl⟩
      have HN5 : Hid (PRow W5 (g5 + 1) (some ⟨g5, 0, none⟩) [(n, v)]) := by show PRow _ _ _ _; rw [hW5, hg5]; exact PRow.one_at _ _ _ _ _ rfl
      have HB5 : Hid (Below w3.heap.size w3 W5) := HB4.out.trans (hb5.mono HB4.out.size)
      have HR5 : Hid (HdRow W5 w3.heap.size v4 ((xs.take k).map hd)) := HR4.out.below hb5
      clear hb5
      go_wp2_with fail
      rw [← hW5, ← hg5]
      clear hW5 hg5
      refine MixPost.normal (HFW.out _ HB5.out) ?_
      refine mix_run 6 (by kernel_rfl) ?_
      simp only [segOf, pickOps, pickOp]
      refine wpList_append_heads rfl (.tmp 42) (.tmp 44) rfl w3.heap.size v4 ((xs.take k).map hd) rfl HR5.out (some ⟨g5, 0, none⟩) 1 (g5 + 1) [(n, v)] rfl HN5.out (by intro h; cases h) (by simp; omega) HB5.out.size ?_
      intro v6 w6 hr6 hg6
      have HR6 : Hid (HdRow w6 w3.heap.size v6 ((xs.take k).map hd ++ [(n, v)].map hd)) := hr6
      have HB6 : Hid (Below w3.heap.size w3 w6) := HB5.out.grown hg6 HB5.out.size (fun j hj => (World.ownsRow.lt HR5.out j hj).1)
      clear hr6 hg6
      go_wp2_with fail
      refine MixPost.normal (HFW.out _ HB6.out) ?_
      refine mix_run 10 (by kernel_rfl) ?_
      simp only [segOf, pickOps, pickOp]
      refine wpList_append_heads rfl (.tmp 45) (.tmp 48) rfl w3.heap.size v6 ((xs.take k).map hd ++ [(n, v)].map hd) rfl HR6.out A2 (c2 - k) w.heap.size (xs.drop k) (by simp [Act.eval]) (HPD.out _ (HP3.out.next HB6.out).row) HND.out (by simp; omega) HB6.out.size ?_
      intro v7 w7 hr7 hg7
      have HB7 : Hid (Below w3.heap.size w3 w7) := HB6.out.grown hg7 HB6.out.size (fun j hj => (World.ownsRow.lt HR6.out j hj).1)
      have HR7 : Hid (HdRow w7 w3.heap.size v7 ((xs.take k).map hd ++ [(n, v)].map hd ++ (xs.drop k).map hd)) := hr7
      clear hr7 hg7
      go_wp2_with fail
      refine MixPost.normal (HFW.out _ HB7.out) ?_
      refine mix_seg [11] (by kernel_rfl) (HFW.out _ HB7.out) ?_
      simp only [segOf, pickOps, pickOp]
      repeat (go_big_quiet_step (fail))
      refine wpQuiet_nil ?_
      refine mix_done (by kernel_rfl) ?_
      obtain ⟨A8, n8, c8, ys, rfl, hn8, hys, _, hp8⟩ := HR7.out.row
      subst hn8
      go_wp2_with fail
      go_meet
      exact ⟨A8, c8, ys, rfl, by rw [hys]; simp, hp8, HP3.out.next HB7.out⟩
    · simp only [segOf, pickOps, pickOp]
      obtain ⟨W4, hW4⟩ : ∃ W4, W4 = wd.alloc (.cells #[.string n, .string v] 57) := ⟨_, rfl⟩
      have hb4 : Below wd.heap.size wd W4 := by rw [hW4]; exact (Below.refl _ _).alloc (Nat.le_refl _) _
      obtain ⟨g5, hg5⟩ : ∃ g5, g5 = wd.heap.size := ⟨_, rfl⟩
      have HN4 : Hid (PRow W4 (g5 + 1) (some ⟨g5, 0, none⟩) [(n, v)]) := by show PRow _ _ _ _; rw [hW4, hg5]; exact PRow.one_at _ _ _ _ _ rfl
      have HG4 : Hid (g5 + 1 ≤ W4.heap.size) := by show _ ≤ _; rw [hW4, hg5]; simp
      have HB4 : Hid (Below w3.heap.size w3 W4) := HBD.out.trans (hb4.mono HBD.out.size)
      clear hb4
      go_wp2_with fail
      rw [← hW4, ← hg5]
      clear hW4 hg5
      refine MixPost.normal (HFW.out _ HB4.out) ?_
      refine mix_run 3 (by kernel_rfl) ?_
      simp only [segOf, pickOps, pickOp]
      refine wpList_append_heads rfl (.const (.slice none 0 0)) (.tmp 41) rfl w3.heap.size (.slice none 0 0) [] rfl (HdRow.nil _ _) a2 c2 w.heap.size (xs.take k) (by simp [Act.eval, Nat.min_eq_left hkl]) (FoRow.take (HP3.out.next HB4.out).row k) HNN.out (by simp; omega) HB4.out.size ?_
      intro v4 w5 hr4 hg4
      have HR4 : Hid (HdRow w5 w3.heap.size v4 ((xs.take k).map hd)) := by rw [List.nil_append] at hr4; exact hr4
      have HBN : Hid (Below W4.heap.size W4 w5) := (Below.refl _ _).grown hg4 (Nat.le_refl _) (by intro j hj; cases hj)
      have HB5 : Hid (Below w3.heap.size w3 w5) := HB4.out.trans (HBN.out.mono HB4.out.size)
      have HN5 : Hid (PRow w5 (g5 + 1) (some ⟨g5, 0, none⟩) [(n, v)]) := HN4.out.below (HBN.out.mono HG4.out)
      have HR5 := HR4
      clear hr4 hg4
      go_wp2_with fail
      refine MixPost.normal (HFW.out _ HB5.out) ?_
      refine mix_run 6 (by kernel_rfl) ?_
      simp only [segOf, pickOps, pickOp]
      refine wpList_append_heads rfl (.tmp 42) (.tmp 44) rfl w3.heap.size v4 ((xs.take k).map hd) rfl HR5.out (some ⟨g5, 0, none⟩) 1 (g5 + 1) [(n, v)] rfl HN5.out (by intro h; cases h) (by simp; omega) HB5.out.size ?_
      intro v6 w6 hr6 hg6
      have HR6 : Hid (HdRow w6 w3.heap.size v6 ((xs.take k).map hd ++ [(n, v)].map hd)) := hr6
      have HB6 : Hid (Below w3.heap.size w3 w6) := HB5.out.grown hg6 HB5.out.size (fun j hj => (World.ownsRow.lt HR5.out j hj).1)
      clear hr6 hg6
      go_wp2_with fail
      refine MixPost.normal (HFW.out _ HB6.out) ?_
      refine mix_run 10 (by kernel_rfl) ?_
      simp only [segOf, pickOps, pickOp]
      refine wpList_append_heads rfl (.tmp 45) (.tmp 48) rfl w3.heap.size v6 ((xs.take k).map hd ++ [(n, v)].map hd) rfl HR6.out A2 (c2 - k) w.heap.size (xs.drop k) (by simp [Act.eval]) (HPD.out _ (HP3.out.next HB6.out).row) HND.out (by simp; omega) HB6.out.size ?_
      intro v7 w7 hr7 hg7
      have HB7 : Hid (Below w3.heap.size w3 w7) := HB6.out.grown hg7 HB6.out.size (fun j hj => (World.ownsRow.lt HR6.out j hj).1)
      have HR7 : Hid (HdRow w7 w3.heap.size v7 ((xs.take k).map hd ++ [(n, v)].map hd ++ (xs.drop k).map hd)) := hr7
      clear hr7 hg7
      go_wp2_with fail
      refine MixPost.normal (HFW.out _ HB7.out) ?_
      refine mix_seg [11] (by kernel_rfl) (HFW.out _ HB7.out) ?_
      simp only [segOf, pickOps, pickOp]
      repeat (go_big_quiet_step (fail))
      refine wpQuiet_nil ?_
      refine mix_done (by kernel_rfl) ?_
      obtain ⟨A8, n8, c8, ys, rfl, hn8, hys, _, hp8⟩ := HR7.out.row
      subst hn8
      go_wp2_with fail
      go_meet
      exact ⟨A8, c8, ys, rfl, by rw [hys]; simp, hp8, HP3.out.next HB7.out⟩
  case rest =>
  obtain ⟨A8, c8, ys, rfl, hys, hp8, ho⟩ := hcut
  have HP8 := Lib.hid hp8
  have HP5 : Hid (OtF w wc r n v a2 xs) := ho
  have HSM8 : Hid (Sm (ys.map hd)) := by show Sm _; rw [hys]; exact fo_sm k HD1.out HD2.out
  have HSM : Hid (Sm (xs.map hd)) := HD1.out.sm (by omega) (by omega) (by omega)
  obtain ⟨J, hJ⟩ : ∃ K, judgeI r.q st (xs.map hd) = K := ⟨_, rfl⟩
  obtain ⟨z, hz⟩ : ∃ K, judgeA r.q st (xs.map hd) = K := ⟨_, rfl⟩
  have hjp := judge_put r.q st (xs.map hd) (hd (n, v)) k (askN_no HF1.out.symm).1 (askN_no HF1.out.symm).2.1 (askN_no HF1.out.symm).2.2.1 (askN_no HF1.out.symm).2.2.2.1 (askN_no HF1.out.symm).2.2.2.2
  have hys2 : ys.map hd = (xs.map hd).take k ++ [hd (n, v)] ++ (xs.map hd).drop k := by rw [hys, List.map_append, List.map_append, List.map_take, List.map_drop]; rfl
  have HJ8 : Hid (judgeI r.q st (ys.map hd) = J) := by show _ = _; rw [hys2, hjp.1]; exact hJ
  have HZ8 : Hid (judgeA r.q st (ys.map hd) = z) := by show _ = _; rw [hys2, hjp.2]; exact hz
  have HJ := Lib.hid hJ
  have HZ := Lib.hid hz
  clear hp8 hys hys2 hJ hz ho hjp HP3
  obtain ⟨r0, r1, r2, r3, r4, r5, r6, r7, r8, r9⟩ := HP5.out.req
  go_wp2_with fail
  clear r0 r1 r2 r3 r4 r5 r6 r7 r8 r9
  refine (fJudge_any r st a2 _ c2 w.heap.size xs _ (HK.out.below HP5.out.bel) HP5.out.env rfl HP5.out.bel.size HP5.out.row HSM.out).mono ?_
  rintro e w6 ⟨a, rfl, ha, hb⟩
  rw [HJ.out]
  rw [HZ.out] at ha
  have HP6 : Hid (OtF w w6 r n v a2 xs) := HP5.out.next hb
  have HY6 : Hid (PRow w6 w6.heap.size A8 ys) := (HP8.out.below hb).mono hb.size
  obtain ⟨A1, n1, d1, A2, n2, d2, ag⟩ := a
  obtain ⟨w7, hw7⟩ : ∃ W, W = w6.alloc (Obj.cells #[.slice A1 n1 d1, .slice A2 n2 d2, .int .u64 ag] 28) := ⟨_, rfl⟩
  obtain ⟨g7, hg7⟩ : ∃ g, g = w6.heap.size := ⟨_, rfl⟩
  have hb7 : Below w6.heap.size w6 w7 := by rw [hw7]; exact (Below.refl _ _).alloc (Nat.le_refl _) _
  have HP7 : Hid (OtF w w7 r n v a2 xs) := HP6.out.next hb7
  have HY7 : Hid (PRow w7 w7.heap.size A8 ys) := (HY6.out.below hb7).mono hb7.size
  have HA7 : Hid (AvIs w7 ⟨A1, n1, d1, A2, n2, d2, ag⟩ z) := ha.below hb7
  have HL7 : Hid (AlAt w7 g7 ⟨A1, n1, d1, A2, n2, d2, ag⟩) := by show AlAt _ _ _; rw [hw7, hg7]; exact AlAt.new w6 ⟨A1, n1, d1, A2, n2, d2, ag⟩ _
  clear hb hb7 ha HP6 HY6
  simp only [Av.v]
  go_upto_region 6 with fail
  rw [← hw7, ← hg7]
  clear hw7 hg7
  obtain ⟨r0, r1, r2, r3, r4, r5, r6, r7, r8, r9⟩ := HP7.out.req
  go_wp2_with fail
  clear r0 r1 r2 r3 r4 r5 r6 r7 r8 r9
  refine (fJudge_any r st A8 _ c8 _ ys _ (HK.out.below HP7.out.bel) HP7.out.env rfl (Nat.le_refl _) HY7.out HSM8.out).mono ?_
  rintro e w8 ⟨b, rfl, hb0, hb⟩
  rw [HJ8.out]
  rw [HZ8.out] at hb0
  have HP8b : Hid (OtF w w8 r n v a2 xs) := HP7.out.next hb
  have HA8 : Hid (AvIs w8 ⟨A1, n1, d1, A2, n2, d2, ag⟩ z) := HA7.out.below hb
  have HL8 := Lib.hid (HL7.out.up hb)
  obtain ⟨B1, m1, e1, B2, m2, e2, bg⟩ := b
  obtain ⟨w9, hw9⟩ : ∃ W, W = w8.alloc (Obj.cells #[.slice B1 m1 e1, .slice B2 m2 e2, .int .u64 bg] 28) := ⟨_, rfl⟩
  obtain ⟨g9, hg9⟩ : ∃ g, g = w8.heap.size := ⟨_, rfl⟩
  have hb9 : Below w8.heap.size w8 w9 := by rw [hw9]; exact (Below.refl _ _).alloc (Nat.le_refl _) _
  have HP9b : Hid (OtF w w9 r n v a2 xs) := HP8b.out.next hb9
  have HA9 : Hid (AvIs w9 ⟨A1, n1, d1, A2, n2, d2, ag⟩ z) := HA8.out.below hb9
  have HL9 := Lib.hid (HL8.out.up hb9)
  have HB9 : Hid (AvIs w9 ⟨B1, m1, e1, B2, m2, e2, bg⟩ z) := hb0.below hb9
  have HM9 : Hid (AlAt w9 g9 ⟨B1, m1, e1, B2, m2, e2, bg⟩) := by show AlAt _ _ _; rw [hw9, hg9]; exact AlAt.new w8 ⟨B1, m1, e1, B2, m2, e2, bg⟩ _
  clear hb hb9 hb0 HP8b HA8 HL8 HP7 HA7 HL7 HY7
  simp only [Av.v]
  go_upto_region 7 with fail
  rw [← hw9, ← hg9]
  clear hw9 hg9
  obtain ⟨p0, p1, p2, _⟩ := HL9.out
  obtain ⟨q0, q1, q2, _⟩ := HM9.out
  dsimp only at p0 p1 p2 q0 q1 q2
  go_wp2_with fail
  clear p0 p1 p2 q0 q1 q2
  refine (Allow_same ⟨A1, n1, d1, A2, n2, d2, ag⟩ ⟨B1, m1, e1, B2, m2, e2, bg⟩ z _ HA9.out HB9.out).mono ?_
  rintro e w10 ⟨rfl, hb⟩
  have HP9 : Hid (OtF w w10 r n v a2 xs) := HP9b.out.next hb
  clear hb
  go_wp2_with fail
  refine (awake17_any _ HP9.out.env).mono ?_
  rintro e w11 ⟨rfl, hb⟩
  have HBZ : Hid (Below w.heap.size w w11) := HP9.out.bel.trans (hb.mono HP9.out.bel.size)
  clear hb
  go_wp2
  go_ret
  exact ⟨rfl, HBZ.out⟩
end Go.Proofs.YtlkneapidmdpbaaGreatDoor
