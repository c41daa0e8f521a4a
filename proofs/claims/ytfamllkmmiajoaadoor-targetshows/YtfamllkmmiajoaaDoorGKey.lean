/-
  Contracts of origin's Check, Key and Show, over this seat's program: each returns what the plain mathematics says, and nothing that was there has turned. Conditions: the texts' sizes are such as any text's; the library's variables are as they are laid.
-/
import Derived.Test.YtfamllkmmiajoaaDoorGSmall
namespace Go.Proofs.YtfamllkmmiajoaaDoor
open Go.RowKit

/-- block g holds an origin -/
structure OrgAt (W : World) (g : Nat) (s h : ByteArray) (p : Int) : Prop where
  c0 : W.cell? ⟨g, 0, none⟩ = some (.string s)
  c1 : W.cell? ⟨g, 1, none⟩ = some (.string h)
  c2 : W.cell? ⟨g, 2, none⟩ = some (.int .i64 p)
theorem OrgAt.below {W W' : World} {g B : Nat} {s h : ByteArray} {p : Int} (o : OrgAt W g s h p) (hb : Below B W W') (hg : g < B) : OrgAt W' g s h p :=
  ⟨(hb.cell hg).trans o.c0, (hb.cell hg).trans o.c1, (hb.cell hg).trans o.c2⟩
theorem OrgAt.new (w : World) (s h : ByteArray) (p : Int) (t : TypeId) : OrgAt (w.alloc (.cells #[.string s, .string h, .int .i64 p] t)) w.heap.size s h p :=
  ⟨by simp, by simp, by simp⟩
theorem OrgAt.drew {W : World} {g : Nat} {s h : ByteArray} {p : Int} (o : OrgAt W g s h p) : OrgAt W.drew g s h p := ⟨o.c0, o.c1, o.c2⟩
theorem OrgAt.lt {W : World} {g : Nat} {s h : ByteArray} {p : Int} (o : OrgAt W g s h p) : g < W.heap.size := block_of_cell o.c0

theorem dec_num (n : Nat) : n ≤ Lk.M64 → Lib.decDigits n = numL n := by
  induction n using Nat.strongRecOn with
  | _ n ih =>
    intro hm
    rw [Lib.decDigits]
    by_cases h : n < 10
    · rw [dif_pos h, numL_small (by omega)]
    · rw [dif_neg h, ih (n / 10) (by omega) (by unfold Lk.M64 at *; omega), numL_big (n := n) (by omega) (by unfold Lk.M64 at hm; omega)]
theorem itoa_num {p : Int} (h0 : 0 ≤ p) (h1 : p ≤ 65535) : Lib.itoa p = numL p.toNat := by
  rw [Lib.itoa, if_neg (by omega), dec_num _ (by unfold Lk.M64; omega)]

set_option maxHeartbeats 1000000 in
theorem Check_any (s h : ByteArray) (p : Int) (w : World) (hh : h.size ≤ maxLen) :
    Calls Tryd.prog 40 #[.agg #[.string s, .string h, .int .i64 p]] w fun e w' => e = .returned (.bool (checkL s.data.toList h.data.toList p)) ∧ Below w.heap.size w w' := by
  obtain ⟨d, hd⟩ : ∃ d, d = defL s.data.toList := ⟨_, rfl⟩
  have HE : Hid (checkL s.data.toList h.data.toList p = ((d != 0) && hostL h.data.toList && decide (1 ≤ p) && decide (p ≤ 65535))) := by show _ = _; rw [hd]; rfl
  have HD := Lib.hid hd
  clear hd
  have hb : Below w.heap.size w (w.alloc (.cells #[.string s, .string h, .int .i64 p] 25)) := (Below.refl _ _).alloc (Nat.le_refl _) _
  have HB := Lib.hid hb
  clear hb
  cases h0 : (d != 0)
  · have H0 := Lib.hid h0
    go_enter Tryd.func40, Tryd.ntmps40
    go_wp2_with fail
    refine (Default_any _ _).mono ?_
    rintro e w' ⟨rfl, rfl⟩
    rw [← HD.out]
    go_wp2
    go_ret
    exact ⟨ret_bool (by rw [HE.out, H0.out]; rfl), HB.out⟩
  have H0 := Lib.hid h0
  cases h1 : hostL h.data.toList
  · have H1 := Lib.hid h1
    clear h1
    go_enter Tryd.func40, Tryd.ntmps40
    go_wp2_with fail
    refine (Default_any _ _).mono ?_
    rintro e w' ⟨rfl, rfl⟩
    rw [← HD.out]
    go_wp2_with fail
    refine (isHost_any _ _ hh).mono ?_
    rintro e w' ⟨rfl, n, rfl⟩
    rw [H1.out]
    go_wp2
    go_ret
    exact ⟨ret_bool (by rw [HE.out, H0.out, H1.out]; rfl), below_drewN HB.out n⟩
  · have H1 := Lib.hid h1
    clear h1
    go_enter Tryd.func40, Tryd.ntmps40
    go_wp2_with fail
    refine (Default_any _ _).mono ?_
    rintro e w' ⟨rfl, rfl⟩
    rw [← HD.out]
    go_wp2_with fail
    refine (isHost_any _ _ hh).mono ?_
    rintro e w' ⟨rfl, n, rfl⟩
    rw [H1.out]
    go_wp2
    all_goals
      go_ret
      refine ⟨ret_bool ?_, below_drewN HB.out n⟩
      rw [HE.out, H0.out, H1.out]
      simp
      try omega

theorem key_mk {s h : ByteArray} {p : Int} (hc : checkL s.data.toList h.data.toList p = true) :
    s ++ ByteArray.mk #[58, 47, 47] ++ h ++ ByteArray.mk #[58] ++ ByteArray.mk (Lib.itoa p).toArray = mk (keyL s.data.toList h.data.toList p) := by
  obtain ⟨_, _, h3, h4⟩ := check_parts hc
  rw [key_eq hc, itoa_num (by omega) h4]
  show s ++ mk [58, 47, 47] ++ h ++ mk [58] ++ mk (numL p.toNat) = _
  conv => lhs; rw [← mk_eq s, ← mk_eq h]
  rw [mk_append, mk_append, mk_append, mk_append]
theorem bare_mk (s h : ByteArray) : s ++ ByteArray.mk #[58, 47, 47] ++ h = mk (s.data.toList ++ [58, 47, 47] ++ h.data.toList) := by
  show s ++ mk [58, 47, 47] ++ h = _
  conv => lhs; rw [← mk_eq s, ← mk_eq h]
  rw [mk_append, mk_append]
theorem check_sizes {s h : ByteArray} {p : Int} (hc : checkL s.data.toList h.data.toList p = true) : s.size ≤ 5 ∧ h.size ≤ 253 := by
  obtain ⟨h1, h2, _, _⟩ := check_parts hc
  have a := (scheme_small h1).2
  have b := host_len h2
  simp at a b
  exact ⟨a, b⟩
theorem below_grow (w : World) (k : Nat) (os : Array Obj) : Below w.heap.size w (Sort.grow (w.drewN k) os) :=
  ⟨rfl, rfl, rfl, by show w.heap.size ≤ (w.heap ++ os).size; rw [Array.size_append]; omega, fun j hj => by
    show (w.heap ++ os)[j]? = _
    rw [Array.getElem?_append_left hj]⟩
theorem Itoa_any (p : Int) (w : World) (t : ByteArray) (ht : t = ⟨(Lib.itoa p).toArray⟩) (h0 : 0 ≤ p) (h1 : p ≤ 65535) (he : Env w) :
    Calls Tryd.prog 76 #[.int .i64 p] w fun e w' => e = .returned (.string t) ∧ Below w.heap.size w w' :=
  by rw [ht]; exact (Tryd.strconv_Itoa p (by omega) (by omega) w he.tab).mono fun _ _ ⟨a, k, os, b⟩ => ⟨a, by rw [b]; exact below_grow w k os⟩

set_option maxHeartbeats 2000000 in
theorem Key_any (s h : ByteArray) (p : Int) (w : World) (hh : h.size ≤ maxLen) (he : Env w) :
    Calls Tryd.prog 62 #[.agg #[.string s, .string h, .int .i64 p]] w fun e w' => e = .returned (.string (mk (keyL s.data.toList h.data.toList p))) ∧ Below w.heap.size w w' := by
  have hb : Below w.heap.size w (w.alloc (.cells #[.string s, .string h, .int .i64 p] 25)) := (Below.refl _ _).alloc (Nat.le_refl _) _
  have HB := Lib.hid hb
  clear hb
  have HE := Lib.hid he
  clear he
  cases hc : checkL s.data.toList h.data.toList p
  · have HC := Lib.hid hc
    clear hc
    go_enter Tryd.func62, Tryd.ntmps62
    go_wp2_with fail
    refine (Check_any _ _ _ _ hh).mono ?_
    rintro e w' ⟨rfl, hb2⟩
    have HB2 := Lib.hid hb2
    clear hb2
    rw [HC.out]
    go_wp2
    go_ret
    exact ⟨ret_string (by rw [keyL, HC.out]; rfl), HB.out.trans (HB2.out.mono HB.out.size)⟩
  · have HC := Lib.hid hc
    obtain ⟨hz1, hz2⟩ := check_sizes hc
    obtain ⟨_, _, hp1, hp2⟩ := check_parts hc
    obtain ⟨t, ht⟩ : ∃ t : ByteArray, t = ⟨(Lib.itoa p).toArray⟩ := ⟨_, rfl⟩
    have hz3 : t.size ≤ 5 := by
      rw [ht, itoa_num (by omega) hp2]
      have := numL_len5 (n := p.toNat) (by omega)
      show (numL p.toNat).toArray.size ≤ 5
      simpa using this
    have HK : Hid (s ++ ByteArray.mk #[58, 47, 47] ++ h ++ ByteArray.mk #[58] ++ t = mk (keyL s.data.toList h.data.toList p)) := by show _ = _; rw [ht]; exact key_mk hc
    have HT := Lib.hid ht
    clear hc ht
    go_enter Tryd.func62, Tryd.ntmps62
    go_wp2_with fail
    refine (Check_any _ _ _ _ hh).mono ?_
    rintro e w1 ⟨rfl, hb2⟩
    have ho : OrgAt w1 w.heap.size s h p := (OrgAt.new w s h p 25).below hb2 (by simp)
    have HB2 : Hid (Below w.heap.size w w1) := HB.out.trans (hb2.mono HB.out.size)
    clear hb2
    rw [HC.out]
    have hc0 := ho.c0
    have hc1 := ho.c1
    have hc2 := ho.c2
    go_wp2_with fail
    refine mix_start (fun W => OrgAt W w.heap.size s h p) (by kernel_rfl) ?_
    have hne : Nonempty (Held (fun W => OrgAt W w.heap.size s h p)) := ⟨⟨w1, ho⟩⟩
    have hx0 : ∀ q : Held (fun W => OrgAt W w.heap.size s h p), q.w.cell? ⟨w.heap.size, 0, none⟩ = some (.string s) := fun q => q.h.c0
    have hx1 : ∀ q : Held (fun W => OrgAt W w.heap.size s h p), q.w.cell? ⟨w.heap.size, 1, none⟩ = some (.string h) := fun q => q.h.c1
    have hx2 : ∀ q : Held (fun W => OrgAt W w.heap.size s h p), q.w.cell? ⟨w.heap.size, 2, none⟩ = some (.int .i64 p) := fun q => q.h.c2
    refine mix_seg [0, 1, 2, 3, 4, 5, 6, 7, 8] (by kernel_rfl) ho.drew ?_
    simp only [segOf, pickOps, pickOp]
    repeat (go_big_quiet_step (fail))
    refine wpQuiet_nil ?_
    refine mix_run 9 (by kernel_rfl) ?_
    simp only [segOf, pickOps, pickOp]
    go_wp2_with fail
    refine (Itoa_any _ _ t HT.out (by omega) hp2 ((HE.out.below HB2.out).drew)).mono ?_
    rintro e w2 ⟨rfl, hb3⟩
    have ho2 : OrgAt w2 w.heap.size s h p := ho.drew.below hb3 ho.lt
    have HB3 : Hid (Below w.heap.size w w2) := HB2.out.drew.trans (hb3.mono HB2.out.size)
    clear hb3
    go_wp2_with fail
    refine MixPost.normal ho2 ?_
    refine mix_seg [10, 11] (by kernel_rfl) ho2 ?_
    simp only [segOf, pickOps, pickOp]
    repeat (go_big_quiet_step (fail))
    refine wpQuiet_nil ?_
    refine mix_done (by kernel_rfl) ?_
    go_wp2
    go_ret
    exact ⟨ret_string HK.out, HB3.out⟩
end Go.Proofs.YtfamllkmmiajoaaDoor
