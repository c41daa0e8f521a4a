/-
  The contract of the document's own Want of layer 8 over this seat's program. Conditions: the request's headers lie where it says and are not too many; the library's variables and the tables of methods are as they are laid.
-/
import Derived.Test.YticedcnmajcgbaaGreatDoorARef2
namespace Go.Proofs.YticedcnmajcgbaaGreatDoor
open Go.RowKit

theorem com_sum {l : List (List UInt8)} (h : (∀ x ∈ l, x.length ≤ 100000) ∧ l.length ≤ 1000) : ((l.map mk).map ByteArray.size).sum + (l.map mk).length ≤ 1099511627776 := by
  have e : (l.map mk).map ByteArray.size = l.map List.length := by rw [List.map_map]; exact List.map_congr_left fun x _ => mk_size x
  have h2 := sum_le8 h.1
  have h3 : 100000 * l.length ≤ 100000 * 1000 := Nat.mul_le_mul_left _ h.2
  have := h.2
  rw [e, List.length_map]; omega
theorem refCommas_own (N : Option Addr) (nn cn : Nat) (l : List (List UInt8)) (w : World) (t : ByteArray) (hn : nn = (l.map mk).length) (hx : SRow w w.heap.size N (l.map mk)) (hl : (∀ x ∈ l, x.length ≤ 100000) ∧ l.length ≤ 1000) (ht : t = mk (comL l)) :
    Calls Tryz.prog 49 #[.slice N nn cn] w fun e w' => e = .returned (.string t) ∧ Below w.heap.size w w' := by
  refine (refCommas_any N nn cn w.heap.size (l.map mk) w hn hx (com_sum hl)).mono ?_
  rintro e w' ⟨rfl, rfl⟩
  exact ⟨ret_string (by rw [dat_mk8, ht]), Below.refl _ _⟩

set_option maxRecDepth 100000 in
set_option maxHeartbeats 4000000 in
theorem refWant8_any (r : Rv) (w : World) (hr : RqOk w r) (he : Env8 w) :
    Calls Tryz.prog 27 #[r.v] w fun e w' => e = .returned (wvOf (wantQ r.q)).v ∧ Below w.heap.size w w' := by
  unfold Rv.v
  obtain ⟨W, hW⟩ : ∃ W, W = (w.alloc (Obj.cells #[.string r.m, .string r.u, .string r.o, .int .i64 r.mode, .bool r.cr, .slice r.A r.n r.c, .int .i64 r.cl, .int .u64 r.tm, .int .i64 r.gr, .int .i64 r.sg] 25)).alloc (Obj.cells #[.string ⟨#[]⟩, .string ⟨#[]⟩, .bool false, .string ⟨#[]⟩, .string ⟨#[]⟩] 40) := ⟨_, rfl⟩
  have HP0 : Hid (WnAt w W r) := by rw [hW]; exact WnAt.new he hr _ _
  have HK := Lib.hid hr
  clear hr he
  go_enter Tryz.func27, Tryz.ntmps27
  go_wp2_with fail
  rw [← hW]
  clear hW
  refine (refCheck8_any r _ HP0.out.ok HP0.out.env).mono ?_
  rintro e w1 ⟨rfl, hb⟩
  have HN1 : Hid (WnAt w w1 r) := HP0.out.next hb
  clear hb HP0
  obtain ⟨ac, hac⟩ : ∃ c, c = askI r.q := ⟨_, rfl⟩
  rw [← hac]
  by_cases h0 : ac = 0
  case neg =>
    have HA := Lib.hid (want_no (by rw [← hac]; exact h0 : ¬ askI r.q = 0))
    clear hac
    obtain ⟨c0, c1, c2, c3, c4⟩ := HN1.out.res
    have ff := HN1.out.own
    unfold OwnB at ff
    go_wp2
    obtain ⟨q0, q1, q2, q3, q4⟩ := HN1.out.res.put_at Wv.zero
    dsimp only [WtAt.put, Wv.zero] at q0 q1 q2 q3 q4
    refine bodyPost_ret (v := .agg #[.string ⟨#[]⟩, .string ⟨#[]⟩, .bool false, .string ⟨#[]⟩, .string ⟨#[]⟩]) (by simp [results, Tryz.results27, go_sem, q0, q1, q2, q3, q4]) rfl ?_
    exact ⟨by rw [HA.out]; rfl, WtAt.put_below HN1.out.bel (Nat.le_succ _) Wv.zero⟩
  have HC : Hid (askI r.q = 0) := by show _ = _; rw [← hac, h0]
  subst h0
  clear hac
  have HWO := Lib.hid (want_o HC.out)
  obtain ⟨so, hso⟩ : ∃ t, t = mk (wantQ r.q).o := ⟨_, rfl⟩
  obtain ⟨su, hsu⟩ : ∃ t, t = mk (wantQ r.q).u := ⟨_, rfl⟩
  obtain ⟨sc, hsc⟩ : ∃ t, t = (wantQ r.q).cr := ⟨_, rfl⟩
  obtain ⟨sm, hsm⟩ : ∃ t, t = mk (Lk.normL r.m.data.toList) := ⟨_, rfl⟩
  obtain ⟨sn, hsn⟩ : ∃ t, t = mk (comL (namesQ r.q)) := ⟨_, rfl⟩
  have HCL : Hid ((Value.agg #[.string (mk (wantQ r.q).o), .string (mk (wantQ r.q).u), .bool (wantQ r.q).cr]) = .agg #[.string so, .string su, .bool sc]) := by show _ = _; rw [hso, hsu, hsc]
  have HWV : Hid ((wvOf (wantQ r.q)).v = .agg #[.string so, .string su, .bool sc, .string sm, .string sn]) := by
    show Value.agg #[.string (mk (wantQ r.q).o), .string (mk (wantQ r.q).u), .bool (wantQ r.q).cr, .string (mk (wantQ r.q).m), .string (mk (wantQ r.q).n)] = _
    rw [HWO.out.2.2.2.1, HWO.out.2.2.2.2, hso, hsu, hsc, hsm, hsn]; rfl
  have HSM := Lib.hid hsm
  have HSN := Lib.hid hsn
  clear hso hsu hsc hsm hsn
  go_wp2_with fail
  refine mix_start (fun W => RqAt W w.heap.size r) (by kernel_rfl) ?_
  have hne : Nonempty (Held (fun W => RqAt W w.heap.size r)) := ⟨⟨_, HN1.out.req⟩⟩
  have zz0 : ∀ q : Held (fun W => RqAt W w.heap.size r), q.w.cell? ⟨w.heap.size, 0, none⟩ = some (.string r.m) := fun q => q.h.c0
  have zz1 : ∀ q : Held (fun W => RqAt W w.heap.size r), q.w.cell? ⟨w.heap.size, 1, none⟩ = some (.string r.u) := fun q => q.h.c1
  have zz2 : ∀ q : Held (fun W => RqAt W w.heap.size r), q.w.cell? ⟨w.heap.size, 2, none⟩ = some (.string r.o) := fun q => q.h.c2
  have zz3 : ∀ q : Held (fun W => RqAt W w.heap.size r), q.w.cell? ⟨w.heap.size, 3, none⟩ = some (.int .i64 r.mode) := fun q => q.h.c3
  have zz4 : ∀ q : Held (fun W => RqAt W w.heap.size r), q.w.cell? ⟨w.heap.size, 4, none⟩ = some (.bool r.cr) := fun q => q.h.c4
  have zz5 : ∀ q : Held (fun W => RqAt W w.heap.size r), q.w.cell? ⟨w.heap.size, 5, none⟩ = some (.slice r.A r.n r.c) := fun q => q.h.c5
  have zz6 : ∀ q : Held (fun W => RqAt W w.heap.size r), q.w.cell? ⟨w.heap.size, 6, none⟩ = some (.int .i64 r.cl) := fun q => q.h.c6
  have zz7 : ∀ q : Held (fun W => RqAt W w.heap.size r), q.w.cell? ⟨w.heap.size, 7, none⟩ = some (.int .u64 r.tm) := fun q => q.h.c7
  have zz8 : ∀ q : Held (fun W => RqAt W w.heap.size r), q.w.cell? ⟨w.heap.size, 8, none⟩ = some (.int .i64 r.gr) := fun q => q.h.c8
  have zz9 : ∀ q : Held (fun W => RqAt W w.heap.size r), q.w.cell? ⟨w.heap.size, 9, none⟩ = some (.int .i64 r.sg) := fun q => q.h.c9
  obtain ⟨w2, hwd⟩ : ∃ W, W = w1.drew := ⟨_, rfl⟩
  rw [← hwd]
  have hb : Below w1.heap.size w1 w2 := by rw [hwd]; exact (Below.refl _ _).drew
  have HN2 : Hid (WnAt w w2 r) := HN1.out.next hb
  clear hb hwd
  refine mix_seg [0, 2, 3, 5] (by kernel_rfl) HN2.out.req ?_
  simp only [segOf, pickOps, pickOp]
  repeat (go_big_quiet_step (fail))
  refine wpQuiet_nil ?_
  refine mix_run 1 (by kernel_rfl) ?_
  simp only [segOf, pickOps, pickOp]
  go_wp2_with fail
  refine (refCell8_any r _ HN2.out.ok HN2.out.env).mono ?_
  rintro e w3 ⟨rfl, hb⟩
  rw [HCL.out]
  have HN3 : Hid (WnAt w w3 r) := HN2.out.next hb
  clear hb
  go_wp2_with fail
  refine MixPost.normal HN3.out.req ?_
  refine mix_run 4 (by kernel_rfl) ?_
  simp only [segOf, pickOps, pickOp]
  go_wp2_with fail
  refine (refMNorm_any r.m _ HK.out.hm).mono ?_
  rintro e w4 ⟨rfl, hb⟩
  rw [← HSM.out]
  have HN4 : Hid (WnAt w w4 r) := HN3.out.next hb
  clear hb
  go_wp2_with fail
  refine MixPost.normal HN4.out.req ?_
  refine mix_run 6 (by kernel_rfl) ?_
  simp only [segOf, pickOps, pickOp]
  go_wp2_with fail
  refine (refNames8_any r _ HN4.out.ok HN4.out.env).mono ?_
  rintro e w5 ⟨v, rfl, hs, hb⟩
  have HN5 : Hid (WnAt w w5 r) := HN4.out.next hb
  obtain ⟨N, nn, cn, rfl, hnn, hnp⟩ := trow_row hs
  have HNN := Lib.hid hnn
  have HNP := Lib.hid hnp
  clear hb hs hnn hnp
  go_wp2_with fail
  refine MixPost.normal HN5.out.req ?_
  refine mix_run 7 (by kernel_rfl) ?_
  simp only [segOf, pickOps, pickOp]
  go_wp2_with fail
  refine (refCommas_own N nn cn (namesQ r.q) _ sn HNN.out HNP.out (namesQ_small HK.out) HSN.out).mono ?_
  rintro e w6 ⟨rfl, hb⟩
  have HN6 : Hid (WnAt w w6 r) := HN5.out.next hb
  clear hb
  go_wp2_with fail
  refine MixPost.normal HN6.out.req ?_
  refine mix_seg [8] (by kernel_rfl) HN6.out.req ?_
  simp only [segOf, pickOps, pickOp]
  repeat (go_big_quiet_step (fail))
  refine wpQuiet_nil ?_
  refine mix_run 9 (by kernel_rfl) ?_
  simp only [segOf, pickOps, pickOp]
  obtain ⟨c0, c1, c2, c3, c4⟩ := HN6.out.res
  have ff := HN6.out.own
  unfold OwnB at ff
  go_wp2_with fail
  have HB8 : Hid (RqAt (WtAt.put w6 (w.heap.size + 1) ⟨so, su, sc, sm, sn⟩) w.heap.size r) := HN6.out.req.besideWtAt (by omega) _
  refine MixPost.normal HB8.out ?_
  refine mix_done (by kernel_rfl) ?_
  obtain ⟨q0, q1, q2, q3, q4⟩ := HN6.out.res.put_at ⟨so, su, sc, sm, sn⟩
  dsimp only [WtAt.put] at q0 q1 q2 q3 q4
  go_wp2
  refine bodyPost_ret (v := .agg #[.string so, .string su, .bool sc, .string sm, .string sn]) (by simp [results, Tryz.results27, go_sem, q0, q1, q2, q3, q4]) rfl ?_
  exact ⟨by rw [HWV.out], WtAt.put_below HN6.out.bel (Nat.le_succ _) ⟨so, su, sc, sm, sn⟩⟩
end Go.Proofs.YticedcnmajcgbaaGreatDoor
