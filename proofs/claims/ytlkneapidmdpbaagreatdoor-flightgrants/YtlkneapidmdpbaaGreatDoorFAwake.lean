/-
  Layer 17's own put and awake over this seat's program. Conditions: the library's variables and the tables of methods are as they are laid.
-/
import Derived.Test.YtlkneapidmdpbaaGreatDoorFJudge
import Derived.Test.YtlkneapidmdpbaaGreatDoorFBuild
namespace Go.Proofs.YtlkneapidmdpbaaGreatDoor
open Go.RowKit

abbrev awXs : List (ByteArray × ByteArray) := [(⟨#[88, 45, 66]⟩, ⟨#[49]⟩), (⟨#[120, 45, 97]⟩, ⟨#[50]⟩)]
def awF (g : Nat) : Rv := ⟨⟨#[112, 117, 116]⟩, ⟨#[104, 116, 116, 112, 58, 47, 47, 98, 47, 120]⟩, ⟨#[104, 116, 116, 112, 58, 47, 47, 97]⟩, 3, false, some ⟨g, 0, none⟩, 2, 2, awXs, 2, 0, 0, 0⟩
def awQ : Rq := ⟨[112, 117, 116], [104, 116, 116, 112, 58, 47, 47, 98, 47, 120], [104, 116, 116, 112, 58, 47, 47, 97], 3, false, [([88, 45, 66], [49]), ([120, 45, 97], [50])], 2, 0, 0, 0⟩
theorem awF_q (g : Nat) : (awF g).q = awQ := rfl
abbrev awH : List (ByteArray × ByteArray) := [(⟨#[97, 99, 99, 101, 115, 115, 45, 99, 111, 110, 116, 114, 111, 108, 45, 97, 108, 108, 111, 119, 45, 111, 114, 105, 103, 105, 110]⟩, ⟨#[42]⟩)]
abbrev awB : List (ByteArray × ByteArray) := [(⟨#[97, 99, 99, 101, 112, 116]⟩, ⟨#[42, 47, 42]⟩), (rmT, ⟨#[80, 85, 84]⟩), (rhT, ⟨#[120, 45, 97, 44, 120, 45, 98]⟩), (⟨#[111, 114, 105, 103, 105, 110]⟩, ⟨#[104, 116, 116, 112, 58, 47, 47, 97]⟩)]
theorem aw17_n : needsQ awQ = true := by kernel_rfl
theorem aw17_1 : judgeI awQ 404 (awH.map hd) = 14 := by kernel_rfl
theorem aw17_2 : judgeI awQ 200 (([] : List (ByteArray × ByteArray)).map hd) = 15 := by kernel_rfl
theorem aw17_3 : hdsF (wantQ awQ) = awB.map hd := by kernel_rfl
theorem aw17_s : Sm (awH.map hd) := ⟨by decide, by decide⟩
theorem aw17_t : Sm (awXs.map hd) := ⟨by decide, by decide⟩

set_option maxHeartbeats 2000000 in
theorem fput_any (w : World) : Calls Tryz.prog 36 #[] w fun e w' => ∃ r : Rv, e = .returned r.v ∧ r.q = awQ ∧ RqOk w' r ∧ Below w.heap.size w w' := by
  obtain ⟨W, hW⟩ : ∃ W, W = w.alloc (Obj.cells #[.string ⟨#[112, 117, 116]⟩, .string ⟨#[104, 116, 116, 112, 58, 47, 47, 98, 47, 120]⟩, .string ⟨#[104, 116, 116, 112, 58, 47, 47, 97]⟩, .int .i64 3, .bool false, .slice (some ⟨w.heap.size + 1, 0, none⟩) 2 2, .int .i64 2, .int .u64 0, .int .i64 0, .int .i64 0] 25) := ⟨_, rfl⟩
  have HB0 : Hid (Below w.heap.size w W) := by show Below _ _ _; rw [hW]; exact (Below.refl _ _).alloc (Nat.le_refl _) _
  have HR0 : Hid (RqAt W w.heap.size (awF (w.heap.size + 1))) := by show RqAt _ _ _; rw [hW]; exact RqAt.new w (awF (w.heap.size + 1)) _
  have HG : Hid (w.heap.size + 1 = W.heap.size) := by show _ = _; rw [hW]; simp
  obtain ⟨W1, hW1⟩ : ∃ W1, W1 = W.alloc (Obj.cells #[.string ⟨#[88, 45, 66]⟩, .string ⟨#[49]⟩, .string ⟨#[120, 45, 97]⟩, .string ⟨#[50]⟩] 57) := ⟨_, rfl⟩
  have hb1 : Below W.heap.size W W1 := by rw [hW1]; exact (Below.refl _ _).alloc (Nat.le_refl _) _
  have HP1 : Hid (PRow W1 (w.heap.size + 1 + 1) (some ⟨w.heap.size + 1, 0, none⟩) awXs) := by show PRow _ _ _ _; rw [hW1]; exact PRow.two_at _ _ _ _ _ _ _ HG.out
  have HB1 : Hid (Below w.heap.size w W1) := HB0.out.trans (hb1.mono HB0.out.size)
  have HR1 : Hid (RqAt W1 w.heap.size (awF (w.heap.size + 1))) := HR0.out.below hb1 HR0.out.lt
  have HGZ : Hid (w.heap.size + 1 + 1 ≤ W1.heap.size) := by show _ ≤ _; rw [HG.out, hW1]; simp
  have HW := Lib.hid hW
  have HW1 := Lib.hid hW1
  clear hb1 hW hW1
  go_enter Tryz.func36, Tryz.ntmps36
  go_wp2
  rw [← HW.out, ← HW1.out]
  obtain ⟨q0, q1, q2, q3, q4, q5, q6, q7, q8, q9⟩ := HR1.out
  dsimp only [awF] at q0 q1 q2 q3 q4 q5 q6 q7 q8 q9
  refine bodyPost_ret (v := .agg #[.string ⟨#[112, 117, 116]⟩, .string ⟨#[104, 116, 116, 112, 58, 47, 47, 98, 47, 120]⟩, .string ⟨#[104, 116, 116, 112, 58, 47, 47, 97]⟩, .int .i64 3, .bool false, .slice (some ⟨w.heap.size + 1, 0, none⟩) 2 2, .int .i64 2, .int .u64 0, .int .i64 0, .int .i64 0]) (by simp [results, Tryz.results36, go_sem, q0, q1, q2, q3, q4, q5, q6, q7, q8, q9]) rfl ?_
  exact ⟨awF (w.heap.size + 1), rfl, awF_q _, ⟨HP1.out.mono HGZ.out, rfl, aw17_t, by show (⟨#[112, 117, 116]⟩ : ByteArray).size ≤ _; unfold maxLen; decide, by show (⟨#[104, 116, 116, 112, 58, 47, 47, 98, 47, 120]⟩ : ByteArray).size ≤ _; unfold maxLen; decide, by show (⟨#[104, 116, 116, 112, 58, 47, 47, 97]⟩ : ByteArray).size ≤ _; unfold maxLen; decide⟩, HB1.out⟩

set_option maxHeartbeats 4000000 in
theorem awake17_any (w : World) (he : Env8 w) : Calls Tryz.prog 11 #[] w fun e w' => e = .returned (.bool true) ∧ Below w.heap.size w w' := by
  have HE := Lib.hid he
  clear he
  go_enter Tryz.func11, Tryz.ntmps11
  go_wp2_with fail
  refine (fput_any _).mono ?_
  rintro e w1 ⟨r1, rfl, hq1, hk1, hb1⟩
  have HB1 := Lib.hid hb1
  obtain ⟨W1, hW1⟩ : ∃ W1, W1 = w1.alloc (Obj.cells #[.string ⟨#[97, 99, 99, 101, 115, 115, 45, 99, 111, 110, 116, 114, 111, 108, 45, 97, 108, 108, 111, 119, 45, 111, 114, 105, 103, 105, 110]⟩, .string ⟨#[42]⟩] 57) := ⟨_, rfl⟩
  obtain ⟨g, hg⟩ : ∃ g, g = w1.heap.size := ⟨_, rfl⟩
  have hb : Below w1.heap.size w1 W1 := by rw [hW1]; exact (Below.refl _ _).alloc (Nat.le_refl _) _
  have HP1 : Hid (PRow W1 (g + 1) (some ⟨g, 0, none⟩) awH) := by show PRow _ _ _ _; rw [hW1]; exact PRow.one_at _ _ _ _ _ hg
  have HB2 : Hid (Below w.heap.size w W1) := HB1.out.trans (hb.mono HB1.out.size)
  have HK2 := Lib.hid (hk1.below hb)
  have HZ2 : Hid (g + 1 ≤ W1.heap.size) := by show _ ≤ _; rw [hW1, hg]; simp
  have HQ1 := Lib.hid hq1
  clear hb hb1 hk1 hq1
  unfold Rv.v
  go_wp2_with fail
  rw [← hW1, ← hg]
  clear hW1 hg
  refine (fJudge_any r1 404 (some ⟨g, 0, none⟩) 1 1 (g + 1) awH _ HK2.out (HE.out.below HB2.out) rfl HZ2.out HP1.out aw17_s).mono ?_
  rintro e w2 ⟨a, rfl, _, hb⟩
  rw [HQ1.out, aw17_1]
  have HB3 : Hid (Below w.heap.size w w2) := HB2.out.trans (hb.mono HB2.out.size)
  clear hb
  obtain ⟨W2, hW2⟩ : ∃ W2, W2 = w2.alloc (Obj.cells #[.slice a.A1 a.n1 a.c1, .slice a.A2 a.n2 a.c2, .int .u64 a.g] 28) := ⟨_, rfl⟩
  have HB4 : Hid (Below w.heap.size w W2) := by show Below _ _ _; rw [hW2]; exact HB3.out.alloc HB3.out.size _
  unfold Av.v
  go_wp2_with fail
  rw [← hW2]
  clear hW2
  refine (fput_any _).mono ?_
  rintro e w3 ⟨r2, rfl, hq2, hk2, hb⟩
  have HB5 : Hid (Below w.heap.size w w3) := HB4.out.trans (hb.mono HB4.out.size)
  have HQ2 := Lib.hid hq2
  have HK5 := Lib.hid hk2
  clear hb hq2 hk2
  unfold Rv.v
  go_wp2_with fail
  refine (fJudge_any r2 200 none 0 0 0 [] _ HK5.out (HE.out.below HB5.out) rfl (Nat.zero_le _) (PRow.nil _ _ _) ⟨by decide, by decide⟩).mono ?_
  rintro e w4 ⟨b, rfl, _, hb⟩
  rw [HQ2.out, aw17_2]
  have HB6 : Hid (Below w.heap.size w w4) := HB5.out.trans (hb.mono HB5.out.size)
  clear hb
  obtain ⟨W4, hW4⟩ : ∃ W4, W4 = w4.alloc (Obj.cells #[.slice b.A1 b.n1 b.c1, .slice b.A2 b.n2 b.c2, .int .u64 b.g] 28) := ⟨_, rfl⟩
  have HB7 : Hid (Below w.heap.size w W4) := by show Below _ _ _; rw [hW4]; exact HB6.out.alloc HB6.out.size _
  unfold Av.v
  go_wp2_with fail
  rw [← hW4]
  clear hW4
  refine (fput_any _).mono ?_
  rintro e w5 ⟨r3, rfl, hq3, hk3, hb⟩
  have HB8 : Hid (Below w.heap.size w w5) := HB7.out.trans (hb.mono HB7.out.size)
  have HQ3 := Lib.hid hq3
  have HK8 := Lib.hid hk3
  clear hb hq3 hk3
  unfold Rv.v
  go_wp2_with fail
  refine (fBuild_any r3 _ HK8.out (HE.out.below HB8.out)).mono ?_
  rintro e w6 ⟨p, rfl, hpq, hpk, hb⟩
  have HB9 : Hid (Below w.heap.size w w6) := HB8.out.trans (hb.mono HB8.out.size)
  clear hb
  rw [HQ3.out, build_yes aw17_n] at hpq
  obtain ⟨pm, pu, po, pk, pc, pA, pn, pcap, pxs, pl, pt, pg, ps⟩ := p
  have hm : pm = optT := WideShapes.bytes_inj (congrArg Rq.m hpq)
  have hx : pxs = awB := row_alike ((congrArg Rq.hs hpq).trans aw17_3)
  have hn : pn = 4 := by have h := hpk.len; dsimp only at h; rw [h, hx]; rfl
  subst hm hx hn
  obtain ⟨W6, hW6⟩ : ∃ W6, W6 = w6.alloc (Obj.cells #[.string optT, .string pu, .string po, .int .i64 pk, .bool pc, .slice pA 4 pcap, .int .i64 pl, .int .u64 pt, .int .i64 pg, .int .i64 ps] 25) := ⟨_, rfl⟩
  have hb6 : Below w6.heap.size w6 W6 := by rw [hW6]; exact (Below.refl _ _).alloc (Nat.le_refl _) _
  have HB10 : Hid (Below w.heap.size w W6) := HB9.out.trans (hb6.mono HB9.out.size)
  obtain ⟨g6, hg6⟩ : ∃ g, g = w6.heap.size := ⟨_, rfl⟩
  have HR6 : Hid (RqAt W6 g6 ⟨optT, pu, po, pk, pc, pA, 4, pcap, awB, pl, pt, pg, ps⟩) := by show RqAt _ _ _; rw [hW6, hg6]; exact RqAt.new w6 ⟨optT, pu, po, pk, pc, pA, 4, pcap, awB, pl, pt, pg, ps⟩ _
  obtain ⟨ad, e1, _, hc1, hc2⟩ := (hpk.below hb6).row 2 _ rfl
  dsimp only at e1 hc1 hc2
  subst e1
  have hc3 : W6.cell? ⟨ad.block, ad.off + 4 + 1, none⟩ = some (.string ⟨#[120, 45, 97, 44, 120, 45, 98]⟩) := by simpa [Addr.add] using hc2
  clear hc1 hc2
  clear hpk hpq hb6
  unfold Rv.v
  dsimp only
  go_upto_region 4 with fail
  rw [← hW6, ← hg6]
  clear hW6 hg6
  obtain ⟨c0, c1, c2, c3, c4, c5, c6, c7, c8, c9⟩ := HR6.out
  dsimp only at c0 c1 c2 c3 c4 c5 c6 c7 c8 c9
  go_wp2
  go_ret
  exact ⟨rfl, HB10.out⟩
end Go.Proofs.YtlkneapidmdpbaaGreatDoor
