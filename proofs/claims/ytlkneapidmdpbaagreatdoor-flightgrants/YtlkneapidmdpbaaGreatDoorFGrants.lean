/-
  The contract of flight's Grants over this seat's program. Conditions: the request's headers lie where it says and are not too many; the two rows of what is let likewise; the library's variables and the tables of methods are as they are laid.
-/
import Derived.Test.YtlkneapidmdpbaaGreatDoorFJudge
import Derived.Test.YtlkneapidmdpbaaGreatDoorFMath4
import Derived.Test.YtlkneapidmdpbaaGreatDoorBClone
import Derived.Deep.Cut
namespace Go.Proofs.YtlkneapidmdpbaaGreatDoor
open Go.RowKit

theorem srow_only {w w' : World} {B : Nat} {A : Option Addr} {xs : List ByteArray} {s : List Nat} (h : SRow w B A xs) (o : Only s w w') (hB : B ≤ w.heap.size) (hs : ∀ ad, A = some ad → ad.block ∉ s) : SRow w' B A xs := by
  intro j x hj
  obtain ⟨ad, e, h1, hc⟩ := h j x hj
  exact ⟨ad, e, h1, (o.cell (p := ad.add j) (by rw [block_add]; omega) (by rw [block_add]; exact hs ad e)).trans hc⟩
theorem WtAt.only {w w' : World} {g : Nat} {z : Wv} {s : List Nat} (h : WtAt w g z) (o : Only s w w') (hs : g ∉ s) : WtAt w' g z :=
  ⟨(o.cell (p := ⟨g, 0, none⟩) h.lt hs).trans h.c0, (o.cell (p := ⟨g, 1, none⟩) h.lt hs).trans h.c1, (o.cell (p := ⟨g, 2, none⟩) h.lt hs).trans h.c2, (o.cell (p := ⟨g, 3, none⟩) h.lt hs).trans h.c3, (o.cell (p := ⟨g, 4, none⟩) h.lt hs).trans h.c4⟩
/-- what holds all through: the request and what is let in the first two blocks -/
structure GrF (w W : World) (r : Rv) (a : Av) (z : Al) : Prop where
  bel : Below w.heap.size w W
  env0 : Env8 w
  ok0 : RqOk w r
  av0 : AvIs w a z
  req : RqAt W w.heap.size r
  al : AlAt W (w.heap.size + 1) a
section
variable {w W W' : World} {r : Rv} {a : Av} {z : Al}
theorem GrF.next (h : GrF w W r a z) (hb : Below W.heap.size W W') : GrF w W' r a z :=
  ⟨h.bel.trans (hb.mono h.bel.size), h.env0, h.ok0, h.av0, h.req.below hb h.req.lt, h.al.up hb⟩
theorem GrF.env (h : GrF w W r a z) : Env8 W := h.env0.below h.bel
theorem GrF.ok (h : GrF w W r a z) : RqOk W r := h.ok0.below h.bel
theorem GrF.new (he : Env8 w) (hr : RqOk w r) (ha : AvIs w a z) (t t' : TypeId) : GrF w ((w.alloc (.cells #[.string r.m, .string r.u, .string r.o, .int .i64 r.mode, .bool r.cr, .slice r.A r.n r.c, .int .i64 r.cl, .int .u64 r.tm, .int .i64 r.gr, .int .i64 r.sg] t)).alloc (.cells #[.slice a.A1 a.n1 a.c1, .slice a.A2 a.n2 a.c2, .int .u64 a.g] t')) r a z := by
  have e : (w.alloc (.cells #[.string r.m, .string r.u, .string r.o, .int .i64 r.mode, .bool r.cr, .slice r.A r.n r.c, .int .i64 r.cl, .int .u64 r.tm, .int .i64 r.gr, .int .i64 r.sg] t)).heap.size = w.heap.size + 1 := by simp
  have h1 := RqAt.new w r t
  have h2 := AlAt.new (w.alloc (.cells #[.string r.m, .string r.u, .string r.o, .int .i64 r.mode, .bool r.cr, .slice r.A r.n r.c, .int .i64 r.cl, .int .u64 r.tm, .int .i64 r.gr, .int .i64 r.sg] t)) a t'
  rw [e] at h2
  exact ⟨((Below.refl _ _).alloc (Nat.le_refl _) _).alloc (by rw [e]; omega) _, he, hr, ha, h1.below ((Below.refl _ _).alloc (Nat.le_refl _) _) h1.lt, h2⟩
end
def GrPost (q : Rq) (z : Al) (now : Nat) (w : World) (e : Ending) (w' : World) : Prop :=
  ∃ v, e = .returned v ∧ EnRow w' v (grantsQ q z now) ∧ NewL w.heap.size v ∧ Below w.heap.size w w'
theorem grpost_no {q : Rq} {z : Al} {now : Nat} {w W : World} (h : needsQ q = false ∨ z.age = 0) (hb : Below w.heap.size w W) : GrPost q z now w (.returned (.slice none 0 0)) W :=
  ⟨_, rfl, by rw [grants_no h]; exact EnRow.nil, by intro x hx; simp [ownL, Value.ownBlock] at hx, hb⟩
theorem map_take1 {α β : Type} {f : α → β} {l : List α} {k : Nat} (h : k < l.length) : (l.take (k + 1)).map f = (l.take k).map f ++ [f l[k]] := by
  rw [List.take_succ_eq_append_getElem h, List.map_append]; rfl

set_option maxRecDepth 100000 in
set_option maxHeartbeats 8000000 in
theorem fGrants_any (r : Rv) (a : Av) (z : Al) (now : Nat) (w : World) (hr : RqOk w r) (he : Env8 w) (ha : AvIs w a z) (hm : z.ms.length + z.hs.length ≤ 50000) (hz : (∀ x ∈ z.ms, x.length ≤ maxLen) ∧ ∀ x ∈ z.hs, x.length ≤ maxLen) (hn : now ≤ 18446744073709551615) (hg : z.age ≤ 18446744073709551615) :
    Calls Tryz.prog 19 #[r.v, a.v, .int .u64 (now : Int)] w (GrPost r.q z now w) := by
  obtain ⟨A1, n1, d1, A2, n2, d2, ag⟩ := a
  unfold Rv.v Av.v
  dsimp only
  obtain ⟨W, hW⟩ : ∃ W, W = (w.alloc (Obj.cells #[.string r.m, .string r.u, .string r.o, .int .i64 r.mode, .bool r.cr, .slice r.A r.n r.c, .int .i64 r.cl, .int .u64 r.tm, .int .i64 r.gr, .int .i64 r.sg] 25)).alloc (Obj.cells #[.slice A1 n1 d1, .slice A2 n2 d2, .int .u64 ag] 28) := ⟨_, rfl⟩
  have HP0 : Hid (GrF w W r ⟨A1, n1, d1, A2, n2, d2, ag⟩ z) := by rw [hW]; exact GrF.new he hr ha _ _
  have HAG : Hid (ag = (z.age : Int)) := ha.g
  have HM := Lib.hid hm
  have HZ := Lib.hid hz
  have HNW := Lib.hid hn
  have HGA := Lib.hid hg
  have HE1 : Hid (n1 = z.ms.length) := ha.e1
  have HE2 : Hid (n2 = z.hs.length) := ha.e2
  clear hr he ha hm hz hn hg
  go_enter Tryz.func19, Tryz.ntmps19
  go_wp2_with fail
  rw [← hW]
  clear hW
  refine (aNeeds_any r _ HP0.out.ok HP0.out.env).mono ?_
  rintro e w1 ⟨rfl, hb⟩
  have HP1 : Hid (GrF w w1 r ⟨A1, n1, d1, A2, n2, d2, ag⟩ z) := HP0.out.next hb
  clear hb HP0
  obtain ⟨nd, hnd⟩ : ∃ b, b = needsQ r.q := ⟨_, rfl⟩
  rw [← hnd]
  have HND := Lib.hid hnd
  clear hnd
  cases nd
  case false =>
    go_wp2
    go_ret
    exact grpost_no (.inl HND.out.symm) HP1.out.bel
  case true =>
  have HNT : Hid (needsQ r.q = true) := HND.out.symm
  obtain ⟨p0, p1, p2, _⟩ := HP1.out.al
  dsimp only at p0 p1 p2
  by_cases hag : ag = 0
  case pos =>
    subst hag
    go_wp2
    go_ret
    exact grpost_no (.inr (by have := HAG.out; omega)) HP1.out.bel
  have HNA : Hid (¬ z.age = 0) := by show ¬ _; intro h; exact hag (by rw [HAG.out, h]; rfl)
  obtain ⟨r0, r1, r2, r3, r4, r5, r6, r7, r8, r9⟩ := HP1.out.req
  go_wp2_with fail
  clear r0 r1 r2 r3 r4 r5 r6 r7 r8 r9 p0 p1 p2 hag
  refine (aWant_any r _ HP1.out.ok HP1.out.env).mono ?_
  rintro e w2 ⟨rfl, hb⟩
  have HP2 : Hid (GrF w w2 r ⟨A1, n1, d1, A2, n2, d2, ag⟩ z) := HP1.out.next hb
  have HGY : Hid (grantsQ r.q z now = entsF (wantQ r.q) z (untilF now z)) := grants_yes HNT.out HNA.out
  clear hb HP1 HND
  obtain ⟨q, hq⟩ : ∃ q, q = wantQ r.q := ⟨_, rfl⟩
  obtain ⟨t, ht⟩ : ∃ t, t = untilF now z := ⟨_, rfl⟩
  rw [← hq, ← ht] at HGY
  rw [← hq]
  have HT : Hid (Lk.addT (now : Int) ag = (t : Int)) := by
    show _ = _
    rw [ht, HAG.out, untilF]
    have := Lk.addT_ge (now : Int) (z.age : Int) (by omega) (by omega)
    omega
  clear hq ht
  obtain ⟨w3, hw3⟩ : ∃ W, W = w2.alloc (Obj.cells #[.string (mk q.o), .string (mk q.u), .bool q.cr, .string (mk q.m), .string (mk q.n)] 52) := ⟨_, rfl⟩
  obtain ⟨g3, hg3⟩ : ∃ g, g = w2.heap.size := ⟨_, rfl⟩
  have hb3 : Below w2.heap.size w2 w3 := by rw [hw3]; exact (Below.refl _ _).alloc (Nat.le_refl _) _
  have HP3 : Hid (GrF w w3 r ⟨A1, n1, d1, A2, n2, d2, ag⟩ z) := HP2.out.next hb3
  have HW3 : Hid (WtAt w3 g3 (wvOf q)) := by show WtAt _ _ _; rw [hw3, hg3]; exact WtAt.new w2 (wvOf q) _
  clear hb3
  unfold wvOf Wv.v
  dsimp only
  go_upto_region 4 with fail
  rw [← hw3, ← hg3]
  clear hw3 hg3 HP2
  obtain ⟨p0, p1, p2, _⟩ := HP3.out.al
  dsimp only at p0 p1 p2
  go_wp2_with fail
  refine (tickAdd_any (now : Int) ag _ (by omega) (by have := HNW.out; omega) (by have := HAG.out; omega) (by have := HAG.out; have := HGA.out; omega)).mono ?_
  rintro e w' ⟨rfl, rfl⟩
  rw [HT.out]
  go_wp2_with fail
  refine (fonce_any A1 n1 d1 _ z.ms _ HE1.out (Nat.le_refl _) (srow_up HP3.out.av0.r1 HP3.out.bel HP3.out.bel.size) (by have := HM.out; omega) HZ.out.1).mono ?_
  rintro e w4 ⟨v4, rfl, hs, hb⟩
  obtain ⟨A4, c4, rfl, _, hs4⟩ := trow_of hs
  have HS4 := Lib.hid hs4
  have HP4 : Hid (GrF w w4 r ⟨A1, n1, d1, A2, n2, d2, ag⟩ z) := HP3.out.next hb
  have HW4 : Hid (WtAt w4 g3 (wvOf q)) := HW3.out.below hb HW3.out.lt
  clear hb hs hs4 HP3 HW3 p0 p1 p2
  obtain ⟨N, hN⟩ : ∃ N, N = (onceL z.ms).length := ⟨_, rfl⟩
  have HN := Lib.hid hN
  rw [← hN]
  have hN2 : N ≤ 50000 := by rw [hN]; have := onceL_len z.ms; have := HM.out; omega
  clear hN
  go_upto_if 34 with fail
  go_cut [9] from 15 (fun s9 W => ∃ (A : Option Addr) (c : Nat), s9 = .slice A (metsF q z).length c ∧ SRow W W.heap.size A ((metsF q z).map mk) ∧ GrF w W r ⟨A1, n1, d1, A2, n2, d2, ag⟩ z ∧ WtAt W g3 (wvOf q))
  case first =>
    by_cases hN0 : N = 0
    · subst hN0
      have HMT : Hid (metsF q z = [q.m]) := by show _ = _; unfold metsF; rw [if_pos (List.length_eq_zero_iff.1 HN.out.symm)]
      obtain ⟨c0, c1, c2, c3, c4⟩ := HW4.out
      dsimp only [wvOf] at c0 c1 c2 c3 c4
      obtain ⟨w5, hw5⟩ : ∃ W, W = w4.alloc (Obj.cells #[.string (mk q.m)] 9) := ⟨_, rfl⟩
      obtain ⟨g5, hg5⟩ : ∃ g, g = w4.heap.size := ⟨_, rfl⟩
      have hb5 : Below w4.heap.size w4 w5 := by rw [hw5]; exact (Below.refl _ _).alloc (Nat.le_refl _) _
      have HS5 : Hid (SRow w5 w5.heap.size (some ⟨g5, 0, none⟩) [mk q.m]) := by
        have h := SRow.one_at w4 (mk q.m) 9 g5 hg5
        rw [← hw5] at h
        exact h.up (by rw [hw5, hg5]; simp)
      have HP5 : Hid (GrF w w5 r ⟨A1, n1, d1, A2, n2, d2, ag⟩ z) := HP4.out.next hb5
      have HW5 : Hid (WtAt w5 g3 (wvOf q)) := HW4.out.below hb5 HW4.out.lt
      clear hb5
      go_wp2_with fail
      rw [← hw5, ← hg5]
      clear hw5 hg5
      go_meet
      case rel => exact ⟨_, _, by rw [HMT.out]; rfl, by rw [HMT.out]; exact HS5.out, HP5.out, HW5.out⟩
    · have HMT : Hid (metsF q z = onceL z.ms) := by show _ = _; unfold metsF; rw [if_neg]; intro h; exact hN0 (by rw [HN.out, h]; rfl)
      have hN3 : ¬ (N : Int) = 0 := by omega
      go_wp2_with fail
      go_meet
      case rel => exact ⟨_, _, by rw [HMT.out, ← HN.out], by rw [HMT.out]; exact HS4.out, HP4.out, HW4.out⟩
  case rest =>
  clear HN hN2 N
  obtain ⟨A9, c9, rfl, hs9, hp9, hw9⟩ := hcut
  have HP5 := Lib.hid hp9
  have HW5 := Lib.hid hw9
  have HS5 := Lib.hid hs9
  clear hs9 hp9 hw9 HP4 HW4 HS4
  have HGE : Hid (grantsQ r.q z now = (metsF q z).map (entM q t) ++ (onceL z.hs).map (entH q t)) := HGY.out
  obtain ⟨M, hM⟩ : ∃ M, M = metsF q z := ⟨_, rfl⟩
  have HML0 : Hid (M.length ≤ z.ms.length + 1) := by rw [hM]; exact metsF_len q z
  rw [← hM] at HS5 HGE ⊢
  clear hM HGY
  obtain ⟨N, hN⟩ : ∃ N, N = M.length := ⟨_, rfl⟩
  have HN := Lib.hid hN
  rw [← hN]
  have hN2 : N ≤ 50001 := by rw [hN]; have := HML0.out; have := HM.out; omega
  clear hN
  go_wp2_with fail
  go_loopw [10, 40] (fun v i wr => ∃ (k : Nat) (vc : Value), vc = v ∧ k ≤ N ∧ i = .int .i64 k ∧ EnRow wr vc ((M.take k).map (entM q t)) ∧ NewL wc.heap.size vc ∧ Only [] wc wr) (fun _ i _ => N - (intOf i).toNat)
  case atStart => exact ⟨0, _, rfl, Nat.zero_le _, rfl, EnRow.nil, (by intro x hx; simp [ownL, Value.ownBlock] at hx), Only.refl _ _⟩
  case round =>
    obtain ⟨k, vc, hvc, hk, rfl, hr, hn, ho⟩ := hrel
    subst hvc
    have HR := Lib.hid hr
    have HV := Lib.hid hn
    have HO := Lib.hid ho
    have hbw := ho.to_below (by simp)
    have HWR : Hid (WtAt wr g3 (wvOf q)) := HW5.out.below hbw HW5.out.lt
    clear hr hn ho
    by_cases hlt : k < N
    · have hkm : k < M.length := by rw [← HN.out]; exact hlt
      obtain ⟨ad, e1, _, hc1⟩ := (HS5.out.below hbw) k (mk M[k]) (by rw [List.getElem?_map, List.getElem?_eq_getElem hkm]; rfl)
      have HT2 : Hid ((M.take (k + 1)).map (entM q t) = (M.take k).map (entM q t) ++ [entM q t M[k]]) := map_take1 hkm
      have HLN : Hid (((M.take k).map (entM q t)).length ≤ 100000) := by show _ ≤ _; rw [List.length_map, List.length_take]; omega
      obtain ⟨L, hL⟩ : ∃ L, L = (M.take k).map (entM q t) := ⟨_, rfl⟩
      rw [← hL] at HR HT2 HLN
      clear hL
      obtain ⟨W1, hW1⟩ : ∃ W1, W1 = wr.alloc (.cells #[.string (mk q.o), .string (mk q.u), .bool q.cr, .string (mk M[k]), .string ⟨#[]⟩, .int .u64 (t : Int)] 64) := ⟨_, rfl⟩
      obtain ⟨B2, hB2⟩ : ∃ B2, B2 = wr.heap.size := ⟨_, rfl⟩
      have HO1 : Hid (Only [] wr W1) := by show Only _ _ _; rw [hW1]; exact (Only.refl _ _).alloc _
      have HB2 : Hid (EnBox W1 B2 (entM q t M[k])) := by show EnBox _ _ _; rw [hW1, hB2]; exact EnBox.new wr (entM q t M[k]) _
      have HR1 := Lib.hid (HR.out.old HO1.out)
      obtain ⟨Ac, capc, hce, _⟩ := HR1.out.slice
      subst hce
      obtain ⟨c0, c1, c2, c3, c4⟩ := HWR.out
      dsimp only [wvOf] at c0 c1 c2 c3 c4
      subst e1
      clear hbw
      generalize M[k] = x at *
      go_wp2_with (at_builtin; rw [← hW1, ← hB2]; refine wpList_append_ent rfl (.tmp 44) (.tmp 50) rfl _ L rfl HR1.out B2 (entM q t x) rfl HB2.out HLN.out ?_)
      intro g2 cap2 w6 hr6 ho6 hg6
      rw [← hW1] at ho6
      clear hW1 hB2 c0 c1 c2 c3 c4 hc1
      have HO6 : Hid (Only [] wc w6) := (HO.out.trans HO1.out).next ho6.out (fun y hy => .inr (HV.out y hy))
      have HV6 : Hid (wc.heap.size ≤ g2) := by
        show _ ≤ _
        rcases hg6.out with h1 | h1
        · exact HV.out g2 h1
        · have h1' := HO.out.size; have h2 := HO1.out.size; omega
      clear ho6 hg6
      go_wp2_with fail
      go_roundw
      case rel =>
        refine ⟨k + 1, _, rfl, by omega, by go_num, by rw [HT2.out]; exact hr6.out, ?_, HO6.out⟩
        intro y hy
        simp [ownL, Value.ownBlock] at hy
        subst hy; exact HV6.out
      case measure => simp [intOf]; omega
    · have HMK : Hid (M.take k = M) := List.take_of_length_le (by have := HN.out; omega)
      rw [HMK.out] at HR
      have HP6 : Hid (GrF w wr r ⟨A1, n1, d1, A2, n2, d2, ag⟩ z) := HP5.out.next hbw
      have HBW : Hid (wc.heap.size ≤ wr.heap.size) := hbw.size
      have HG3 : Hid (g3 < wc.heap.size) := HW5.out.lt
      have HWB : Hid (w.heap.size ≤ wc.heap.size) := HP5.out.bel.size
      clear hbw HP5 HW5 HS5
      obtain ⟨p0, p1, p2, _⟩ := HP6.out.al
      dsimp only at p0 p1 p2
      go_wp2_with fail
      refine (fonce_any A2 n2 d2 _ z.hs _ HE2.out (Nat.le_refl _) (srow_up HP6.out.av0.r2 HP6.out.bel HP6.out.bel.size) (by have := HM.out; omega) HZ.out.2).mono ?_
      rintro e w7 ⟨v7, rfl, hs, hb⟩
      have HP7 : Hid (Below w.heap.size w w7) := HP6.out.bel.trans (hb.mono HP6.out.bel.size)
      have HW7 : Hid (WtAt w7 g3 (wvOf q)) := HWR.out.below hb HWR.out.lt
      have HO7 : Hid (Only [] wr w7) := Only.of_below hb []
      have HR7 := Lib.hid (HR.out.old HO7.out)
      have HSB : Hid (∀ ad, v7.ownBlock = some ad → ad ∉ ownL vc) := by
        intro ad had hm
        have h1 := (World.ownsRow.lt hs ad had).1
        have h2 := HR.out.own hm
        omega
      have HFM : Hid (∀ A c, v7 = .slice A (onceL z.hs).length c → ∀ ad, A = some ad → ad.block ∉ ownL vc) := by
        intro A c e1 ad had
        rcases sown_form hs with ⟨e2, _⟩ | ⟨g, cap, e2, _⟩
        · rw [e2] at e1; injection e1 with e1 _ _; rw [had] at e1; cases e1
        · rw [e2] at e1; injection e1 with e1 _ _
          rw [had] at e1
          injection e1 with e1
          subst e1
          exact HSB.out g (by rw [e2]; rfl)
      obtain ⟨A7, c7, e7, _, hs7⟩ := trow_of hs
      have HF7 := Lib.hid (HFM.out A7 c7 e7)
      have HS7 := Lib.hid hs7
      have HLH : Hid ((onceL z.hs).length ≤ z.hs.length) := onceL_len z.hs
      obtain ⟨Hs, hHs⟩ : ∃ H, H = onceL z.hs := ⟨_, rfl⟩
      rw [← hHs] at HS7 HLH e7 HGE
      obtain ⟨K, hK⟩ : ∃ K, K = Hs.length := ⟨_, rfl⟩
      have HKK := Lib.hid hK
      rw [← hK] at e7
      have hK2 : K ≤ 50000 := by rw [hK]; have := HLH.out; have := HM.out; omega
      have HWS : Hid (wr.heap.size ≤ w7.heap.size) := hb.size
      subst e7
      clear hb hs hs7 hHs hK HSB HFM p0 p1 p2 HP6 HWR
      have HVN : Hid (g3 ∉ ownL vc) := fun hm => by have := HV.out g3 hm; have := HG3.out; omega
      go_wp2_with fail
      go_loopw [10, 57] (fun v i wx => ∃ (j : Nat) (vd : Value), vd = v ∧ j ≤ K ∧ i = .int .i64 j ∧ EnRow wx vd (M.map (entM q t) ++ (Hs.take j).map (entH q t)) ∧ Grow w7.heap.size vc vd ∧ Only (ownL vc) w7 wx) (fun _ i _ => K - (intOf i).toNat)
      case atStart => exact ⟨0, vc, rfl, Nat.zero_le _, rfl, by rw [List.take_zero, List.map_nil, List.append_nil]; exact HR7.out, Grow.refl _ _, Only.refl _ _⟩
      case round =>
        obtain ⟨j, vd, hvd, hj, rfl, hr, hn, ho⟩ := hrel
        subst hvd
        have HRX := Lib.hid hr
        have HVX := Lib.hid hn
        have HOX := Lib.hid ho
        clear hr hn ho
        by_cases hlt : j < K
        · have hkm : j < Hs.length := by rw [← HKK.out]; exact hlt
          obtain ⟨ad, e1, _, hc1⟩ := (srow_only HS7.out HOX.out (Nat.le_refl _) HF7.out) j (mk Hs[j]) (by rw [List.getElem?_map, List.getElem?_eq_getElem hkm]; rfl)
          have HT2 : Hid ((M.map (entM q t) ++ (Hs.take (j + 1)).map (entH q t)) = (M.map (entM q t) ++ (Hs.take j).map (entH q t)) ++ [entH q t Hs[j]]) := by show _ = _; rw [map_take1 hkm, List.append_assoc]
          have HLN : Hid ((M.map (entM q t) ++ (Hs.take j).map (entH q t)).length ≤ 100000) := by
            show _ ≤ _; rw [List.length_append, List.length_map, List.length_map, List.length_take]
            have := HML0.out; have := HM.out; have := HLH.out; omega
          have HWX : Hid (WtAt wr g3 (wvOf q)) := HW7.out.only HOX.out HVN.out
          obtain ⟨L, hL⟩ : ∃ L, L = M.map (entM q t) ++ (Hs.take j).map (entH q t) := ⟨_, rfl⟩
          rw [← hL] at HRX HT2 HLN
          clear hL
          obtain ⟨W1, hW1⟩ : ∃ W1, W1 = wr.alloc (.cells #[.string (mk q.o), .string (mk q.u), .bool q.cr, .string ⟨#[]⟩, .string (mk Hs[j]), .int .u64 (t : Int)] 64) := ⟨_, rfl⟩
          obtain ⟨B2, hB2⟩ : ∃ B2, B2 = wr.heap.size := ⟨_, rfl⟩
          have HO1 : Hid (Only [] wr W1) := by show Only _ _ _; rw [hW1]; exact (Only.refl _ _).alloc _
          have HB2 : Hid (EnBox W1 B2 (entH q t Hs[j])) := by show EnBox _ _ _; rw [hW1, hB2]; exact EnBox.new wr (entH q t Hs[j]) _
          have HR1 := Lib.hid (HRX.out.old HO1.out)
          obtain ⟨Ac, capc, hce, _⟩ := HR1.out.slice
          subst hce
          obtain ⟨c0, c1, c2, c3, c4⟩ := HWX.out
          dsimp only [wvOf] at c0 c1 c2 c3 c4
          subst e1
          generalize Hs[j] = x at *
          go_wp2_with (at_builtin; rw [← hW1, ← hB2]; refine wpList_append_ent rfl (.tmp 61) (.tmp 67) rfl _ L rfl HR1.out B2 (entH q t x) rfl HB2.out HLN.out ?_)
          intro g2 cap2 w8 hr8 ho8 hg8
          rw [← hW1] at ho8
          clear hW1 hB2 c0 c1 c2 c3 c4 hc1
          have HO8 : Hid (Only (ownL vc) w7 w8) := ((HOX.out.trans (HO1.out.mono (by simp))).next ho8.out (fun y hy => HVX.out y hy))
          have HV8 : Hid (g2 ∈ ownL vc ∨ w7.heap.size ≤ g2) := by
            show _ ∨ _
            rcases hg8.out with h1 | h1
            · exact HVX.out g2 h1
            · right; have h1' := HOX.out.size; have h2 := HO1.out.size; omega
          clear ho8 hg8
          go_wp2_with fail
          go_roundw
          case rel =>
            refine ⟨j + 1, _, rfl, by omega, by go_num, by rw [HT2.out]; exact hr8.out, ?_, HO8.out⟩
            intro y hy
            simp [ownL, Value.ownBlock] at hy
            subst hy; exact HV8.out
          case measure => simp [intOf]; omega
        · have HMJ : Hid (Hs.take j = Hs) := List.take_of_length_le (by have := HKK.out; omega)
          rw [HMJ.out] at HRX
          go_wp2
          go_ret
          refine ⟨vd, rfl, by rw [HGE.out]; exact HRX.out, ?_, ?_⟩
          · intro y hy
            rcases HVX.out y hy with h | h
            · have := HV.out y h; have := HWB.out; omega
            · have := HWB.out; have := HBW.out; have := HWS.out; omega
          · exact Only.below HP7.out HOX.out (by have := HWB.out; have := HBW.out; have := HWS.out; omega) (fun y hy => by have := HV.out y hy; have := HWB.out; omega)
end Go.Proofs.YtlkneapidmdpbaaGreatDoor
