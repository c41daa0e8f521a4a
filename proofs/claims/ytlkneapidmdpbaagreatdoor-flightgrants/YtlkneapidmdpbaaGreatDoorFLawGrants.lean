/-
  The walk of the law FlightGrants: whatever the input, it returns true, and nothing that was there has turned. Conditions: the arguments are such as any that come in; the library's variables and the tables of methods are as they are laid.
-/
import Derived.Test.YtlkneapidmdpbaaGreatDoorFAwake
import Derived.Test.YtlkneapidmdpbaaGreatDoorFGrants
import Derived.Test.YtlkneapidmdpbaaGreatDoorFMath5
import Derived.Test.YtlkneapidmdpbaaGreatDoorLAskW
import Derived.Test.YtlkneapidmdpbaaGreatDoorBAwake
import Derived.Test.YtlkneapidmdpbaaGreatDoorBCover
namespace Go.Proofs.YtlkneapidmdpbaaGreatDoor
open Go.RowKit

/-- what holds all through at first: the request in its block, the answer's headers -/
structure GaF (w W : World) (r : Rv) (A : Option Addr) (xs : List (ByteArray × ByteArray)) : Prop where
  bel : Below w.heap.size w W
  env0 : Env8 w
  row0 : PRow w w.heap.size A xs
  rrow0 : PRow w w.heap.size r.A r.xs
  req : RqAt W w.heap.size r
section
variable {w W W' : World} {r : Rv} {A : Option Addr} {xs : List (ByteArray × ByteArray)}
theorem GaF.next (h : GaF w W r A xs) (hb : Below W.heap.size W W') : GaF w W' r A xs := ⟨h.bel.trans (hb.mono h.bel.size), h.env0, h.row0, h.rrow0, h.req.below hb h.req.lt⟩
theorem GaF.env (h : GaF w W r A xs) : Env8 W := h.env0.below h.bel
theorem GaF.row (h : GaF w W r A xs) : PRow W w.heap.size A xs := h.row0.below h.bel
theorem GaF.rrow (h : GaF w W r A xs) : PRow W w.heap.size r.A r.xs := h.rrow0.below h.bel
end
theorem RqAt.only {s : List Nat} {W W' : World} {g : Nat} {r : Rv} (o : RqAt W g r) (k : Only s W W') (hg : g ∉ s) : RqAt W' g r :=
  ⟨(k.cell o.lt hg).trans o.c0, (k.cell o.lt hg).trans o.c1, (k.cell o.lt hg).trans o.c2, (k.cell o.lt hg).trans o.c3, (k.cell o.lt hg).trans o.c4, (k.cell o.lt hg).trans o.c5, (k.cell o.lt hg).trans o.c6, (k.cell o.lt hg).trans o.c7, (k.cell o.lt hg).trans o.c8, (k.cell o.lt hg).trans o.c9⟩
theorem AlAt.only {s : List Nat} {W W' : World} {g : Nat} {a : Av} (o : AlAt W g a) (k : Only s W W') (hg : g ∉ s) : AlAt W' g a :=
  ⟨(k.cell o.lt hg).trans o.c0, (k.cell o.lt hg).trans o.c1, (k.cell o.lt hg).trans o.c2, fun i => (k.frozen (p := ⟨g, i, none⟩) o.lt hg).trans (o.own i)⟩
/-- what stands by while the cache is filled: the request and what was let in their blocks, what is granted in a row of its own -/
structure GbF (w W : World) (r : Rv) (g6 : Nat) (a : Av) (vg : Value) (G : List En) : Prop where
  bel : Below w.heap.size w W
  env0 : Env8 w
  ok0 : RqOk w r
  req : RqAt W w.heap.size r
  al : AlAt W g6 a
  row : EnRow W vg G
section
variable {w W W' : World} {r : Rv} {g6 g : Nat} {a : Av} {vg vd : Value} {G L L' : List En}
theorem GbF.next (h : GbF w W r g6 a vg G) (hb : Below W.heap.size W W') : GbF w W' r g6 a vg G :=
  ⟨h.bel.trans (hb.mono h.bel.size), h.env0, h.ok0, h.req.below hb h.req.lt, h.al.up hb, h.row.old (Only.of_below hb [])⟩
theorem GbF.env (h : GbF w W r g6 a vg G) : Env8 W := h.env0.below h.bel
theorem GbF.ok (h : GbF w W r g6 a vg G) : RqOk W r := h.ok0.below h.bel
/-- and the cache beside it -/
structure GpF (w W : World) (r : Rv) (g6 : Nat) (a : Av) (vg : Value) (G : List En) (g : Nat) (vd : Value) (L : List En) : Prop where
  k : GbF w W r g6 a vg G
  c : CaNew w W g 64 vd L
  off : ∀ x, x = w.heap.size ∨ x = g6 ∨ x ∈ ownL vg → x ∉ g :: ownL vd
theorem GpF.next (h : GpF w W r g6 a vg G g vd L) (hb : Below W.heap.size W W') : GpF w W' r g6 a vg G g vd L :=
  ⟨h.k.next hb, h.c.old (Only.of_below hb []), h.off⟩
theorem GpF.old (h : GpF w W r g6 a vg G g vd L) (o : Only [] W W') : GpF w W' r g6 a vg G g vd L := h.next (o.to_below (by simp))
theorem GpF.put (h : GpF w W r g6 a vg G g vd L) (s : CaStep W W' g 64 vd L') : ∃ vd', GpF w W' r g6 a vg G g vd' L' := by
  obtain ⟨vd', hc, ho, hg⟩ := h.c.step s
  refine ⟨vd', ⟨hc.b, h.k.env0, h.k.ok0, h.k.req.only ho (h.off _ (.inl rfl)), h.k.al.only ho (h.off _ (.inr (.inl rfl))), h.k.row.only ho (fun x hx => h.off x (.inr (.inr hx)))⟩, hc, ?_⟩
  intro x hx hm
  have hlt : x < W.heap.size := by
    rcases hx with rfl | rfl | h1
    · exact h.k.req.lt
    · exact h.k.al.lt
    · exact h.k.row.own h1
  rcases List.mem_cons.1 hm with h1 | h1
  · exact h.off x hx (by simp [h1])
  · rcases hg _ h1 with h2 | h2
    · exact h.off x hx (by simp [h2])
    · omega
theorem GpF.made (h : GbF w W r g6 a vg G) (hc : CaAt W' g 64 (.slice none 0 0) []) (o : Only [] W W') (hg : W.heap.size ≤ g) : GpF w W' r g6 a vg G g (.slice none 0 0) [] := by
  refine ⟨h.next (o.to_below (by simp)), CaNew.made h.bel hc o hg, ?_⟩
  intro x hx hm
  have hlt : x < W.heap.size := by
    rcases hx with rfl | rfl | h1
    · exact h.req.lt
    · exact h.al.lt
    · exact h.row.own h1
  simp [ownL, Value.ownBlock] at hm
  omega
end
/-- what is granted, all that the cache wants of it -/
structure GrOk (q : Rq) (G : List En) (now : Nat) : Prop where
  put : ∀ i, i < G.length → putB (nthE G i) now = true ∧ putL 64 (nthE G i) now (G.take i) = G.take (i + 1)
  cell : ∀ i, i < G.length → (nthE G i).k = ⟨mk (wantQ q).o, mk (wantQ q).u, (wantQ q).cr⟩
theorem grok_of {q : Rq} {st : Int} {H : List Hd} {now : Nat} (hj : judgeI q st H = 0) (hn : now ≤ 4611686018427387904) (ha : (judgeA q st H).age ≠ 0) (hle : (judgeA q st H).age ≤ 7200) (h64 : (grantsQ q (judgeA q st H) now).length ≤ 64) : GrOk q (grantsQ q (judgeA q st H) now) now := by
  obtain ⟨hnd, _⟩ := judge_all hj
  have h0 := needs_ok hnd
  rw [judgeA_yes hj] at *
  have hu : untilF now (readA H) = now + (readA H).age := by
    unfold untilF Lk.addT
    rw [if_neg (by omega)]
    omega
  rw [grants_yes hnd ha] at *
  have hf := read_full (H := H) h0
  refine ⟨fun i hi => ?_, fun i hi => ?_⟩
  · exact put_more hi h64 (entsF_nodup hf) (fun e he => entsF_cell he) (fun e he => entsF_ok hf he) (by rw [hu]; omega)
  · exact (entsF_cell (nthE_mem hi)).1
theorem grcov_of {q : Rq} {st : Int} {H : List Hd} {now later : Nat} (hj : judgeI q st H = 0) (hn : now ≤ 4611686018427387904) (ha : (judgeA q st H).age ≠ 0) (hle : (judgeA q st H).age ≤ 7200) : covL (clF (wantQ q)) (mk (wantQ q).m) ((namesQ q).map mk) (now + later) (grantsQ q (judgeA q st H) now) = decide (later < (judgeA q st H).age) := by
  obtain ⟨hnd, _⟩ := judge_all hj
  rw [judgeA_yes hj] at *
  rw [grants_yes hnd ha]
  exact ents_cover hj hn ha hle
theorem jread_small {q : Rq} {st : Int} {xs : List (ByteArray × ByteArray)} (h : Sm (xs.map hd)) (hj : judgeI q st (xs.map hd) = 0) : (∀ x ∈ (judgeA q st (xs.map hd)).ms, x.length ≤ maxLen) ∧ ∀ x ∈ (judgeA q st (xs.map hd)).hs, x.length ≤ maxLen := by
  rw [judgeA_yes hj]; exact read_small h

set_option maxRecDepth 100000 in
set_option maxHeartbeats 16000000 in
theorem walk_FlightGrants (r : Rv) (st : Int) (a2 : Option Addr) (c2 : Nat) (xs : List (ByteArray × ByteArray)) (now later : Int) (w : World) (h0 : RArg w r) (_h1 : (Lit.int .i64 st).wf = true) (h2 : HArg w a2 c2 xs) (h3 : (Lit.int .u64 now).wf = true) (h4 : (Lit.int .u64 later).wf = true) (he : Env8 w) :
    Calls Tryz.prog 6 #[r.v, .int .i64 st, .slice a2 xs.length c2, .int .u64 now, .int .u64 later] w fun e w' => e = .returned (.bool true) ∧ Below w.heap.size w w' := by
  have hb3 := wfU h3
  have hb4 := wfU h4
  obtain ⟨now, rfl⟩ : ∃ x : Nat, now = (x : Int) := ⟨now.toNat, by omega⟩
  obtain ⟨later, rfl⟩ : ∃ x : Nat, later = (x : Int) := ⟨later.toNat, by omega⟩
  have HL0 : Hid (xs.length ≤ maxLen) := Nat.le_trans h2.2.2.1 h2.2.2.2.1
  have HS0 := Lib.hid h2.2.1
  have H0 := Lib.hid h0
  have HE := Lib.hid he
  obtain ⟨W0, hW0⟩ : ∃ W0, W0 = w.alloc (.cells #[.string r.m, .string r.u, .string r.o, .int .i64 r.mode, .bool r.cr, .slice r.A r.n r.c, .int .i64 r.cl, .int .u64 r.tm, .int .i64 r.gr, .int .i64 r.sg] 25) := ⟨_, rfl⟩
  have HP0 : Hid (GaF w W0 r a2 xs) := by rw [hW0]; exact ⟨(Below.refl _ _).alloc (Nat.le_refl _) _, he, h2.1, h0.row.1, RqAt.new w r _⟩
  clear h0 _h1 h2 h3 h4 he hb3 hb4
  obtain ⟨gr, hgr⟩ : ∃ b, b = greatR r := ⟨_, rfl⟩
  have HG := Lib.hid hgr
  obtain ⟨g1, hg1⟩ : ∃ g1, greatB xs = g1 := ⟨_, rfl⟩
  have HG1 := Lib.hid hg1
  clear hgr hg1
  unfold Rv.v
  go_enter Tryz.func6, Tryz.ntmps6
  go_wp2_with fail
  rw [← hW0]
  clear hW0
  refine (GreatReq_any r _ w.heap.size HP0.out.rrow HP0.out.bel.size H0.out.len (Nat.le_trans H0.out.row.2.2.1 H0.out.row.2.2.2.1) H0.out.row.2.1).mono ?_
  rintro e w1 ⟨rfl, hb⟩
  rw [← HG.out]
  have HP1 : Hid (GaF w w1 r a2 xs) := HP0.out.next hb
  clear hb HP0
  cases gr
  case true =>
    go_wp2_with fail
    refine (awake17_any _ HP1.out.env).mono ?_
    rintro e w9 ⟨rfl, hb⟩
    have HBZ : Hid (Below w.heap.size w w9) := HP1.out.bel.trans (hb.mono HP1.out.bel.size)
    clear hb
    go_wp2
    go_ret
    exact ⟨rfl, HBZ.out⟩
  case false =>
  have HK := Lib.hid (H0.out.ok HG.out.symm)
  go_wp2_with fail
  refine (Great_any a2 _ c2 w.heap.size xs _ rfl HP1.out.row HL0.out (fun x hx => HS0.out x hx)).mono ?_
  rintro e w' ⟨rfl, rfl⟩
  rw [show (decide (40 < xs.length) || greatGo 0 xs) = g1 from HG1.out]
  cases g1
  case true =>
    go_wp2_with fail
    refine (awake17_any _ HP1.out.env).mono ?_
    rintro e w9 ⟨rfl, hb⟩
    have HBZ : Hid (Below w.heap.size w w9) := HP1.out.bel.trans (hb.mono HP1.out.bel.size)
    clear hb
    go_wp2
    go_ret
    exact ⟨rfl, HBZ.out⟩
  case false =>
  by_cases hn1 : 4611686018427387904 < now
  case pos =>
    have hd1 : decide ((4611686018427387904 : Int) < (now : Int)) = true := decide_eq_true (by omega)
    go_wp2_with fail
    refine (awake17_any _ HP1.out.env).mono ?_
    rintro e w9 ⟨rfl, hb⟩
    have HBZ : Hid (Below w.heap.size w w9) := HP1.out.bel.trans (hb.mono HP1.out.bel.size)
    clear hb
    go_wp2
    go_ret
    exact ⟨rfl, HBZ.out⟩
  have hd1 : decide ((4611686018427387904 : Int) < (now : Int)) = false := decide_eq_false (by omega)
  by_cases hn2 : 4611686018427387904 < later
  case pos =>
    have hd2 : decide ((4611686018427387904 : Int) < (later : Int)) = true := decide_eq_true (by omega)
    go_wp2_with fail
    refine (awake17_any _ HP1.out.env).mono ?_
    rintro e w9 ⟨rfl, hb⟩
    have HBZ : Hid (Below w.heap.size w w9) := HP1.out.bel.trans (hb.mono HP1.out.bel.size)
    clear hb
    go_wp2
    go_ret
    exact ⟨rfl, HBZ.out⟩
  have hd2 : decide ((4611686018427387904 : Int) < (later : Int)) = false := decide_eq_false (by omega)
  have HN1 : Hid (now ≤ 4611686018427387904) := by show _ ≤ _; omega
  have HN2 : Hid (later ≤ 4611686018427387904) := by show _ ≤ _; omega
  have HSM : Hid (Sm (xs.map hd)) := (great_bd HG1.out).sm (by omega) (by omega) (by omega)
  obtain ⟨r0, r1, r2, r3, r4, r5, r6, r7, r8, r9⟩ := HP1.out.req
  go_wp2_with fail
  clear r0 r1 r2 r3 r4 r5 r6 r7 r8 r9 hn1 hd1 hn2 hd2
  refine (fJudge_any r st a2 _ c2 w.heap.size xs _ (HK.out.below HP1.out.bel) HP1.out.env rfl HP1.out.bel.size HP1.out.row HSM.out).mono ?_
  rintro e w2 ⟨a, rfl, ha, hb⟩
  have HP2 : Hid (GaF w w2 r a2 xs) := HP1.out.next hb
  clear hb HP1
  obtain ⟨J, hJ⟩ : ∃ K, judgeI r.q st (xs.map hd) = K := ⟨_, rfl⟩
  have HJ := Lib.hid hJ
  obtain ⟨A1, n1, c1, A2, n2, c3, ag0⟩ := a
  obtain ⟨w3, hw3⟩ : ∃ W, W = w2.alloc (Obj.cells #[.slice A1 n1 c1, .slice A2 n2 c3, .int .u64 ag0] 28) := ⟨_, rfl⟩
  obtain ⟨g6, hg6⟩ : ∃ g, g = w2.heap.size := ⟨_, rfl⟩
  have hb : Below w2.heap.size w2 w3 := by rw [hw3]; exact (Below.refl _ _).alloc (Nat.le_refl _) _
  have HP3 : Hid (GaF w w3 r a2 xs) := HP2.out.next hb
  have HA3 : Hid (AvIs w3 ⟨A1, n1, c1, A2, n2, c3, ag0⟩ (judgeA r.q st (xs.map hd))) := ha.below hb
  have HL3 : Hid (AlAt w3 g6 ⟨A1, n1, c1, A2, n2, c3, ag0⟩) := by show AlAt _ _ _; rw [hw3, hg6]; exact AlAt.new w2 ⟨A1, n1, c1, A2, n2, c3, ag0⟩ _
  rw [hJ]
  clear hb ha hJ HP2
  simp only [Av.v]
  go_upto_region 4 with fail
  rw [← hw3, ← hg6]
  clear hw3 hg6
  by_cases hJ0 : J = 0
  case neg =>
    have hz := judgeA_no HJ.out hJ0
    obtain rfl : n1 = 0 := by have h := HA3.out.e1; rw [hz] at h; exact h
    obtain rfl : n2 = 0 := by have h := HA3.out.e2; rw [hz] at h; exact h
    obtain ⟨b0, b1, b2, _⟩ := HL3.out
    dsimp only at b0 b1 b2
    clear hz
    go_wp2_with fail
    refine (awake17_any _ HP3.out.env).mono ?_
    rintro e w9 ⟨rfl, hb⟩
    have HBZ : Hid (Below w.heap.size w w9) := HP3.out.bel.trans (hb.mono HP3.out.bel.size)
    clear hb
    go_wp2
    go_ret
    exact ⟨rfl, HBZ.out⟩
  subst hJ0
  obtain ⟨ag, hag⟩ : ∃ n, n = (judgeA r.q st (xs.map hd)).age := ⟨_, rfl⟩
  have HAG := Lib.hid hag
  obtain rfl : ag0 = (ag : Int) := by rw [hag]; exact HA3.out.g
  have HGR : Hid ((judgeA r.q st (xs.map hd)).ms.length + (judgeA r.q st (xs.map hd)).hs.length ≤ 24162 ∧ (judgeA r.q st (xs.map hd)).age ≤ 7200) := fjudge_great HG1.out
  have HRS : Hid ((∀ x ∈ (judgeA r.q st (xs.map hd)).ms, x.length ≤ maxLen) ∧ ∀ x ∈ (judgeA r.q st (xs.map hd)).hs, x.length ≤ maxLen) := jread_small HSM.out HJ.out
  clear hag
  obtain ⟨r0, r1, r2, r3, r4, r5, r6, r7, r8, r9⟩ := HP3.out.req
  obtain ⟨b0, b1, b2, _⟩ := HL3.out
  dsimp only at b0 b1 b2
  go_wp2_with fail
  clear r0 r1 r2 r3 r4 r5 r6 r7 r8 r9 b0 b1 b2
  refine (fGrants_any r ⟨A1, n1, c1, A2, n2, c3, (ag : Int)⟩ (judgeA r.q st (xs.map hd)) now _ (HK.out.below HP3.out.bel) HP3.out.env HA3.out (by have := HGR.out.1; omega) HRS.out (by have := HN1.out; omega) (by have := HGR.out.2; omega)).mono ?_
  rintro e w4 ⟨vg, rfl, hrow, _, hb⟩
  obtain ⟨G, hG⟩ : ∃ G, G = grantsQ r.q (judgeA r.q st (xs.map hd)) now := ⟨_, rfl⟩
  rw [← hG] at hrow
  have HGG := Lib.hid hG
  have HB4 : Hid (GbF w w4 r g6 ⟨A1, n1, c1, A2, n2, c3, (ag : Int)⟩ vg G) := ⟨HP3.out.bel.trans (hb.mono HP3.out.bel.size), HE.out, HK.out, HP3.out.req.below hb HP3.out.req.lt, HL3.out.up hb, hrow⟩
  clear hb hG hrow HP3 HL3 HA3
  obtain ⟨Ag, cg, hvg, hcg, hcm⟩ := HB4.out.row.slice
  obtain ⟨N, hN⟩ : ∃ N, N = G.length := ⟨_, rfl⟩
  rw [← hN] at hvg
  subst hvg
  have HNN := Lib.hid hN
  clear hN hcg hcm
  have HZA : Hid (ag = 0 → N = 0) := by
    show _ → _
    intro h
    rw [HNN.out, HGG.out, grants_no (.inr (by rw [← HAG.out]; exact h))]; rfl
  by_cases h64 : 64 < N
  case pos =>
    have hpa : (0 : Int) < (ag : Int) := by
      have h1 := HZA.out
      by_cases h2 : ag = 0
      · have := h1 h2; omega
      · omega
    have hd1 : decide ((64 : Int) < (N : Int)) = true := decide_eq_true (by omega)
    have hd2 : decide ((0 : Int) < (ag : Int)) = true := decide_eq_true hpa
    obtain ⟨b0, b1, b2, _⟩ := HB4.out.al
    dsimp only at b0 b1 b2
    go_wp2_with fail
    refine (awake17_any _ HB4.out.env).mono ?_
    rintro e w9 ⟨rfl, hb⟩
    have HBZ : Hid (Below w.heap.size w w9) := HB4.out.bel.trans (hb.mono HB4.out.bel.size)
    clear hb
    go_wp2
    go_ret
    exact ⟨rfl, HBZ.out⟩
  have hd1 : decide ((64 : Int) < (N : Int)) = false := decide_eq_false (by omega)
  by_cases hz0 : ag = 0
  case pos =>
    obtain rfl : N = 0 := HZA.out hz0
    subst hz0
    obtain ⟨b0, b1, b2, _⟩ := HB4.out.al
    dsimp only at b0 b1 b2
    go_wp2_with fail
    refine (awake17_any _ HB4.out.env).mono ?_
    rintro e w9 ⟨rfl, hb⟩
    have HBZ : Hid (Below w.heap.size w w9) := HB4.out.bel.trans (hb.mono HB4.out.bel.size)
    clear hb
    go_wp2
    go_ret
    exact ⟨rfl, HBZ.out⟩
  have HZ0 : Hid (ag ≠ 0) := hz0
  have H64 : Hid (N ≤ 64) := by show _ ≤ _; omega
  have HOK : Hid (GrOk r.q G now) := by rw [HGG.out]; exact grok_of HJ.out HN1.out (by rw [← HAG.out]; exact hz0) HGR.out.2 (by rw [← HGG.out, ← HNN.out]; exact H64.out)
  obtain ⟨bb, hbb⟩ : ∃ b, decide ((later : Int) < (ag : Int)) = b := ⟨_, rfl⟩
  have HCV : Hid (covL (clF (wantQ r.q)) (mk (wantQ r.q).m) ((namesQ r.q).map mk) (now + later) G = bb) := by
    show _ = _
    rw [HGG.out, grcov_of HJ.out HN1.out (by rw [← HAG.out]; exact hz0) HGR.out.2, ← hbb, ← HAG.out]
    exact decide_eq_decide.2 (by omega)
  have HBB := Lib.hid hbb
  clear hbb
  have hdz : ((ag : Int) = 0) = False := by simp; exact hz0
  obtain ⟨b0, b1, b2, _⟩ := HB4.out.al
  dsimp only at b0 b1 b2
  go_wp2_with fail
  clear b0 b1 b2 hd1 h64 hdz hz0
  refine (cNew_any 64 _).mono ?_
  rintro e w5 ⟨g, rfl, hc, ho, hg⟩
  rw [show clampE 64 = 64 by rfl] at hc
  have HC5 : Hid (GpF w w5 r g6 ⟨A1, n1, c1, A2, n2, c3, (ag : Int)⟩ (.slice Ag N cg) G g (.slice none 0 0) []) := GpF.made HB4.out hc ho hg
  clear hc ho hg HB4
  obtain ⟨co, hco⟩ : ∃ b, b = mk (wantQ r.q).o := ⟨_, rfl⟩
  obtain ⟨cu, hcu⟩ : ∃ b, b = mk (wantQ r.q).u := ⟨_, rfl⟩
  obtain ⟨cr, hcr⟩ : ∃ b, b = (wantQ r.q).cr := ⟨_, rfl⟩
  obtain ⟨wm, hwm⟩ : ∃ b, b = mk (wantQ r.q).m := ⟨_, rfl⟩
  have HCR : Hid ((Value.agg #[.string (mk (wantQ r.q).o), .string (mk (wantQ r.q).u), .bool (wantQ r.q).cr]) = .agg #[.string co, .string cu, .bool cr]) := by show _ = _; rw [hco, hcu, hcr]
  have HCL : Hid (clF (wantQ r.q) = ⟨co, cu, cr⟩) := by show _ = _; rw [hco, hcu, hcr]; rfl
  have HCE : Hid (∀ i, i < N → (nthE G i).k = ⟨co, cu, cr⟩) := by show ∀ _, _; intro i hi; rw [HOK.out.cell i (by rw [← HNN.out]; exact hi), hco, hcu, hcr]
  have HWM := Lib.hid hwm
  clear hco hcu hcr hwm
  go_wp2_with fail
  go_loopw [15] (fun i wr => ∃ (j : Nat) (vd : Value), j ≤ N ∧ i = .int .i64 j ∧ GpF w wr r g6 ⟨A1, n1, c1, A2, n2, c3, (ag : Int)⟩ (.slice Ag N cg) G g vd (G.take j)) (fun i _ => N - (intOf i).toNat)
  case atStart => exact ⟨0, _, Nat.zero_le _, rfl, HC5.out⟩
  case round =>
    obtain ⟨j, vd, hj, rfl, hk⟩ := hrel
    have HN0 : Hid (GpF w wr r g6 ⟨A1, n1, c1, A2, n2, c3, (ag : Int)⟩ (.slice Ag N cg) G g vd (G.take j)) := hk
    clear hk HC5
    by_cases hlt : j < N
    · have hkG : j < G.length := by rw [← HNN.out]; exact hlt
      have HPT := Lib.hid (HOK.out.put j hkG)
      obtain ⟨gb, rfl⟩ : ∃ gb, Ag = some ⟨gb, 0, none⟩ := by
        obtain ⟨gb, cap, e1, _⟩ := HN0.out.k.row.some_ (by omega)
        exact ⟨gb, by injection e1⟩
      obtain ⟨E, hE⟩ : ∃ E, E = nthE G j := ⟨_, rfl⟩
      have hEk : E.k = ⟨co, cu, cr⟩ := by rw [hE]; exact HCE.out j hlt
      have hel : ∀ W vd L, GpF w W r g6 ⟨A1, n1, c1, A2, n2, c3, (ag : Int)⟩ (.slice (some ⟨gb, 0, none⟩) N cg) G g vd L → EnAt W gb j E := fun W vd L h => by rw [hE]; exact h.k.row.el HNN.out hkG
      rw [← hE] at HPT
      have HEL := Lib.hid hel
      clear hE hel
      obtain ⟨⟨eo, eu, ec⟩, em, eh, et⟩ := E
      injection hEk with h1 h2 h3
      subst h1 h2 h3
      have hix : (j : Int) < (N : Int) := by omega
      have hN64 : N ≤ 64 := H64.out
      go_wp2_with fail
      obtain ⟨F, hF⟩ : ∃ F : World → Prop, ∀ W, F W ↔ ∃ (vd : Value) (L : List En), GpF w W r g6 ⟨A1, n1, c1, A2, n2, c3, (ag : Int)⟩ (.slice (some ⟨gb, 0, none⟩) N cg) G g vd L := ⟨_, fun _ => Iff.rfl⟩
      have zz0 : ∀ p : Held F, p.w.cell? ⟨w.heap.size, 0, none⟩ = some (.string r.m) := fun p => by obtain ⟨_, _, h⟩ := (hF _).1 p.h; exact h.k.req.c0
      have zz1 : ∀ p : Held F, p.w.cell? ⟨w.heap.size, 1, none⟩ = some (.string r.u) := fun p => by obtain ⟨_, _, h⟩ := (hF _).1 p.h; exact h.k.req.c1
      have zz2 : ∀ p : Held F, p.w.cell? ⟨w.heap.size, 2, none⟩ = some (.string r.o) := fun p => by obtain ⟨_, _, h⟩ := (hF _).1 p.h; exact h.k.req.c2
      have zz3 : ∀ p : Held F, p.w.cell? ⟨w.heap.size, 3, none⟩ = some (.int .i64 r.mode) := fun p => by obtain ⟨_, _, h⟩ := (hF _).1 p.h; exact h.k.req.c3
      have zz4 : ∀ p : Held F, p.w.cell? ⟨w.heap.size, 4, none⟩ = some (.bool r.cr) := fun p => by obtain ⟨_, _, h⟩ := (hF _).1 p.h; exact h.k.req.c4
      have zz5 : ∀ p : Held F, p.w.cell? ⟨w.heap.size, 5, none⟩ = some (.slice r.A r.n r.c) := fun p => by obtain ⟨_, _, h⟩ := (hF _).1 p.h; exact h.k.req.c5
      have zz6 : ∀ p : Held F, p.w.cell? ⟨w.heap.size, 6, none⟩ = some (.int .i64 r.cl) := fun p => by obtain ⟨_, _, h⟩ := (hF _).1 p.h; exact h.k.req.c6
      have zz7 : ∀ p : Held F, p.w.cell? ⟨w.heap.size, 7, none⟩ = some (.int .u64 r.tm) := fun p => by obtain ⟨_, _, h⟩ := (hF _).1 p.h; exact h.k.req.c7
      have zz8 : ∀ p : Held F, p.w.cell? ⟨w.heap.size, 8, none⟩ = some (.int .i64 r.gr) := fun p => by obtain ⟨_, _, h⟩ := (hF _).1 p.h; exact h.k.req.c8
      have zz9 : ∀ p : Held F, p.w.cell? ⟨w.heap.size, 9, none⟩ = some (.int .i64 r.sg) := fun p => by obtain ⟨_, _, h⟩ := (hF _).1 p.h; exact h.k.req.c9
      have ze0 : ∀ p : Held F, p.w.cell? ⟨gb, j * 6, none⟩ = some (.string eo) := fun p => by obtain ⟨vd, L, h⟩ := (hF _).1 p.h; exact (HEL.out _ vd L h).c0
      have ze1 : ∀ p : Held F, p.w.cell? ⟨gb, j * 6 + 1, none⟩ = some (.string eu) := fun p => by obtain ⟨vd, L, h⟩ := (hF _).1 p.h; exact (HEL.out _ vd L h).c1
      have ze2 : ∀ p : Held F, p.w.cell? ⟨gb, j * 6 + 2, none⟩ = some (.bool ec) := fun p => by obtain ⟨vd, L, h⟩ := (hF _).1 p.h; exact (HEL.out _ vd L h).c2
      have ze3 : ∀ p : Held F, p.w.cell? ⟨gb, j * 6 + 3, none⟩ = some (.string em) := fun p => by obtain ⟨vd, L, h⟩ := (hF _).1 p.h; exact (HEL.out _ vd L h).c3
      have ze4 : ∀ p : Held F, p.w.cell? ⟨gb, j * 6 + 4, none⟩ = some (.string eh) := fun p => by obtain ⟨vd, L, h⟩ := (hF _).1 p.h; exact (HEL.out _ vd L h).c4
      have ze5 : ∀ p : Held F, p.w.cell? ⟨gb, j * 6 + 5, none⟩ = some (.int .u64 (et : Int)) := fun p => by obtain ⟨vd, L, h⟩ := (hF _).1 p.h; exact (HEL.out _ vd L h).c5
      have HFW : Hid (∀ W vd L, GpF w W r g6 ⟨A1, n1, c1, A2, n2, c3, (ag : Int)⟩ (.slice (some ⟨gb, 0, none⟩) N cg) G g vd L → F W) := fun W vd L h => (hF W).2 ⟨vd, L, h⟩
      clear hF
      obtain ⟨wd, hwd⟩ : ∃ W, W = wr.drew := ⟨_, rfl⟩
      have HN1b : Hid (GpF w wd r g6 ⟨A1, n1, c1, A2, n2, c3, (ag : Int)⟩ (.slice (some ⟨gb, 0, none⟩) N cg) G g vd (G.take j)) := HN0.out.next (by rw [hwd]; exact (Below.refl _ _).drew)
      have hne : Nonempty (Held F) := ⟨⟨wd, HFW.out _ _ _ HN1b.out⟩⟩
      refine mix_start F (by kernel_rfl) ?_
      rw [← hwd]
      clear hwd
      refine mix_seg [0, 1, 2, 3, 4, 5] (by kernel_rfl) (HFW.out _ _ _ HN1b.out) ?_
      simp only [segOf, pickOps, pickOp]
      repeat (go_big_quiet_step (fail))
      refine wpQuiet_nil ?_
      refine mix_run 6 (by kernel_rfl) ?_
      simp only [segOf, pickOps, pickOp]
      go_wp2_with fail
      refine (aCell_any r _ HN1b.out.k.ok HN1b.out.k.env).mono ?_
      rintro e w6 ⟨rfl, hb⟩
      rw [HCR.out]
      have HN6 : Hid (GpF w w6 r g6 ⟨A1, n1, c1, A2, n2, c3, (ag : Int)⟩ (.slice (some ⟨gb, 0, none⟩) N cg) G g vd (G.take j)) := HN1b.out.next hb
      clear hb
      go_wp2_with fail
      refine MixPost.normal (HFW.out _ _ _ HN6.out) ?_
      refine mix_seg [7, 8, 9, 10, 11, 12, 13, 14] (by kernel_rfl) (HFW.out _ _ _ HN6.out) ?_
      simp only [segOf, pickOps, pickOp]
      repeat (go_big_quiet_step (fail))
      refine wpQuiet_nil ?_
      refine mix_run 15 (by kernel_rfl) ?_
      simp only [segOf, pickOps, pickOp]
      have hput := cPut_any g 64 vd (G.take j) ⟨⟨eo, eu, ec⟩, em, eh, et⟩ now w6 HN6.out.c.c
      rw [HPT.out.1, HPT.out.2] at hput
      unfold entV at hput
      dsimp only at hput
      go_wp2_with fail
      refine hput.mono ?_
      rintro e w7 ⟨rfl, hs⟩
      obtain ⟨vd7, h7⟩ := HN6.out.put hs
      have HN7 := Lib.hid h7
      clear hput hs h7
      go_wp2_with fail
      refine MixPost.normal (HFW.out _ _ _ HN7.out) ?_
      refine mix_seg [16, 17] (by kernel_rfl) (HFW.out _ _ _ HN7.out) ?_
      simp only [segOf, pickOps, pickOp]
      repeat (go_big_quiet_step (fail))
      refine wpQuiet_nil ?_
      refine mix_done (by kernel_rfl) ?_
      go_wp2_with fail
      go_roundw
      case rel => exact ⟨j + 1, vd7, by omega, by go_num, HN7.out⟩
      case measure => simp [intOf]; omega
    · obtain rfl : j = N := by omega
      have HTK : Hid (G.take j = G) := List.take_of_length_le (by have := HNN.out; omega)
      have HN0b : Hid (GpF w wr r g6 ⟨A1, n1, c1, A2, n2, c3, (ag : Int)⟩ (.slice Ag j cg) G g vd G) := by have h := HN0.out; rw [HTK.out] at h; exact h
      clear HN0 HTK
      obtain ⟨r0, r1, r2, r3, r4, r5, r6, r7, r8, r9⟩ := HN0b.out.k.req
      go_wp2_with fail
      clear r0 r1 r2 r3 r4 r5 r6 r7 r8 r9
      refine (aNorm_any r _ HN0b.out.k.ok HN0b.out.k.env).mono ?_
      rintro e w6 ⟨y, rfl, hyq, _, hb⟩
      have HOQ := Lib.hid (needs_ok (judge_all HJ.out).1)
      have hym : y.m = wm := by rw [HWM.out, ← mk_eq y.m]; exact congrArg mk ((congrArg Rq.m hyq).trans (by rw [want_0 HOQ.out]))
      obtain ⟨w7, hw7⟩ : ∃ W, W = w6.alloc (Obj.cells #[.string y.m, .string y.u, .string y.o, .int .i64 y.mode, .bool y.cr, .slice y.A y.n y.c, .int .i64 y.cl, .int .u64 y.tm, .int .i64 y.gr, .int .i64 y.sg] 25) := ⟨_, rfl⟩
      obtain ⟨g7, hg7⟩ : ∃ g, g = w6.heap.size := ⟨_, rfl⟩
      have hb7 : Below w6.heap.size w6 w7 := by rw [hw7]; exact (Below.refl _ _).alloc (Nat.le_refl _) _
      have hy7 : RqAt w7 g7 y := by rw [hw7, hg7]; exact RqAt.new w6 y _
      have HY7 : Hid (w7.cell? ⟨g7, 0, none⟩ = some (.string wm)) := by show _ = _; rw [← hym]; exact hy7.c0
      have HN7 : Hid (GpF w w7 r g6 ⟨A1, n1, c1, A2, n2, c3, (ag : Int)⟩ (.slice Ag j cg) G g vd G) := (HN0b.out.next hb).next hb7
      clear hb hb7 hy7 hym hyq HN0b
      simp only [Rv.v]
      go_upto_region 18 with fail
      rw [← hw7, ← hg7]
      clear hw7 hg7
      have hwt : IntKind.u64.wrap ((now : Int) + (later : Int)) = ((now + later : Nat) : Int) := by
        have h1 := HN1.out
        have h2 := HN2.out
        have e : IntKind.u64.wrap ((now : Int) + (later : Int)) = ((now : Int) + (later : Int)) % 18446744073709551616 := by simp [IntKind.wrap, IntKind.bits, IntKind.signed]
        rw [e]; omega
      have HWT := Lib.hid hwt
      have hwm2 : wm.size ≤ maxLen := by rw [HWM.out]; exact (want_sizes HOQ.out).2
      have HWZ := Lib.hid hwm2
      have HNS : Hid ((∀ x ∈ (namesQ r.q).map mk, x.size ≤ maxLen) ∧ ((namesQ r.q).map mk).length ≤ maxLen) := by
        refine ⟨fun x hx => ?_, by rw [List.length_map]; exact names_len_ok.2⟩
        obtain ⟨s, hs, rfl⟩ := List.mem_map.1 hx
        rw [mk_size]; exact names_len_ok.1 s hs
      clear hwm2
      obtain ⟨F, hF⟩ : ∃ F : World → Prop, ∀ W, F W ↔ (GpF w W r g6 ⟨A1, n1, c1, A2, n2, c3, (ag : Int)⟩ (.slice Ag j cg) G g vd G ∧ W.cell? ⟨g7, 0, none⟩ = some (.string wm)) := ⟨_, fun _ => Iff.rfl⟩
      have zz0 : ∀ p : Held F, p.w.cell? ⟨w.heap.size, 0, none⟩ = some (.string r.m) := fun p => ((hF _).1 p.h).1.k.req.c0
      have zz1 : ∀ p : Held F, p.w.cell? ⟨w.heap.size, 1, none⟩ = some (.string r.u) := fun p => ((hF _).1 p.h).1.k.req.c1
      have zz2 : ∀ p : Held F, p.w.cell? ⟨w.heap.size, 2, none⟩ = some (.string r.o) := fun p => ((hF _).1 p.h).1.k.req.c2
      have zz3 : ∀ p : Held F, p.w.cell? ⟨w.heap.size, 3, none⟩ = some (.int .i64 r.mode) := fun p => ((hF _).1 p.h).1.k.req.c3
      have zz4 : ∀ p : Held F, p.w.cell? ⟨w.heap.size, 4, none⟩ = some (.bool r.cr) := fun p => ((hF _).1 p.h).1.k.req.c4
      have zz5 : ∀ p : Held F, p.w.cell? ⟨w.heap.size, 5, none⟩ = some (.slice r.A r.n r.c) := fun p => ((hF _).1 p.h).1.k.req.c5
      have zz6 : ∀ p : Held F, p.w.cell? ⟨w.heap.size, 6, none⟩ = some (.int .i64 r.cl) := fun p => ((hF _).1 p.h).1.k.req.c6
      have zz7 : ∀ p : Held F, p.w.cell? ⟨w.heap.size, 7, none⟩ = some (.int .u64 r.tm) := fun p => ((hF _).1 p.h).1.k.req.c7
      have zz8 : ∀ p : Held F, p.w.cell? ⟨w.heap.size, 8, none⟩ = some (.int .i64 r.gr) := fun p => ((hF _).1 p.h).1.k.req.c8
      have zz9 : ∀ p : Held F, p.w.cell? ⟨w.heap.size, 9, none⟩ = some (.int .i64 r.sg) := fun p => ((hF _).1 p.h).1.k.req.c9
      have zy : ∀ p : Held F, p.w.cell? ⟨g7, 0, none⟩ = some (.string wm) := fun p => ((hF _).1 p.h).2
      have za : ∀ p : Held F, p.w.cell? ⟨g6, 2, none⟩ = some (.int .u64 (ag : Int)) := fun p => ((hF _).1 p.h).1.k.al.c2
      have hbb := HBB.out
      have hbb2 : decide (later < ag) = bb := by rw [← hbb]; exact decide_eq_decide.2 (by omega)
      have HFW : Hid (∀ W, Below w7.heap.size w7 W → F W) := fun W h => (hF W).2 ⟨HN7.out.next h, (h.cell (block_of_cell HY7.out)).trans HY7.out⟩
      clear hF
      obtain ⟨wd, hwd⟩ : ∃ W, W = w7.drew := ⟨_, rfl⟩
      have HBD : Hid (Below w7.heap.size w7 wd) := by show Below _ _ _; rw [hwd]; exact (Below.refl _ _).drew
      have hne : Nonempty (Held F) := ⟨⟨wd, HFW.out _ HBD.out⟩⟩
      refine mix_start F (by kernel_rfl) ?_
      rw [← hwd]
      clear hwd
      refine mix_seg [0, 1, 3, 4, 5, 7, 8, 9, 11, 12, 13, 14] (by kernel_rfl) (HFW.out _ HBD.out) ?_
      simp only [segOf, pickOps, pickOp]
      repeat (go_big_quiet_step (fail))
      refine wpQuiet_nil ?_
      refine mix_run 2 (by kernel_rfl) ?_
      simp only [segOf, pickOps, pickOp]
      go_wp2_with fail
      refine (aCell_any r _ (HN7.out.next HBD.out).k.ok (HN7.out.next HBD.out).k.env).mono ?_
      rintro e w8 ⟨rfl, hb⟩
      rw [HCR.out]
      have HB8 : Hid (Below w7.heap.size w7 w8) := HBD.out.trans (hb.mono HBD.out.size)
      clear hb
      go_wp2_with fail
      refine MixPost.normal (HFW.out _ HB8.out) ?_
      refine mix_run 6 (by kernel_rfl) ?_
      simp only [segOf, pickOps, pickOp]
      go_wp2_with fail
      refine (aNames_any r _ (HN7.out.next HB8.out).k.ok (HN7.out.next HB8.out).k.env).mono ?_
      rintro e w9 ⟨v, rfl, hs, hb⟩
      obtain ⟨A9, c9, rfl, _, hs9⟩ := trow_of hs
      have HS9 := Lib.hid hs9
      have HB9 : Hid (Below w7.heap.size w7 w9) := HB8.out.trans (hb.mono HB8.out.size)
      clear hb hs hs9
      go_wp2_with fail
      refine MixPost.normal (HFW.out _ HB9.out) ?_
      refine mix_run 10 (by kernel_rfl) ?_
      simp only [segOf, pickOps, pickOp]
      have hcov := cCovers_any g 64 vd G ⟨co, cu, cr⟩ wm A9 c9 _ ((namesQ r.q).map mk) (now + later) w9 (HN7.out.next HB9.out).c.c (HN7.out.next HB9.out).k.env.m HWZ.out HS9.out (Nat.le_refl _) HNS.out.1 HNS.out.2
      rw [List.length_map] at hcov
      unfold cellV at hcov
      dsimp only at hcov
      rw [show covL ⟨co, cu, cr⟩ wm ((namesQ r.q).map mk) (now + later) G = bb by rw [← HCV.out, HCL.out, HWM.out]] at hcov
      go_wp2_with fail
      refine hcov.mono ?_
      rintro e w10 ⟨rfl, ho⟩
      have HB10 : Hid (Below w7.heap.size w7 w10) := HB9.out.trans ((ho.to_below (by simp)).mono HB9.out.size)
      clear hcov ho
      go_wp2_with fail
      refine MixPost.normal (HFW.out _ HB10.out) ?_
      refine mix_seg [15, 16] (by kernel_rfl) (HFW.out _ HB10.out) ?_
      simp only [segOf, pickOps, pickOp]
      repeat (go_big_quiet_step (fail))
      refine wpQuiet_nil ?_
      refine mix_run 17 (by kernel_rfl) ?_
      simp only [segOf, pickOps, pickOp]
      go_wp2_with fail
      refine (awake17_any _ (HN7.out.next HB10.out).k.env).mono ?_
      rintro e w11 ⟨rfl, hb⟩
      have HB11 : Hid (Below w7.heap.size w7 w11) := HB10.out.trans (hb.mono HB10.out.size)
      clear hb
      go_wp2_with fail
      refine MixPost.normal (HFW.out _ HB11.out) ?_
      refine mix_seg [18, 19] (by kernel_rfl) (HFW.out _ HB11.out) ?_
      simp only [segOf, pickOps, pickOp]
      repeat (go_big_quiet_step (fail))
      refine wpQuiet_nil ?_
      refine mix_done (by kernel_rfl) ?_
      go_wp2
      go_ret
      exact ⟨rfl, (HN7.out.next HB11.out).k.bel⟩
end Go.Proofs.YtlkneapidmdpbaaGreatDoor
