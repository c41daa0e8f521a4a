/-
  The walk of the law PoolExpires: it returns true, and nothing that was there has turned. Conditions: the row of times lies where the argument says.
-/
import Derived.Test.YtbnmldfiheffoaaQFour
import Derived.Test.YtbnmldfiheffoaaKLow
namespace Go.Proofs.Ytbnmldfiheffoaa
open Go.RowKit

/-- connection i + 1 of those in turn of the four -/
def conE (u i : Nat) : Cn := ⟨i + 1, kE (i % 4), u⟩
def bE (n : Nat) : List Cn := (List.range n).map (conE 0)
theorem bE_succ (n : Nat) : bE (n + 1) = bE n ++ [conE 0 n] := by simp [bE, List.range_succ]
theorem bE_len (n : Nat) : (bE n).length = n := by simp [bE]
theorem bE_few {n : Nat} (h : n < 20) : usedB (bE n) (kE (n % 4)) < 6 := by
  have h1 : usedB (bE n) (kE (n % 4)) = ((List.range n).filter (fun i => decide (i % 4 = n % 4))).length := by
    unfold usedB bE
    rw [List.filter_map, List.length_map]
    congr 1
    refine List.filter_congr (fun i _ => ?_)
    show ckeyB (kE (n % 4)) (conE 0 i) = _
    rw [Bool.eq_iff_iff, ckeyB_iff, decide_eq_true_iff]
    exact ⟨fun e => kE_inj (by omega) (by omega) e, fun e => by show kE (i % 4) = _; rw [e]⟩
  rw [h1]
  have h2 : ∀ n, n < 20 → ((List.range n).filter (fun i => decide (i % 4 = n % 4))).length < 6 := by decide
  exact h2 n h
/-- the idle ones: each until its time and so many ticks more -/
def iE (xs : List Int) (id n : Nat) : List Cn := (List.range n).map (fun i => conE ((xs.getD i 0).toNat + id) i)
theorem iE_succ (xs : List Int) (id n : Nat) : iE xs id (n + 1) = iE xs id n ++ [conE ((xs.getD n 0).toNat + id) n] := by simp [iE, List.range_succ]
def goneB (xs : List Int) (id now q : Nat) : Bool := decide ((xs.getD q 0).toNat + id ≤ now)
theorem iE_gone (xs : List Int) (id now n : Nat) : connsL ((iE xs id n).filter (dueB now)) = upsP (goneB xs id now) n := by
  unfold connsL iE upsP
  rw [List.filter_map, List.map_map]
  rfl
theorem iE_stay (xs : List Int) (id now n : Nat) : connsL ((iE xs id n).filter (fun c => !dueB now c)) = upsP (fun q => !goneB xs id now q) n := by
  unfold connsL iE upsP
  rw [List.filter_map, List.map_map]
  rfl
theorem exp_take {s : Pv} {id n : Nat} (h : Is s 32 id n (bE n) [] n) (hn : n < 20) :
    takeN (kE (n % 4)) 0 s = n + 1 ∧ takeF (kE (n % 4)) 0 s = true ∧ takeC (kE (n % 4)) s = 0 ∧ Is (takeS (kE (n % 4)) 0 s) 32 id (n + 1) (bE (n + 1)) [] (n + 1) := by
  obtain ⟨h1, h2, h3, h4⟩ := h.fresh (by omega) (k := kE (n % 4)) (now := 0) (by rw [bE_len]; omega) (bE_few hn) (by simp)
  rw [bE_succ]
  refine ⟨h1, h2, h3, ?_⟩
  simpa [conE] using h4
theorem exp_give {s : Pv} {xs : List Int} {id n i : Nat} (h : Is s 32 id n ((bE n).drop i) (iE xs id i) n) (hi : i < n) (hid : id ≠ 0) (hx : (xs.getD i 0).toNat + id ≤ 18446744073709551615) :
    giveC ((i + 1 : Nat) : Int) s = 0 ∧ Is (giveS ((i + 1 : Nat) : Int) (xs.getD i 0).toNat true s) 32 id n ((bE n).drop (i + 1)) (iE xs id (i + 1)) n := by
  have hl : i < (bE n).length := by rw [bE_len]; exact hi
  have e0 : (bE n)[i] = conE 0 i := by simp [bE]
  have e1 : (bE n).drop i = conE 0 i :: (bE n).drop (i + 1) := by rw [List.drop_eq_getElem_cons hl, e0]
  rw [e1] at h
  obtain ⟨h1, h2⟩ := h.give (c := ((i + 1 : Nat) : Int)) (now := (xs.getD i 0).toNat) (p := 0) (by rw [List.findIdx_cons]; simp [connB, conE]) (by simp) hid
  refine ⟨h1, ?_⟩
  rw [iE_succ]
  have e2 : sumT (xs.getD i 0).toNat id = (xs.getD i 0).toNat + id := by unfold sumT; rw [if_neg (by omega)]
  rw [e2] at h2
  exact h2
/-- two rows of numbers beside a pool -/
structure Rows2 (n : Nat) (W : World) (f : List Nat) (v u : Value) (l m : List Int) : Prop where
  rv : IRow W v l
  ru : IRow W u m
  vf : ∀ x ∈ ownL v, n ≤ x ∧ x ∉ f
  uf : ∀ x ∈ ownL u, n ≤ x ∧ x ∉ f
  d : ∀ x ∈ ownL v, x ∉ ownL u
section
variable {n : Nat} {W W' : World} {f f' : List Nat} {v u v' : Value} {l m l' : List Int}
theorem Rows2.step (h : Rows2 n W f v u l m) (o : Only f W W') (k : More W.heap.size f f') : Rows2 n W' f' v u l m :=
  ⟨h.rv.only o (fun x hx => (h.vf x hx).2), h.ru.only o (fun x hx => (h.uf x hx).2),
   fun x hx => ⟨(h.vf x hx).1, fun hm => by rcases k x hm with h1 | h1; exact (h.vf x hx).2 h1; exact absurd (h.rv.own hx) (Nat.not_lt.2 h1)⟩,
   fun x hx => ⟨(h.uf x hx).1, fun hm => by rcases k x hm with h1 | h1; exact (h.uf x hx).2 h1; exact absurd (h.ru.own hx) (Nat.not_lt.2 h1)⟩, h.d⟩
theorem Rows2.old (h : Rows2 n W f v u l m) (o : Only [] W W') : Rows2 n W' f v u l m := ⟨h.rv.old o, h.ru.old o, h.vf, h.uf, h.d⟩
theorem Rows2.swap (h : Rows2 n W f v u l m) : Rows2 n W f u v m l := ⟨h.ru, h.rv, h.uf, h.vf, fun x hx hm => h.d x hm hx⟩
/-- the first row grows -/
theorem Rows2.grow (h : Rows2 n W f v u l m) (hn : n ≤ W.heap.size) (hf : ∀ x ∈ f, x < W.heap.size) (r : IRow W' v' l') (o : Only (ownL v) W W') (hv : ∀ x ∈ ownL v', x ∈ ownL v ∨ W.heap.size ≤ x) : Rows2 n W' f v' u l' m :=
  ⟨r, h.ru.only o (fun x hx hm => h.d x hm hx), fun x hx => by
    rcases hv x hx with h1 | h1
    · exact h.vf x h1
    · exact ⟨Nat.le_trans hn h1, fun hm => absurd (hf x hm) (Nat.not_lt.2 h1)⟩, h.uf, fun x hx hm => by
    rcases hv x hx with h1 | h1
    · exact h.d x h1 hm
    · exact absurd (h.ru.own hm) (Nat.not_lt.2 h1)⟩
end

set_option maxRecDepth 20000 in
set_option maxHeartbeats 4000000 in
theorem walk_PoolExpires (a0 : Option Addr) (c0 : Nat) (x0 : List Int) (a1 a2 : Int) (w : World) (h0 : IArg .u64 w a0 c0 x0) (_h1 : (Lit.int .u64 a1).wf = true) (_h2 : (Lit.int .u64 a2).wf = true) :
    Calls Try.prog 7 #[.slice a0 x0.length c0, .int .u64 a1, .int .u64 a2] w fun e w' => e = .returned (.bool true) ∧ Below w.heap.size w w' := by
  obtain ⟨b1, d1⟩ := wfU _h1
  obtain ⟨b2, d2⟩ := wfU _h2
  obtain ⟨ID, rfl⟩ := Int.eq_ofNat_of_zero_le b1
  obtain ⟨NW, rfl⟩ := Int.eq_ofNat_of_zero_le b2
  have H0 := Lib.hid h0
  have hl0 := h0.2.2.1
  have hm0 := h0.2.2.2
  unfold maxLen at hm0
  have HXB : Hid (∀ i, i < x0.length → ∃ y : Nat, x0.getD i 0 = (y : Int) ∧ y ≤ 18446744073709551615) := by
    show ∀ i, _
    intro i hi
    have e : x0.getD i 0 = x0[i] := by simp [hi]
    have h1 := wfU (h0.2.1 x0[i] (List.getElem_mem hi))
    obtain ⟨y, hy⟩ := Int.eq_ofNat_of_zero_le h1.1
    exact ⟨y, by rw [e, hy], by omega⟩
  have HLD : Hid (∀ i W, i < x0.length → Below w.heap.size w W → ∃ ad, a0 = some ad ∧ W.cell? (ad.add i) = some (.int .u64 (x0.getD i 0))) := by
    show ∀ i W, _
    intro i W hi hb
    obtain ⟨ad, e1, hB, hc⟩ := h0.1 i x0[i] (List.getElem?_eq_getElem hi)
    exact ⟨ad, e1, by rw [(hb.cell (p := ad.add i) (by rw [block_add]; exact hB)).trans hc]; simp [hi]⟩
  clear h0 _h1 _h2 b1 b2
  by_cases g0 : 20 < x0.length
  · skip
    go_enter Try.func7, Try.ntmps7
    go_wp2_with fail
    refine (awake13_any _).mono ?_
    rintro e w' ⟨rfl, hb⟩
    go_wp2
    go_ret
    exact ⟨rfl, hb⟩
  by_cases g1 : (ID : Int) < 1
  · skip
    go_enter Try.func7, Try.ntmps7
    go_wp2_with fail
    refine (awake13_any _).mono ?_
    rintro e w' ⟨rfl, hb⟩
    go_wp2
    go_ret
    exact ⟨rfl, hb⟩
  by_cases g2 : 1152921504606846976 < (ID : Int)
  · skip
    go_enter Try.func7, Try.ntmps7
    go_wp2_with fail
    refine (awake13_any _).mono ?_
    rintro e w' ⟨rfl, hb⟩
    go_wp2
    go_ret
    exact ⟨rfl, hb⟩
  have hid : ID ≠ 0 := by omega
  go_enter Try.func7, Try.ntmps7
  go_wp2_with fail
  refine (nNew_any 32 ID (Below.refl _ w) (by omega)).mono ?_
  rintro e w1 ⟨g, f0, rfl, n0, _⟩
  rw [show clampT 32 = 32 by rfl] at n0
  have N0 := Lib.hid n0
  clear n0
  go_wp2_with fail
  go_loopw [8] (fun i wr => ∃ (j : Nat) (f : List Nat) (s : Pv), j ≤ x0.length ∧ i = .int .i64 (j : Int) ∧ PoNew w wr g f s ∧ Is s 32 ID j (bE j) [] j ∧ ∀ q, q < j → x0.getD q 0 ≤ 1152921504606846976) (fun i _ => x0.length - (intOf i).toNat)
  case atStart => exact ⟨0, _, _, by omega, rfl, N0.out, Is.start 32 ID, fun q hq => by omega⟩
  case round =>
    obtain ⟨j, f, s, hj, rfl, hn, hi, hb⟩ := hrel
    have HN := Lib.hid hn
    have HI := Lib.hid hi
    have HBD := Lib.hid hb
    clear hn hi hb N0
    by_cases hlt : j < x0.length
    · have TK := Lib.hid (exp_take HI.out (by omega))
      have HL := Lib.hid HI.out.last
      obtain ⟨m, hm⟩ : ∃ m, m = j % 4 := ⟨_, rfl⟩
      have hm4 : m < 4 := by omega
      have hix := fun W => idx4 hm4 W
      have hrem : (j : Int).tmod 4 = (m : Int) := by rw [hm]; rfl
      rw [← hm] at TK
      clear hm
      obtain ⟨X, hX⟩ : ∃ X, X = kE m := ⟨_, rfl⟩
      rw [← hX] at hix TK
      clear hX
      go_wp2_with fail
      refine (nTake_any X 0 HN.out (by rw [HL.out]; omega)).mono ?_
      rintro e w2 ⟨rfl, f2, n2, _⟩
      rw [TK.out.1, TK.out.2.1, TK.out.2.2.1]
      have N2 := Lib.hid n2
      clear n2 hix hrem
      obtain ⟨ad, e1, hc⟩ := HLD.out j w2 hlt N2.out.b
      obtain ⟨y, hy, hy2⟩ := HXB.out j hlt
      rw [hy] at hc
      have HY := Lib.hid hy
      clear hy
      subst e1
      have hcast : ((j + 1 : Nat) : Int) = (j : Int) + 1 := by omega
      rw [hcast]
      clear hcast
      by_cases hbig : 1152921504606846976 < (y : Int)
      · go_wp2_with fail
        refine (awake13_any _).mono ?_
        rintro e w' ⟨rfl, hb⟩
        have HE := Lib.hid (N2.out.b.trans (hb.mono N2.out.b.size))
        clear hb
        go_wp2
        go_ret
        exact ⟨rfl, HE.out⟩
      · go_wp2_with fail
        go_roundw
        case rel =>
          refine ⟨j + 1, f2, _, by omega, by go_num, N2.out, TK.out.2.2.2, fun q hq => ?_⟩
          by_cases e : q = j
          · subst e; rw [HY.out]; omega
          · exact HBD.out q (by omega)
        case measure => simp [intOf]; omega
    · obtain rfl : j = x0.length := by omega
      go_wp2_with fail
      go_loopw [12, 13, 14] (fun vg vs i wr => ∃ (j : Nat) (f : List Nat) (s : Pv) (vg' vs' : Value), vg' = vg ∧ vs' = vs ∧ j ≤ x0.length ∧ i = .int .i64 (j : Int) ∧ PoNew w wr g f s ∧ Is s 32 ID x0.length ((bE x0.length).drop j) (iE x0 ID j) x0.length ∧ Rows2 w.heap.size wr f vg' vs' (upsP (goneB x0 ID NW) j) (upsP (fun q => !goneB x0 ID NW q) j)) (fun _ _ i _ => x0.length - (intOf i).toNat)
      case atStart => exact ⟨0, f, s, _, _, rfl, rfl, by omega, rfl, HN.out, by rw [List.drop_zero]; exact HI.out, IRow.nil, IRow.nil, by intro x hx; simp [ownL, Value.ownBlock] at hx, by intro x hx; simp [ownL, Value.ownBlock] at hx, by intro x hx; simp [ownL, Value.ownBlock] at hx⟩
      case round =>
        obtain ⟨j, f, s, vg, vs, evg, evs, hj, rfl, hn, hi, hr⟩ := hrel
        subst evg
        subst evs
        have HN := Lib.hid hn
        have HI := Lib.hid hi
        have HR := Lib.hid hr
        clear hn hi hr
        by_cases hlt : j < x0.length
        · obtain ⟨ad, e1, hc⟩ := HLD.out j wr hlt HN.out.b
          obtain ⟨y, hy, hy2⟩ := HXB.out j hlt
          have hyb : (y : Int) ≤ 1152921504606846976 := by rw [← hy]; exact HBD.out j hlt
          have hyt : (x0.getD j 0).toNat = y := by rw [hy]; rfl
          have GV := Lib.hid (exp_give HI.out hlt hid (by rw [hyt]; omega))
          rw [hyt] at GV
          have HGB : Hid (goneB x0 ID NW j = decide ((y : Int) + (ID : Int) ≤ (NW : Int))) := by show _ = _; unfold goneB; rw [hyt]; rw [decide_eq_decide]; omega
          have HUG := Lib.hid (upsP_succ (goneB x0 ID NW) j)
          have HUS := Lib.hid (upsP_succ (fun q => !goneB x0 ID NW q) j)
          have HUL := Lib.hid (upsP_len (goneB x0 ID NW) j)
          have HUL2 := Lib.hid (upsP_len (fun q => !goneB x0 ID NW q) j)
          obtain ⟨G, hG⟩ : ∃ G, G = upsP (goneB x0 ID NW) j := ⟨_, rfl⟩
          obtain ⟨Z, hZ⟩ : ∃ Z, Z = upsP (fun q => !goneB x0 ID NW q) j := ⟨_, rfl⟩
          rw [← hG] at HR HUG HUL
          rw [← hZ] at HR HUS HUL2
          rw [hy] at hc
          have HYJ := Lib.hid hy
          clear hy hyt hG hZ
          subst e1
          have hcast : ((j + 1 : Nat) : Int) = (j : Int) + 1 := by omega
          rw [hcast] at GV HUG HUS
          have HCA := Lib.hid hcast
          clear hcast
          go_wp2_with fail
          refine (nGive_any ((j : Int) + 1) y true HN.out (by omega)).mono ?_
          rintro e w2 ⟨rfl, f2, n2, o2, m2⟩
          rw [GV.out.1]
          have N2 := Lib.hid n2
          have HR2 := Lib.hid (HR.out.step o2 m2)
          have hc2 := (HLD.out j w2 hlt N2.out.b)
          clear n2 o2 m2 hc
          obtain ⟨ad2, e2, hc2⟩ := hc2
          injection e2 with e2
          subst e2
          rw [HYJ.out] at hc2
          by_cases hdue : (y : Int) + (ID : Int) ≤ (NW : Int)
          · have HG1 : Hid (upsP (goneB x0 ID NW) (j + 1) = G ++ [(j : Int) + 1] ∧ upsP (fun q => !goneB x0 ID NW q) (j + 1) = Z) := by
              show _ ∧ _
              rw [HUG.out, HUS.out, HGB.out, decide_eq_true hdue]
              exact ⟨if_pos rfl, if_neg (by simp)⟩
            obtain ⟨W3, hW3⟩ : ∃ W3, W3 = w2.alloc (.cells #[.int .i64 ((j : Int) + 1)] 3) := ⟨_, rfl⟩
            obtain ⟨B3, hB3⟩ : ∃ B3, B3 = w2.heap.size := ⟨_, rfl⟩
            have HO3 : Hid (Only [] w2 W3) := by show Only _ _ _; rw [hW3]; exact (Only.refl _ _).alloc _
            have HC3 : Hid (W3.cell? ⟨B3, 0, none⟩ = some (.int .i64 ((j : Int) + 1))) := by show _ = _; rw [hW3, hB3]; simp
            have N3 := Lib.hid (N2.out.old HO3.out)
            have HR3 := Lib.hid (HR2.out.old HO3.out)
            obtain ⟨Ag, cg, eg, _, _⟩ := HR3.out.rv.slice
            subst eg
            have HZ3 : Hid (w2.heap.size ≤ W3.heap.size) := HO3.out.size
            go_wp2_with (at_builtin; rw [← hW3, ← hB3]; refine wpList_append_int rfl (.tmp 97) (.tmp 100) rfl _ G rfl HR3.out.rv B3 ((j : Int) + 1) rfl HC3.out (by have := HUL.out; omega) ?_)
            intro g4 cap4 w4 hr4 ho4 hg4
            rw [← hW3] at ho4
            have HS3 : Hid (W3.heap.size = w2.heap.size + 1) := by show _ = _; rw [hW3]; simp
            clear hW3 hB3
            have HR4 : Hid (Rows2 w.heap.size w4 f2 (.slice (some ⟨g4, 0, none⟩) (G.length + 1) cap4) vs (G ++ [(j : Int) + 1]) Z) := by
              show Rows2 _ _ _ _ _ _ _
              refine HR3.out.grow N3.out.b.size (fun x hx => N3.out.p.lt hx) hr4.out ho4.out ?_
              intro x hx
              simp [ownL, Value.ownBlock] at hx
              subst hx
              rcases hg4.out with h1 | h1
              · exact .inl h1
              · right; have := HS3.out; omega
            have N4 := Lib.hid (N3.out.off ho4.out (fun x hx => HR3.out.vf x hx))
            clear hr4 ho4 hg4 hc2
            go_wp2_with fail
            go_roundw
            case rel => exact ⟨j + 1, f2, _, _, _, rfl, rfl, by omega, by go_num, N4.out, GV.out.2, by rw [HG1.out.1, HG1.out.2]; exact HR4.out⟩
            case measure => simp [intOf]; omega
          · have HG1 : Hid (upsP (goneB x0 ID NW) (j + 1) = G ∧ upsP (fun q => !goneB x0 ID NW q) (j + 1) = Z ++ [(j : Int) + 1]) := by
              show _ ∧ _
              rw [HUG.out, HUS.out, HGB.out, decide_eq_false hdue]
              exact ⟨if_neg (by simp), if_pos rfl⟩
            obtain ⟨W3, hW3⟩ : ∃ W3, W3 = w2.alloc (.cells #[.int .i64 ((j : Int) + 1)] 3) := ⟨_, rfl⟩
            obtain ⟨B3, hB3⟩ : ∃ B3, B3 = w2.heap.size := ⟨_, rfl⟩
            have HO3 : Hid (Only [] w2 W3) := by show Only _ _ _; rw [hW3]; exact (Only.refl _ _).alloc _
            have HC3 : Hid (W3.cell? ⟨B3, 0, none⟩ = some (.int .i64 ((j : Int) + 1))) := by show _ = _; rw [hW3, hB3]; simp
            have N3 := Lib.hid (N2.out.old HO3.out)
            have HR3 := Lib.hid (HR2.out.old HO3.out)
            obtain ⟨Ag, cg, eg, _, _⟩ := HR3.out.ru.slice
            subst eg
            go_wp2_with (at_builtin; rw [← hW3, ← hB3]; refine wpList_append_int rfl (.tmp 102) (.tmp 105) rfl _ Z rfl HR3.out.ru B3 ((j : Int) + 1) rfl HC3.out (by have := HUL2.out; omega) ?_)
            intro g4 cap4 w4 hr4 ho4 hg4
            rw [← hW3] at ho4
            have HS3 : Hid (W3.heap.size = w2.heap.size + 1) := by show _ = _; rw [hW3]; simp
            clear hW3 hB3
            have HR4 : Hid (Rows2 w.heap.size w4 f2 vg (.slice (some ⟨g4, 0, none⟩) (Z.length + 1) cap4) G (Z ++ [(j : Int) + 1])) := by
              show Rows2 _ _ _ _ _ _ _
              refine (HR3.out.swap.grow N3.out.b.size (fun x hx => N3.out.p.lt hx) hr4.out ho4.out ?_).swap
              intro x hx
              simp [ownL, Value.ownBlock] at hx
              subst hx
              rcases hg4.out with h1 | h1
              · exact .inl h1
              · right; have := HS3.out; omega
            have N4 := Lib.hid (N3.out.off ho4.out (fun x hx => HR3.out.uf x hx))
            clear hr4 ho4 hg4 hc2
            go_wp2_with fail
            go_roundw
            case rel => exact ⟨j + 1, f2, _, _, _, rfl, rfl, by omega, by go_num, N4.out, GV.out.2, by rw [HG1.out.1, HG1.out.2]; exact HR4.out⟩
            case measure => simp [intOf]; omega
        · obtain rfl : j = x0.length := by omega
          have HGO : Hid (shutG (dueB NW) s = upsP (goneB x0 ID NW) x0.length) := by show _ = _; unfold shutG; rw [HI.out.i, iE_gone, upsP_sorted]
          have I2 := Lib.hid (HI.out.shut (dueB NW))
          have HST : Hid (sortI (connsL (shutP (dueB NW) s).i) = upsP (fun q => !goneB x0 ID NW q) x0.length) := by show _ = _; rw [I2.out.i, iE_stay, upsP_sorted]
          have HNO : Hid ((shutG (dueB NW) (shutP (dueB NW) s)).length = 0) := by
            show _ = _
            unfold shutG
            rw [sortI_len, connsL, List.length_map, I2.out.i, List.filter_filter]
            have : (iE x0 ID x0.length).filter (fun a => dueB NW a && !dueB NW a) = [] := List.filter_eq_nil_iff.2 (fun c _ => by simp)
            rw [this]; rfl
          have HBZ : Hid ((shutP (dueB NW) (shutP (dueB NW) s)).b.length = 0) := by show _ = _; rw [(I2.out.shut (dueB NW)).b, List.length_drop, bE_len]; omega
          go_wp2_with fail
          refine (nExpire_any NW HN.out).mono ?_
          rintro e w2 ⟨r2, f2, rfl, hr2, _, n2, o2, m2⟩
          rw [HGO.out] at hr2
          have HX2 := Lib.hid hr2
          have N2 := Lib.hid n2
          have HR2 := Lib.hid (HR.out.step o2 m2)
          clear hr2 n2 o2 m2
          go_wp2_with fail
          refine (Ints_any _ _ _ w2 HX2.out HR2.out.rv).mono ?_
          rintro e w3 ⟨rfl, o3⟩
          have N3 := Lib.hid (N2.out.old o3)
          have HR3 := Lib.hid (HR2.out.old o3)
          clear o3
          go_wp2_with fail
          refine (nIdle_any N3.out).mono ?_
          rintro e w4 ⟨r4, rfl, hr4, _, n4, o4⟩
          rw [HST.out] at hr4
          have HX4 := Lib.hid hr4
          have N4 := Lib.hid n4
          have HR4 := Lib.hid (HR3.out.old o4)
          clear hr4 n4 o4
          go_wp2_with fail
          refine (Ints_any _ _ _ w4 HX4.out HR4.out.ru).mono ?_
          rintro e w5 ⟨rfl, o5⟩
          have N5 := Lib.hid (N4.out.old o5)
          clear o5
          go_wp2_with fail
          refine (nExpire_any NW N5.out).mono ?_
          rintro e w6 ⟨r6, f6, rfl, hr6, _, n6, _, _⟩
          obtain ⟨A6, c6, e6, _, _⟩ := hr6.slice
          rw [HNO.out] at e6
          subst e6
          have N6 := Lib.hid n6
          clear hr6 n6
          go_wp2_with fail
          refine (nBusy_any N6.out).mono ?_
          rintro e w7 ⟨rfl, rfl⟩
          rw [HBZ.out]
          go_wp2_with fail
          refine (awake13_any _).mono ?_
          rintro e w' ⟨rfl, hb⟩
          have HE := Lib.hid (N6.out.b.trans (hb.mono N6.out.b.size))
          clear hb
          go_wp2
          go_ret
          exact ⟨rfl, HE.out⟩
end Go.Proofs.Ytbnmldfiheffoaa
