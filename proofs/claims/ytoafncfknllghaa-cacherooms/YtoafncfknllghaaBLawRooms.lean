/-
  The walk of the law CacheRooms: whatever the input, it returns true, and nothing that was there has turned. Conditions: the arguments are such as any that come in.
-/
import Derived.Test.YtoafncfknllghaaBAwake
import Derived.Test.YtoafncfknllghaaBMath2
import Derived.Deep.CutRange
namespace Go.Proofs.Ytoafncfknllghaa
open Go.RowKit

/-- the name of a number below a hundred -/
def nmE (i : Nat) : ByteArray := ⟨#[UInt8.ofNat (65 + i / 10), UInt8.ofNat (65 + i % 10)]⟩
theorem nmE_data1 (i : Nat) (h : i < 100) : (UInt8.ofNat (65 + i / 10)).toNat = 65 + i / 10 := by simp; omega
theorem nmE_data2 (i : Nat) : (UInt8.ofNat (65 + i % 10)).toNat = 65 + i % 10 := by simp; omega
theorem nmE_inj {i j : Nat} (hi : i < 100) (hj : j < 100) (h : nmE i = nmE j) : i = j := by
  unfold nmE at h
  injection h with h
  have h1 := congrArg (fun x : Array UInt8 => (x.toList.map UInt8.toNat)) h
  simp only [List.map_cons, List.map_nil, nmE_data1 i hi, nmE_data1 j hj, nmE_data2] at h1
  simp at h1
  omega
theorem nmE_no (i : Nat) : nmE i ≠ noT := by
  intro h
  have := congrArg ByteArray.size h
  simp [nmE, ByteArray.size] at this
/-- a name, made of two bytes -/
theorem conv_nmE (w : World) (i : Nat) (hi : i < 100) : (convert 38 9 (.slice (some ⟨w.heap.size, 0, none⟩) 2 2)).run Try.prog (w.alloc (.cells #[.int .u8 (65 + ((i / 10 : Nat) : Int)), .int .u8 (65 + ((i % 10 : Nat) : Int))] 5)) = .ok (.string (nmE i)) (w.alloc (.cells #[.int .u8 (65 + ((i / 10 : Nat) : Int)), .int .u8 (65 + ((i % 10 : Nat) : Int))] 5)) :=
  run_convert_bytes_back (w.alloc (.cells #[.int .u8 (65 + ((i / 10 : Nat) : Int)), .int .u8 (65 + ((i % 10 : Nat) : Int))] 5)) 38 9 5 ⟨w.heap.size, 0, none⟩ 2 [UInt8.ofNat (65 + i / 10), UInt8.ofNat (65 + i % 10)] Try.underlying38 Try.underlying5 rfl (fun j hj => by
    match j, hj with
    | 0, _ => show World.cell? _ _ = some (.int .u8 (((UInt8.ofNat (65 + i / 10)).toNat : Nat) : Int)); rw [nmE_data1 i hi]; simp [Addr.add]
    | 1, _ => show World.cell? _ _ = some (.int .u8 (((UInt8.ofNat (65 + i % 10)).toNat : Nat) : Int)); rw [nmE_data2]; simp [Addr.add])
/-- what a cache holds behind j puts -/
structure RmOk (j : Nat) (l : List En) : Prop where
  m : ∀ e ∈ l, ∃ i, i < j ∧ e.m = nmE i
  t : ∀ e ∈ l, 0 < e.t
theorem RmOk.nil : RmOk 0 [] := ⟨by simp, by simp⟩
abbrev rmE (j u : Nat) : En := ⟨⟨noT, noT, false⟩, nmE j, noT, u⟩
theorem roomL_mem {n : Nat} {l : List En} {x : En} (h : x ∈ roomL n l) : x ∈ l := by
  unfold roomL at h
  split at h
  · exact List.mem_of_mem_eraseIdx h
  · exact h
theorem RmOk.put {j n u : Nat} {l : List En} (h : RmOk j l) (hj : j < 100) (hu : 1 ≤ u) : putB (rmE j u) 0 = true ∧ putL n (rmE j u) 0 l = roomL n l ++ [rmE j u] := by
  have hp : putB (rmE j u) 0 = true := by rw [putB_m (nmE_no j)]; exact decide_eq_true (by omega)
  refine ⟨hp, putL_new hp h.t (fun x hx => ?_)⟩
  obtain ⟨i, hi, e⟩ := h.m x hx
  have : tB x.m (nmE j) = false := by
    rw [tB_no, e]
    intro h2
    have := nmE_inj (by omega) hj h2
    omega
  unfold sameB
  simp [this]
theorem RmOk.next {j n u : Nat} {l : List En} (h : RmOk j l) (hu : 1 ≤ u) : RmOk (j + 1) (roomL n l ++ [rmE j u]) := by
  refine ⟨fun x hx => ?_, fun x hx => ?_⟩
  · rcases List.mem_append.1 hx with h1 | h1
    · obtain ⟨i, hi, e⟩ := h.m x (roomL_mem h1)
      exact ⟨i, by omega, e⟩
    · simp at h1; subst h1; exact ⟨j, by omega, rfl⟩
  · rcases List.mem_append.1 hx with h1 | h1
    · exact h.t x (roomL_mem h1)
    · simp at h1; subst h1; exact hu
theorem EnRow.takeAt {w : World} {gi n cap k : Nat} {l : List En} (h : EnRow w (.slice (some ⟨gi, 0, none⟩) n cap) l) (hn : n = l.length) (hk : k ≤ n) : PartAt eE w (.slice (some ⟨gi, 0, none⟩) k cap) (l.take k) := by
  subst hn; exact ERow.partTake h hk
theorem EnRow.dropAt {w : World} {gi n cap k : Nat} {A : Addr} {l : List En} (h : EnRow w (.slice (some ⟨gi, 0, none⟩) n cap) l) (hn : n = l.length) (hk : k ≤ n) (hA : (if cap = k then (some (⟨gi, 0, none⟩ : Addr)) else some ⟨gi, k * 6, none⟩) = some A) : PartAt eE w (.slice (some A) (n - k) (cap - k)) (l.drop k) := by
  subst hn; exact ERow.partDrop h hk hA
theorem EnRow.cutAt {w : World} {gi n cap k : Nat} {l : List En} (h : EnRow w (.slice (some ⟨gi, 0, none⟩) n cap) l) (hn : n = l.length) (hk : k ≤ n) : EnRow w (.slice (some ⟨gi, 0, none⟩) k cap) (l.take k) := by
  subst hn; exact ERow.cut h k hk
theorem nthE_last (l : List En) (e : En) {k : Nat} (hk : k = l.length) : nthE (l ++ [e]) k = e := by
  subst hk
  simp [nthE]

set_option maxRecDepth 20000 in
set_option maxHeartbeats 8000000 in
theorem walk_CacheRooms (a0 : Int) (a1 : Option Addr) (c1 : Nat) (x1 : List Int) (w : World) (_h0 : (Lit.int .i64 a0).wf = true) (h1 : IArg .u64 w a1 c1 x1) :
    Calls Try.prog 4 #[.int .i64 a0, .slice a1 x1.length c1] w fun e w' => e = .returned (.bool true) ∧ Below w.heap.size w w' := by
  have H1 := Lib.hid h1
  have hl1 := h1.2.2.1
  have hm1 := h1.2.2.2
  unfold maxLen at hm1
  clear h1 _h0
  by_cases hb1 : 100 < x1.length
  · go_enter Try.func4, Try.ntmps4
    go_wp2_with fail
    refine (awake16_any _).mono ?_
    rintro e w' ⟨rfl, hb⟩
    have HE := Lib.hid (hb)
    clear hb
    go_wp2
    go_ret
    exact ⟨rfl, HE.out⟩
  obtain ⟨q, hq⟩ : ∃ q : Nat, lowV a0 64 = (q : Int) := ⟨(lowV a0 64).toNat, by have := lowV_bd a0 (n := 64) (by omega); omega⟩
  have hq63 : q ≤ 63 := by have := lowV_bd a0 (n := 64) (by omega); omega
  have HQ := Lib.hid hq
  clear hq
  have hcl : clampE (1 + (q : Int)) = q + 1 := by unfold clampE; rw [if_neg (by omega), if_neg (by omega)]; omega
  have HCL := Lib.hid hcl
  clear hcl
  go_enter Try.func4, Try.ntmps4
  go_wp2_with fail
  refine (Low_any a0 64 w (by omega) (by omega)).mono ?_
  rintro e w' ⟨rfl, rfl⟩
  rw [HQ.out]
  go_wp2_with fail
  refine (cNew_any (1 + (q : Int)) w).mono ?_
  rintro e w1 ⟨g, rfl, hc1, ho1, hg1⟩
  rw [HCL.out] at hc1
  have HC1 := Lib.hid (CaNew.made (Below.refl _ w) hc1 ho1 hg1)
  clear hc1 ho1 hg1
  go_wp2_with fail
  go_loopw [7] (fun i wr => ∃ (j : Nat) (v : Value) (l : List En), j ≤ x1.length ∧ i = .int .i64 j ∧ CaNew w wr g (q + 1) v l ∧ RmOk j l) (fun i _ => x1.length - (intOf i).toNat)
  case atStart => exact ⟨0, _, [], Nat.zero_le _, rfl, HC1.out, RmOk.nil⟩
  case round =>
    obtain ⟨j, v, l, hj, rfl, hc, hk⟩ := hrel
    rename World => W0
    have HC := Lib.hid hc
    have HK := Lib.hid hk
    clear hc hk HC1
    by_cases hlt : j < x1.length
    · have hj100 : j < 100 := by omega
      obtain ⟨ad, ea, hadb, hc0⟩ := H1.out.1 j x1[j] (List.getElem?_eq_getElem hlt)
      have hwf := wfU (H1.out.2.1 x1[j] (List.getElem_mem hlt))
      have hcx : W0.cell? (ad.add j) = some (.int .u64 x1[j]) := (HC.out.b.cell (p := ad.add j) (by rw [block_add]; exact hadb)).trans hc0
      generalize x1[j] = x at *
      obtain ⟨x, rfl⟩ : ∃ y : Nat, x = (y : Int) := ⟨x.toNat, by omega⟩
      have HCX := Lib.hid hcx
      clear hc0 hwf hcx
      subst ea
      have hcv := conv_nmE W0 j hj100
      rw [show ((j / 10 : Nat) : Int) = (j : Int) / 10 by omega, show ((j % 10 : Nat) : Int) = (j : Int) % 10 by omega] at hcv
      obtain ⟨W1, hW1⟩ : ∃ W1, W1 = W0.alloc (.cells #[.int .u8 (65 + (j : Int) / 10), .int .u8 (65 + (j : Int) % 10)] 5) := ⟨_, rfl⟩
      have HO1 : Hid (Only [] W0 W1) := by show Only _ _ _; rw [hW1]; exact (Only.refl _ _).alloc _
      have HC1 := Lib.hid (HC.out.old HO1.out)
      have hcx0 := HCX.out
      have hbl : (ad.add j).block < W0.heap.size := block_of_cell HCX.out
      have hcx1 : (W0.alloc (.cells #[.int .u8 (65 + (j : Int) / 10), .int .u8 (65 + (j : Int) % 10)] 5)).cell? (ad.add j) = some (.int .u64 (x : Int)) := by rw [← hW1]; exact (HO1.out.cell (p := ad.add j) hbl (by simp)).trans HCX.out
      have hj10 : j / 10 < 10 := by omega
      have hm10 : j % 10 < 10 := by omega
      have HX : Hid (1 ≤ max x 1) := by show _ ≤ _; omega
      obtain ⟨y, hy⟩ : ∃ y, y = max x 1 := ⟨_, rfl⟩
      rw [← hy] at HX
      have HY := Lib.hid hy
      clear hy
      obtain ⟨nm, hnm⟩ : ∃ nm, nm = nmE j := ⟨_, rfl⟩
      rw [← hnm] at hcv
      have HNM := Lib.hid hnm
      clear hnm
      have hgl1 := HC1.out.c.lt
      go_upto_if 46 with fail
      rw [← hW1]
      clear hW1 hcv hcx1 hcx0 hbl
      go_cut [9] from 47 to 123 (fun s9 W' => s9 = .int .u64 (y : Int) ∧ W' = W1)
      case first =>
        by_cases hx : x < 1
        · have hd : decide ((x : Int) < 1) = true := decide_eq_true (by omega)
          have hY := HY.out
          obtain rfl : y = 1 := by omega
          clear hY
          go_wp2_with fail
          go_meet
          case rel => exact ⟨rfl, rfl⟩
        · have hd : decide ((x : Int) < 1) = false := decide_eq_false (by omega)
          have hY := HY.out
          obtain rfl : y = x := by omega
          clear hY
          go_wp2_with fail
          go_meet
          case rel => exact ⟨rfl, rfl⟩
      case rest =>
      obtain ⟨rfl, hw⟩ := hcut
      rw [hw]
      clear hw
      go_wp2_with fail
      refine (cEntries_any g (q + 1) v l W1 HC1.out.c).mono ?_
      rintro e W2 ⟨r1, rfl, hr1, hn1, ho2⟩
      have HC2 := Lib.hid (HC1.out.old ho2)
      have HR1 := Lib.hid hr1
      obtain ⟨A1, k1, hr1', hlk1, hkm1⟩ := hr1.slice
      unfold maxLen at hkm1
      have HP := Lib.hid (HK.out.put (n := q + 1) (u := y) hj100 HX.out)
      have HKN := Lib.hid (HK.out.next (n := q + 1) (u := y) HX.out)
      have HRL := Lib.hid (roomL_len (n := q + 1) (l := l) (by omega) HC2.out.c.len)
      have HNW := Lib.hid hn1
      obtain ⟨L, hL⟩ : ∃ L, L = l.length := ⟨_, rfl⟩
      have HL := Lib.hid hL
      have hLq : L ≤ q + 1 := by rw [hL]; exact HC2.out.c.len
      rw [← hL] at hr1' hlk1 HRL
      clear hr1 hn1 ho2 hL
      subst hr1'
      have hput := cPut_any g (q + 1) v l (rmE j y) 0 W2 HC2.out.c
      rw [HP.out.1, HP.out.2] at hput
      obtain ⟨rl, hrl⟩ : ∃ rl, rl = roomL (q + 1) l := ⟨_, rfl⟩
      rw [← hrl] at hput HKN HRL
      have HRE := Lib.hid hrl
      clear hrl
      have HFR : Hid (∀ x ∈ ownL (.slice A1 L k1), x ∉ g :: ownL v ∧ w.heap.size ≤ x) := by
        show ∀ x ∈ _, _
        intro x hx
        have h1 := HNW.out x hx
        have h2 := HC1.out.b.size
        exact ⟨fun hm => by have := HC1.out.c.own hm; omega, by omega⟩
      have hput2 : Calls Try.prog 9 #[.pointer (some ⟨g, 0, none⟩), entV ⟨⟨noT, noT, false⟩, nm, noT, y⟩, .int .u64 ((0 : Nat) : Int)] W2 fun r w' => r = .returned (.bool true) ∧ CaStep W2 w' g (q + 1) v (rl ++ [rmE j y]) := by rw [HNM.out]; exact hput
      clear hput
      go_wp2_with fail
      refine hput2.mono ?_
      rintro e W3 ⟨rfl, hs3⟩
      obtain ⟨v3, hc3, ho3, hg3⟩ := HC2.out.step hs3
      have HC3 := Lib.hid hc3
      have HR13 := Lib.hid (HR1.out.only ho3 (fun x hx => (HFR.out x hx).1))
      clear hput2 hs3 hc3 ho3 hg3
      go_wp2_with fail
      refine (cEntries_any g (q + 1) v3 _ W3 HC3.out.c).mono ?_
      rintro e W4 ⟨r2, rfl, hr2, hn2, ho4⟩
      have HC4 := Lib.hid (HC3.out.old ho4)
      have HR14 := Lib.hid (HR13.out.old ho4)
      have HR2 := Lib.hid hr2
      have HRLE : Hid ((rl ++ [rmE j y]).length = rl.length + 1) := by show _ = _; rw [List.length_append]; rfl
      obtain ⟨g2, k2, hr2', _, hlk2, hkm2⟩ := hr2.some_ (by rw [HRLE.out]; omega)
      unfold maxLen at hkm2
      rw [HRLE.out] at hr2' hlk2
      obtain ⟨R, hR⟩ : ∃ R, R = rl.length := ⟨_, rfl⟩
      rw [← hR] at hr2' hlk2 HRL HRLE
      have HRR := Lib.hid hR
      clear hr2 hn2 ho4 hR
      subst hr2'
      have hx4 := HR2.out.el HRLE.out.symm (k := R) (by rw [HRLE.out]; omega)
      rw [nthE_last rl _ HRR.out] at hx4
      have y3 : W4.cell? ⟨g2, R * 6 + 3, none⟩ = some (.string nm) := by rw [HNM.out]; exact hx4.c3
      have y5 : W4.cell? ⟨g2, R * 6 + 5, none⟩ = some (.int .u64 (y : Int)) := hx4.c5
      clear hx4
      have hRL := HRL.out
      have hRq : R = min L q := by omega
      clear hRL
      by_cases hfull : L = q + 1
      · obtain rfl : R = q := by omega
        have hLa : R + 1 ≤ L := by omega
        have hEq : ((L : Int) == 1 + (R : Int)) = true := by simp; omega
        have HLR : Hid (L = R + 1) := hfull
        have HRY : Hid (rl = l.eraseIdx (leastI l L)) := by show _ = _; rw [HRE.out, roomL_yes (by rw [← HL.out]; omega), ← HL.out]
        obtain ⟨g1, c9, e9, _, _, _⟩ := HR14.out.some_ (by rw [← HL.out]; omega)
        rw [← HL.out] at e9
        obtain ⟨rfl, rfl⟩ : A1 = some ⟨g1, 0, none⟩ ∧ k1 = c9 := by
          injection e9 with e1 e2 e3
          exact ⟨e1, e3⟩
        clear hfull hRq e9
        go_wp2_with fail
        go_loopw [12, 13] (fun pl i wr => ∃ i' : Nat, 1 ≤ i' ∧ i' ≤ L ∧ i = .int .i64 i' ∧ pl = .int .i64 ((leastI l i' : Nat) : Int) ∧ Only [] W4 wr) (fun _ i _ => L - (intOf i).toNat)
        case atStart => exact ⟨1, by omega, by omega, rfl, by rw [leastI_one]; rfl, Only.refl _ _⟩
        case round =>
          obtain ⟨i, hi1, hi2, rfl, rfl, ho⟩ := hrel
          rename World => W5
          have HO5 := Lib.hid ho
          clear ho y3 y5
          have HA := Lib.hid (HR14.out.old HO5.out)
          by_cases hlt2 : i < L
          · have hx5 := (HA.out.el (l := l) HL.out (k := i) (by rw [← HL.out]; exact hlt2)).c5
            have HPL : Hid (leastI l i < L) := by show _ < _; have := leastI_lt l (k := i) (by omega); omega
            have HLS : Hid (leastI l (i + 1) = if (nthE l i).t < (nthE l (leastI l i)).t then i else leastI l i) := rfl
            have hy5 := (HA.out.el (l := l) HL.out (k := leastI l i) (by rw [← HL.out]; exact HPL.out)).c5
            obtain ⟨p, hp⟩ : ∃ p, p = leastI l i := ⟨_, rfl⟩
            rw [← hp] at HPL HLS hy5 ⊢
            clear hp
            have hpl := HPL.out
            generalize (nthE l i).t = xt at *
            generalize (nthE l p).t = yt at *
            by_cases hcmp : xt < yt
            · have hd : decide (xt < yt) = true := decide_eq_true hcmp
              have HE : Hid (leastI l (i + 1) = i) := by show _ = _; rw [HLS.out, if_pos hcmp]
              clear HLS hcmp
              go_wp2_with fail
              go_quiet (fail)
              clear hx5 hy5 hd
              go_wp2
              go_roundw
              case rel => exact ⟨i + 1, by omega, by omega, by go_num, by rw [HE.out], HO5.out.drewN _⟩
              case measure => simp [intOf]; omega
            · have hd : decide (xt < yt) = false := decide_eq_false hcmp
              have HE : Hid (leastI l (i + 1) = p) := by show _ = _; rw [HLS.out, if_neg hcmp]
              clear HLS hcmp
              go_wp2_with fail
              go_quiet (fail)
              clear hx5 hy5 hd
              go_wp2
              go_roundw
              case rel => exact ⟨i + 1, by omega, by omega, by go_num, by rw [HE.out], HO5.out.drewN _⟩
              case measure => simp [intOf]; omega
          · obtain rfl : i = L := by omega
            have HPL : Hid (leastI l i < i) := leastI_lt l (by omega)
            obtain ⟨p, hp⟩ : ∃ p, p = leastI l i := ⟨_, rfl⟩
            rw [← hp] at HPL HRY ⊢
            clear hp
            have hpl := HPL.out
            obtain ⟨W6, hW6⟩ : ∃ W6, W6 = W5.drew := ⟨_, rfl⟩
            have HO6 : Hid (Only [] W4 W6) := by show Only _ _ _; rw [hW6]; exact HO5.out.drew
            have HA6 := Lib.hid (HR14.out.old HO6.out)
            have HN6 := Lib.hid (HR2.out.old HO6.out)
            have hkl1 : p + 1 ≤ i := by omega
            obtain ⟨A2, hA, HPD⟩ : ∃ A2 : Addr, (if k1 = p + 1 then (some (⟨g1, 0, none⟩ : Addr)) else some ⟨g1, (p + 1) * 6, none⟩) = some A2 ∧ Hid (∀ W', EnRow W' (.slice (some ⟨g1, 0, none⟩) i k1) l → PartAt eE W' (.slice (some A2) (i - (p + 1)) (k1 - (p + 1))) (l.drop (p + 1))) := by
              by_cases hc : k1 = p + 1
              · exact ⟨⟨g1, 0, none⟩, by rw [if_pos hc], fun W' hW' => EnRow.dropAt hW' HL.out hkl1 (by rw [if_pos hc])⟩
              · exact ⟨⟨g1, (p + 1) * 6, none⟩, by rw [if_neg hc], fun W' hW' => EnRow.dropAt hW' HL.out hkl1 (by rw [if_neg hc])⟩
            have hic : p ≤ k1 := by omega
            have hkl : p ≤ i := by omega
            have hjc : p + 1 ≤ k1 := by omega
            have hrk : R ≤ k2 := by omega
            have HLN : Hid (i ≤ 100) := by show _ ≤ _; omega
            go_wp2_with fail
            refine mix_start (fun _ => True) (by kernel_rfl) ?_
            rw [← hW6]
            clear hW6
            have hne : Nonempty (Held (fun _ => True)) := ⟨⟨W6, trivial⟩⟩
            refine mix_seg [0, 1, 2, 3, 4, 5, 6, 8, 9, 10, 11] (by kernel_rfl) trivial ?_
            simp only [segOf, pickOps, pickOp]
            repeat (go_big_quiet_step (fail))
            refine wpQuiet_nil ?_
            refine mix_run 7 (by kernel_rfl) ?_
            simp only [segOf, pickOps, pickOp]
            refine wpList_append_ents rfl (.const (.slice none 0 0)) (.tmp 115) rfl (.slice none 0 0) [] rfl EnRow.nil _ (l.take p) rfl (EnRow.takeAt HA6.out HL.out hkl) (by have := HLN.out; simp; omega) ?_
            intro v7 w7 hr7 ho7 hg7
            have HR7 : Hid (EnRow w7 v7 (l.take p)) := hr7.out
            have HO7 : Hid (Only [] W6 w7) := ho7.out.mono (by intro z hz; simp [ownL, Value.ownBlock] at hz)
            have HN7 : Hid (NewL W6.heap.size v7) := by show NewL _ _; intro z hz; rcases hg7.out z hz with h3 | h3; simp [ownL, Value.ownBlock] at h3; omega
            clear hr7 ho7 hg7
            go_wp2_with fail
            refine MixPost.normal trivial ?_
            refine mix_run 12 (by kernel_rfl) ?_
            simp only [segOf, pickOps, pickOp]
            refine wpList_append_ents rfl (.tmp 116) (.tmp 120) rfl v7 (l.take p) rfl HR7.out (.slice (some A2) (i - (p + 1)) (k1 - (p + 1))) (l.drop (p + 1)) (by simp [Act.eval]) (HPD.out w7 (HA6.out.old HO7.out)) (by have := HLN.out; have := HL.out; rw [List.length_take, List.length_drop]; omega) ?_
            intro v8 w8 hr8 ho8 hg8
            have HR8 : Hid (EnRow w8 v8 rl) := by show EnRow _ _ _; rw [HRY.out, List.eraseIdx_eq_take_drop_succ]; exact hr8.out
            have HO8 : Hid (Only [] W6 w8) := HO7.out.next ho8.out (fun z hz => .inr (HN7.out z hz))
            clear hr8 ho8 hg8
            obtain ⟨Av, capv, ev, _⟩ := HR8.out.slice
            obtain ⟨nv, hnv⟩ : ∃ nv, nv = rl.length := ⟨_, rfl⟩
            rw [← hnv] at ev
            clear hnv
            subst ev
            have HO48 := Lib.hid (HO6.out.trans HO8.out)
            have HR28 : Hid (EnRow w8 (.slice (some ⟨g2, 0, none⟩) R k2) rl) := by
              show EnRow _ _ _
              have h1 := EnRow.cutAt (HR2.out.old HO48.out) HRLE.out.symm (k := R) (by omega)
              rw [HRR.out, List.take_left] at h1
              rw [HRR.out]
              exact h1
            go_wp2_with fail
            refine MixPost.normal trivial ?_
            refine mix_run 13 (by kernel_rfl) ?_
            simp only [segOf, pickOps, pickOp]
            go_wp2_with fail
            refine (Ents_any _ _ rl w8 HR28.out HR8.out).mono ?_
            rintro e w9 ⟨rfl, ho9⟩
            have HO9 := Lib.hid (HO48.out.trans ho9)
            clear ho9
            go_wp2_with fail
            refine MixPost.normal trivial ?_
            refine mix_seg [14] (by kernel_rfl) trivial ?_
            simp only [segOf, pickOps, pickOp]
            repeat (go_big_quiet_step (rfl))
            refine wpQuiet_nil ?_
            refine mix_done (by kernel_rfl) ?_
            go_wp2_with fail
            go_roundw
            case rel => exact ⟨j + 1, v3, _, by omega, by go_num, HC4.out.old HO9.out, HKN.out⟩
            case measure => simp [intOf]; omega
      · obtain rfl : R = L := by omega
        have hLq2 : R ≤ q := by omega
        have hne : ((R : Int) == 1 + (q : Int)) = false := by simp; omega
        clear hfull hRq hLq
        go_wp2_with fail
        go_roundw
        case rel => exact ⟨j + 1, v3, _, by omega, by go_num, HC4.out, HKN.out⟩
        case measure => simp [intOf]; omega
    · have hlen := HC.out.c.len
      go_wp2_with fail
      refine (cEntries_any g (q + 1) v l W0 HC.out.c).mono ?_
      rintro e W2 ⟨r1, rfl, hr1, hn1, ho2⟩
      have HC2 := Lib.hid (HC.out.old ho2)
      obtain ⟨A1, k1, hr1', _, _⟩ := hr1.slice
      obtain ⟨L, hL⟩ : ∃ L, L = l.length := ⟨_, rfl⟩
      rw [← hL] at hr1' hlen
      clear hr1 hn1 ho2 hL
      subst hr1'
      have hle : decide ((L : Int) ≤ 1 + (q : Int)) = true := decide_eq_true (by omega)
      go_wp2_with fail
      refine (awake16_any _).mono ?_
      rintro e w' ⟨rfl, hb⟩
      have HE := Lib.hid (HC2.out.b.trans (hb.mono HC2.out.b.size))
      clear hb
      go_wp2
      go_ret
      exact ⟨rfl, HE.out⟩
end Go.Proofs.Ytoafncfknllghaa
