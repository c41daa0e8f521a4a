/-
  The contract of the document's own Take of connections over this seat's program. Conditions: the pool lies there; what holds of it at any time.
-/
import Derived.Test.YtbnmldfiheffoaaQRef3
import Derived.Test.YtbnmldfiheffoaaQAgain
import Derived.Deep.CutRange
namespace Go.Proofs.Ytbnmldfiheffoaa
open Go.RowKit

theorem last_hit {p : Cn → Bool} {l : List Cn} {k : Nat} (hk : k < l.length) (h : p (nthC l k) = true) (h2 : ∀ j, k + 1 ≤ j → j < l.length → p (nthC l j) = false) : lastO p l = some k := lastO_some hk h (fun j h1 h3 => h2 j h1 h3)

set_option maxRecDepth 20000 in
set_option maxHeartbeats 8000000 in
theorem rTake_any (g gt : Nat) (vt vb vi : Value) (s : Pv) (key : ByteArray) (now : Nat) (w : World) (h : RpAt w g gt vt vb vi s) (ok : PvOk s) (hla : s.last ≤ 1000000000) :
    Calls Try.prog 16 #[.pointer (some ⟨g, 0, none⟩), .string key, .int .u64 (now : Int)] w fun e w' =>
      e = .returned (.tuple #[.int .i64 (takeN key now s : Int), .bool (takeF key now s), .int .i64 (takeC key s : Int)]) ∧ RpStep w w' g gt vt vb vi (takeS key now s) := by
  have HP := Lib.hid h
  have HK := Lib.hid ok
  have hsz : s.b.length ≤ 32 ∧ s.i.length ≤ 32 := by have := ok.len; have := ok.t2; omega
  have HSZ := Lib.hid hsz
  have HLA := Lib.hid hla
  clear h ok hla hsz
  by_cases hc : canP s key = true
  · have HC := Lib.hid hc
    have HM : Hid (MidOk key (midP key now s)) := (HK.out.shut (dueB now)).use hc
    have HS : Hid (takeC key s = 0 ∧ takeS key now s = (match lastO (ckeyB key) (midP key now s).i with | some j => againP j (midP key now s) | none => openP key (midP key now s)) ∧
        takeN key now s = (match lastO (ckeyB key) (midP key now s).i with | some j => (nthC (midP key now s).i j).n | none => s.last + 1) ∧ takeF key now s = (match lastO (ckeyB key) (midP key now s).i with | some _ => false | none => true)) := by
      show _ ∧ _ ∧ _ ∧ _
      unfold takeC takeS takeN takeF
      rw [if_pos hc, if_pos hc, if_pos hc, if_pos hc]
      exact ⟨rfl, rfl, rfl, rfl⟩
    have HML := Lib.hid (midP_last key now s)
    have HMS : Hid ((midP key now s).b.length ≤ 32 ∧ (midP key now s).i.length ≤ 32) := by show _ ∧ _; have := HM.out.len; have := HM.out.t2; omega
    obtain ⟨s2, hs2⟩ : ∃ s2, s2 = shutP (dueB now) s := ⟨_, rfl⟩
    obtain ⟨go, hgo⟩ : ∃ go, go = useG 32 s.h key := ⟨_, rfl⟩
    obtain ⟨had, hhad⟩ : ∃ had, had = hasC s.h key := ⟨_, rfl⟩
    have HMM : Hid ((had = false ∧ 32 ≤ s.h.length → midP key now s = shutP (ckeyB go) { s2 with h := useS 32 s.h key }) ∧ (¬ (had = false ∧ 32 ≤ s.h.length) → midP key now s = { s2 with h := useS 32 s.h key })) := by
      show _ ∧ _
      rw [hs2, hgo, hhad]
      refine ⟨fun h1 => ?_, fun h1 => ?_⟩
      · unfold midP useP; rw [if_pos (show hasC (shutP (dueB now) s).h key = false ∧ 32 ≤ (shutP (dueB now) s).h.length from h1)]; rfl
      · unfold midP useP; rw [if_neg (show ¬ (hasC (shutP (dueB now) s).h key = false ∧ 32 ≤ (shutP (dueB now) s).h.length) from h1)]; rfl
    have HSI : Hid (s2.i.length ≤ 32) := by show _ ≤ _; rw [hs2]; have := List.length_filter_le (fun c => !dueB now c) s.i; have := HSZ.out; show (s.i.filter _).length ≤ 32; omega
    have HS2 : Hid (shutP (dueB now) s = s2) := hs2.symm
    have HSH : Hid (s2.h = s.h) := by show _ = _; rw [hs2]; rfl
    obtain ⟨m, hm⟩ : ∃ m, m = midP key now s := ⟨_, rfl⟩
    rw [← hm] at HM HMM HS HML HMS
    have HGO := Lib.hid hgo
    have HHAD := Lib.hid hhad
    clear hm hc hs2 hgo hhad
    rw [HS.out.1]
    obtain ⟨N, hN⟩ : ∃ N, N = takeN key now s := ⟨_, rfl⟩
    obtain ⟨Fb, hFb⟩ : ∃ Fb, Fb = takeF key now s := ⟨_, rfl⟩
    obtain ⟨S2, hS2⟩ : ∃ S2, S2 = takeS key now s := ⟨_, rfl⟩
    rw [← hN, ← hFb, ← hS2] at HS ⊢
    have HSS := Lib.hid HS.out.2
    clear hN hFb hS2 HS
    obtain ⟨At, capt, hvt, _, _⟩ := HP.out.tb.room
    subst hvt
    go_enter Try.func16, Try.ntmps16
    go_wp2_with fail
    refine (rCan_any g gt _ vb vi s key w HP.out (by have := HSZ.out; omega)).mono ?_
    rintro e w1 ⟨rfl, ho⟩
    rw [HC.out]
    have HO1 := Lib.hid ho
    have HP1 := Lib.hid (HP.out.old ho)
    clear ho
    go_wp2_with fail
    refine (rExpire_any g gt _ vb vi s now w1 HP1.out (by have := HSZ.out; omega)).mono ?_
    rintro e w2 ⟨r, vi2, rfl, _, _, hp2, ho2, hg2⟩
    rw [HS2.out] at hp2
    have HP2 := Lib.hid hp2
    have HO2 : Hid (Only (footP g gt (.slice At s.h.length capt) vb vi) w w2) := (HO1.out.mono (by simp)).trans (ho2.mono (by intro x hx; rcases List.mem_cons.1 hx with h1 | h1; exact mem_footP.2 (by simp [h1]); exact mem_footP.2 (by simp [h1])))
    have HG2 : Hid (Grow w.heap.size vi vi2) := (Grow.refl _ _).trans hg2 HO1.out.size
    have hd5 := hp2.hd.c5
    have hgl2 := hp2.hd.lt
    have hdt := hp2.tb.head.c1
    have hgtl := hp2.tb.head.lt
    clear hp2 ho2 hg2
    have hcHas := tHas_any gt 32 _ s2.h key w2 HP2.out.tb
    rw [HSH.out, ← HHAD.out] at hcHas
    have hcUse := tUse_any gt 32 _ s2.h key w2 HP2.out.tb
    rw [HSH.out, ← HGO.out] at hcUse
    go_wp2_with fail
    refine hcHas.mono ?_
    rintro e w3 ⟨rfl, rfl⟩
    go_wp2_with fail
    refine hcUse.mono ?_
    rintro e w3 ⟨rfl, vt3, ht3, ho3, hv3⟩
    clear hcHas hcUse hd5 hgl2 hdt hgtl
    have HP3 := Lib.hid (HP2.out.turnT ho3 ht3 hv3)
    have HO3 : Hid (Only (footP g gt (.slice At s.h.length capt) vb vi) w w3) := by
      show Only _ _ _
      refine HO2.out.trans (ho3.mono ?_)
      intro x hx
      rcases List.mem_cons.1 hx with h1 | h1
      · exact mem_footP.2 (by simp [h1])
      · exact mem_footP.2 (by simp [h1])
    have HV3 : Hid (Grow w.heap.size (.slice At s.h.length capt) vt3) := fun x hx => (hv3 x hx).imp id (Nat.le_trans HO2.out.size)
    clear ht3 ho3 hv3
    obtain ⟨b7, hb7⟩ : ∃ b7, b7 = decide (had = false ∧ 32 ≤ s.h.length) := ⟨_, rfl⟩
    go_upto_region 7 with fail
    go_cut [57] from 45 (fun s57 W' => s57 = .bool b7 ∧ W' = w3)
    case first =>
      have hd5 := HP3.out.hd.c5
      have hgl3 := HP3.out.hd.lt
      have hdt := HP3.out.tb.head.c0
      have hgtl := HP3.out.tb.head.lt
      cases had with
      | true =>
        obtain rfl : b7 = false := by rw [hb7]; simp
        clear hb7
        go_wp2_with fail
        go_meet
        case rel => exact ⟨rfl, rfl⟩
      | false =>
        by_cases h32 : 32 ≤ s.h.length
        · obtain rfl : b7 = true := by rw [hb7]; simp [h32]
          clear hb7
          go_wp2_with fail
          go_meet
          case rel => exact ⟨by first | rfl | exact congrArg Value.bool (decide_eq_true (by omega)), rfl⟩
        · obtain rfl : b7 = false := by rw [hb7]; simp; omega
          clear hb7
          go_wp2_with fail
          go_meet
          case rel => exact ⟨by first | rfl | exact congrArg Value.bool (decide_eq_false (by omega)), rfl⟩
    case rest =>
    obtain ⟨rfl, hwc⟩ := hcut
    rw [hwc]
    clear hwc
    have HB7 := Lib.hid hb7
    clear hb7
    go_upto_if 57 with fail
    go_cut [] from 58 (fun W' => ∃ v5, RpAt W' g gt vt3 vb v5 m ∧ Only (g :: ownL vi2) w3 W' ∧ Grow w3.heap.size vi2 v5)
    case first =>
      cases b7 with
      | false =>
        have HE : Hid (m = { s2 with h := useS 32 s.h key }) := HMM.out.2 (by have := HB7.out; simpa using this)
        go_wp2_with fail
        go_meet
        case rel => exact ⟨vi2, by rw [HE.out]; exact HP3.out, Only.refl _ _, Grow.refl _ _⟩
      | true =>
        have HE : Hid (m = shutP (ckeyB go) { s2 with h := useS 32 s.h key }) := HMM.out.1 (by have := HB7.out; simpa using this)
        go_wp2_with fail
        refine (rclose_any g gt vt3 vb vi2 _ go w3 HP3.out (by have := HSI.out; show s2.i.length ≤ 100; omega)).mono ?_
        rintro e w4 ⟨v5, rfl, hp4, ho4, hg4⟩
        rw [← HE.out] at hp4
        have HP4 := Lib.hid hp4
        have HO4 := Lib.hid ho4
        have HG4 := Lib.hid hg4
        clear hp4 ho4 hg4
        go_wp2_with fail
        go_meet
        case rel => exact ⟨v5, HP4.out, HO4.out, HG4.out⟩
    case rest =>
      obtain ⟨v5, hp5, ho5, hg5⟩ := hcut
      obtain ⟨Ai, cap, rfl, hlc, hcm⟩ := hp5.ri.slice
      unfold maxLen at hcm
      obtain ⟨w5, hw5⟩ : ∃ w5, w5 = wc := ⟨_, rfl⟩
      rw [← hw5] at hp5 ho5 ⊢
      clear hw5
      have HP5 := Lib.hid hp5
      have HOA : Hid (Only (footP g gt (.slice At s.h.length capt) vb vi) w w5) := by
        show Only _ _ _
        refine HO3.out.next ho5 ?_
        intro x hx
        rcases List.mem_cons.1 hx with h1 | h1
        · exact .inl (mem_footP.2 (by simp [h1]))
        · rcases HG2.out x h1 with h2 | h2
          · exact .inl (mem_footP.2 (by simp [h2]))
          · exact .inr h2
      have G1 := HV3
      have G3 : Hid (Grow w.heap.size vi (.slice Ai m.i.length cap)) := HG2.out.trans hg5 HO3.out.size
      have hc4 := hp5.hd.c4
      have hgl5 := hp5.hd.lt
      clear hp5 ho5 hg5
      have HLN : Hid (m.i.length ≤ 100) := by show _ ≤ _; have := HMS.out; omega
      go_wp2_with fail
      go_loop [13] (fun i => ∃ (k : Nat) (z : Int), k ≤ m.i.length ∧ z = (k : Int) - 1 ∧ i = .int .i64 z ∧ ∀ j, k ≤ j → j < m.i.length → ckeyB key (nthC m.i j) = false) (fun i => (intOf i + 1).toNat)
      case atStart => exact ⟨m.i.length, _, Nat.le_refl _, rfl, rfl, fun j h1 h2 => by omega⟩
      case round =>
        obtain ⟨k, z, hk, hz, rfl, hno⟩ := hrel
        have HNO := Lib.hid hno
        clear hno
        cases k with
        | zero =>
          obtain rfl : z = -1 := by omega
          clear hz
          have HE : Hid (N = m.last + 1 ∧ Fb = true ∧ S2 = openP key m) := by
            have h1 : lastO (ckeyB key) m.i = none := lastO_none (fun j hj => HNO.out j (Nat.zero_le _) hj)
            have h2 := HSS.out
            rw [h1] at h2
            show _ ∧ _ ∧ _
            exact ⟨h2.2.1.trans (congrArg (· + 1) HML.out.1.symm), h2.2.2, h2.1⟩
          obtain ⟨b17, hb17⟩ : ∃ b17, b17 = decide (m.t ≤ m.b.length + m.i.length ∧ 0 < m.i.length) := ⟨_, rfl⟩
          go_upto_region 17 with fail
          go_cut [141] from 118 (fun s141 W' => s141 = .bool b17 ∧ Only [] w5 W')
          case first =>
            obtain ⟨Ab, nb, capb, hvb, hnb⟩ : ∃ Ab nb capb, vb = .slice Ab nb capb ∧ nb = m.b.length := by obtain ⟨A, c, e, _⟩ := HP5.out.rb.slice; exact ⟨A, _, c, e, rfl⟩
            have hc0 := HP5.out.hd.c0
            have hc3 := HP5.out.hd.c3
            rw [hvb] at hc3
            rw [← hnb] at hb17
            have hml := HMS.out
            rw [← hnb] at hml
            clear hvb hnb
            by_cases hful : m.t ≤ nb + m.i.length
            · have hful2 : (m.t : Int) ≤ (nb : Int) + (m.i.length : Int) := by omega
              by_cases hi0 : 0 < m.i.length
              · obtain rfl : b17 = true := by rw [hb17]; simp [hful, hi0]
                clear hb17
                go_wp2_with fail
                go_quiet (rfl)
                go_wp2_with fail
                go_meet
                case rel => exact ⟨rfl, (Only.refl _ _).drewN _⟩
              · obtain rfl : b17 = false := by rw [hb17]; exact decide_eq_false (fun h => hi0 h.2)
                clear hb17
                go_wp2_with fail
                go_quiet (rfl)
                go_wp2_with fail
                go_meet
                case rel => exact ⟨rfl, (Only.refl _ _).drewN _⟩
            · obtain rfl : b17 = false := by rw [hb17]; exact decide_eq_false (fun h => hful h.1)
              clear hb17
              go_wp2_with fail
              have hnf : decide ((m.t : Int) ≤ (nb : Int) + (m.i.length : Int)) = false := decide_eq_false (by omega)
              go_quiet (rfl)
              go_wp2_with fail
              go_meet
              case rel => exact ⟨rfl, (Only.refl _ _).drewN _⟩
          case rest =>
          obtain ⟨rfl, ho17⟩ := hcut
          obtain ⟨w17, hw17⟩ : ∃ w17, w17 = wc := ⟨_, rfl⟩
          rw [← hw17] at ho17 ⊢
          clear hw17
          have HO17 := Lib.hid ho17
          have HP17 := Lib.hid (HP5.out.old ho17)
          have HB17 := Lib.hid hb17
          clear hb17 ho17 hc4
          go_upto_if 141 with fail
          go_cut [] from 142 (fun W' => ∃ v6, RpAt W' g gt vt3 vb v6 { m with i := (if m.t ≤ m.b.length + m.i.length then m.i.drop 1 else m.i) } ∧ Only (g :: ownL (.slice Ai m.i.length cap)) w5 W' ∧ Grow w5.heap.size (.slice Ai m.i.length cap) v6)
          case first =>
            cases b17 with
            | false =>
              have HE : Hid ({ m with i := (if m.t ≤ m.b.length + m.i.length then m.i.drop 1 else m.i) } = m) := by
                show _ = _
                have h1 := HB17.out
                simp only [Bool.false_eq, decide_eq_false_iff_not] at h1
                by_cases h2 : m.t ≤ m.b.length + m.i.length
                · rw [if_pos h2]
                  have h3 : m.i = [] := List.length_eq_zero_iff.1 (by omega)
                  rw [h3]
                  cases m
                  simp only at h3
                  subst h3
                  rfl
                · rw [if_neg h2]
              go_wp2_with fail
              go_meet
              case rel => exact ⟨_, by rw [HE.out]; exact HP17.out, HO17.out.mono (by simp), Grow.refl _ _⟩
            | true =>
              have hful := HB17.out
              simp only [Bool.true_eq, decide_eq_true_eq] at hful
              have HFU := Lib.hid hful.1
              obtain ⟨gr, cap2, e2, _, _, _⟩ := HP17.out.ri.some_ hful.2
              obtain ⟨rfl, rfl⟩ : Ai = some ⟨gr, 0, none⟩ ∧ cap = cap2 := by
                injection e2 with e1 e2 e3
                exact ⟨e1, e3⟩
              clear e2
              have hi0 : 0 < m.i.length := hful.2
              clear hful
              have hd4 := HP17.out.hd.c4
              have hgl17 := HP17.out.hd.lt
              obtain ⟨D, hD⟩ : ∃ D, D = m.i.drop 1 := ⟨_, rfl⟩
              have HDL : Hid (D.length ≤ 100) := by show _ ≤ _; rw [hD, List.length_drop]; have := HLN.out; omega
              have HDE : Hid (m.i.drop 1 = D) := hD.symm
              by_cases hcap : cap = 1
              · subst hcap
                have hone : m.i.length - 1 = 0 := by omega
                have HPA : Hid (PartAt cE w17 (.slice (some ⟨gr, 0, none⟩) 0 0) D) := by show PartAt _ _ _ _; rw [hD]; have h1 := ERow.partDrop (A := ⟨gr, 0, none⟩) HP17.out.ri (k := 1) (by omega) (by rw [if_pos rfl]); rw [hone] at h1; exact h1
                clear hone
                clear hD
                go_wp2_with (at_builtin; refine wpList_append_part cE rfl (.const (.slice none 0 0)) (.tmp 147) 44 80 rfl Try.underlying44 (.agg #[.int .i64 0, .string ⟨#[]⟩, .int .u64 0]) 32 infoCR rfl 0 (.slice none 0 0) [] rfl ERow.nil _ D rfl HPA.out (by have := HDL.out; simp; omega) (by omega) (Nat.zero_le _) ?_)
                intro v2 w2 hr2 ho2 hg2
                have HR2 : Hid (CRow 80 w2 v2 D) := hr2.out
                have HO2 : Hid (Only [] w5 w2) := HO17.out.trans (ho2.out.mono (by intro z hz; simp [ownL, Value.ownBlock] at hz))
                have HN2 : Hid (NewL w5.heap.size v2) := by show NewL _ _; intro z hz; have := HO17.out.size; rcases hg2.out z hz with h3 | h3; simp [ownL, Value.ownBlock] at h3; omega
                have HH2 := Lib.hid (HP5.out.old HO2.out).hd
                clear hr2 ho2 hg2 hd4
                obtain ⟨Av, capv, ev, _⟩ := HR2.out.slice
                obtain ⟨nv, hnv⟩ : ∃ nv, nv = D.length := ⟨_, rfl⟩
                rw [← hnv] at ev
                clear hnv
                subst ev
                obtain ⟨W3, hW3⟩ : ∃ W3, W3 = w2.setCell ⟨g, 4, none⟩ (.slice Av nv capv) := ⟨_, rfl⟩
                have HO3 : Hid (Only (g :: ownL (.slice (some ⟨gr, 0, none⟩) m.i.length 1)) w5 W3) := by show Only _ _ _; rw [hW3]; exact (HO2.out.mono (by simp)).setCell (p := ⟨g, 4, none⟩) (by simp) _
                have HG3 : Hid (Grow w5.heap.size (.slice (some ⟨gr, 0, none⟩) m.i.length 1) (.slice Av nv capv)) := fun x hx => .inr (HN2.out x hx)
                have HQ3 : Hid (RpAt W3 g gt vt3 vb (.slice Av nv capv) { m with i := (if m.t ≤ m.b.length + m.i.length then m.i.drop 1 else m.i) }) := by
                  show RpAt _ _ _ _ _ _ _
                  rw [if_pos HFU.out, HDE.out]
                  refine HP5.out.turnI HO3.out ?_ ?_ HG3.out
                  · rw [hW3]; exact HH2.out.setI _
                  · rw [hW3]
                    refine HR2.out.only (s := [g]) ((Only.refl _ _).setCell (p := ⟨g, 4, none⟩) (by simp) _) ?_
                    intro z hz hm
                    simp at hm
                    have h1 := HN2.out z hz
                    have h2 := HP5.out.hd.lt
                    omega
                have hk2 := HH2.out.c4
                have hk3 := HH2.out.z4
                have hk4 := HH2.out.lt
                go_wp2_with fail
                rw [← hW3]
                clear hW3 hk2 hk3 hk4
                go_wp2_with fail
                go_meet
                case rel => exact ⟨_, HQ3.out, HO3.out, HG3.out⟩
              · have HPA : Hid (PartAt cE w17 (.slice (some ⟨gr, 3, none⟩) (m.i.length - 1) (cap - 1)) D) := by show PartAt _ _ _ _; rw [hD]; exact ERow.partDrop HP17.out.ri (by omega) (by rw [if_neg hcap]; rfl)
                clear hD
                go_wp2_with (at_builtin; refine wpList_append_part cE rfl (.const (.slice none 0 0)) (.tmp 147) 44 80 rfl Try.underlying44 (.agg #[.int .i64 0, .string ⟨#[]⟩, .int .u64 0]) 32 infoCR rfl 0 (.slice none 0 0) [] rfl ERow.nil _ D rfl HPA.out (by have := HDL.out; simp; omega) (by omega) (Nat.zero_le _) ?_)
                intro v2 w2 hr2 ho2 hg2
                have HR2 : Hid (CRow 80 w2 v2 D) := hr2.out
                have HO2 : Hid (Only [] w5 w2) := HO17.out.trans (ho2.out.mono (by intro z hz; simp [ownL, Value.ownBlock] at hz))
                have HN2 : Hid (NewL w5.heap.size v2) := by show NewL _ _; intro z hz; have := HO17.out.size; rcases hg2.out z hz with h3 | h3; simp [ownL, Value.ownBlock] at h3; omega
                have HH2 := Lib.hid (HP5.out.old HO2.out).hd
                clear hr2 ho2 hg2 hd4
                obtain ⟨Av, capv, ev, _⟩ := HR2.out.slice
                obtain ⟨nv, hnv⟩ : ∃ nv, nv = D.length := ⟨_, rfl⟩
                rw [← hnv] at ev
                clear hnv
                subst ev
                obtain ⟨W3, hW3⟩ : ∃ W3, W3 = w2.setCell ⟨g, 4, none⟩ (.slice Av nv capv) := ⟨_, rfl⟩
                have HO3 : Hid (Only (g :: ownL (.slice (some ⟨gr, 0, none⟩) m.i.length cap)) w5 W3) := by show Only _ _ _; rw [hW3]; exact (HO2.out.mono (by simp)).setCell (p := ⟨g, 4, none⟩) (by simp) _
                have HG3 : Hid (Grow w5.heap.size (.slice (some ⟨gr, 0, none⟩) m.i.length cap) (.slice Av nv capv)) := fun x hx => .inr (HN2.out x hx)
                have HQ3 : Hid (RpAt W3 g gt vt3 vb (.slice Av nv capv) { m with i := (if m.t ≤ m.b.length + m.i.length then m.i.drop 1 else m.i) }) := by
                  show RpAt _ _ _ _ _ _ _
                  rw [if_pos HFU.out, HDE.out]
                  refine HP5.out.turnI HO3.out ?_ ?_ HG3.out
                  · rw [hW3]; exact HH2.out.setI _
                  · rw [hW3]
                    refine HR2.out.only (s := [g]) ((Only.refl _ _).setCell (p := ⟨g, 4, none⟩) (by simp) _) ?_
                    intro z hz hm
                    simp at hm
                    have h1 := HN2.out z hz
                    have h2 := HP5.out.hd.lt
                    omega
                have hk2 := HH2.out.c4
                have hk3 := HH2.out.z4
                have hk4 := HH2.out.lt
                go_wp2_with fail
                rw [← hW3]
                clear hW3 hk2 hk3 hk4
                go_wp2_with fail
                go_meet
                case rel => exact ⟨_, HQ3.out, HO3.out, HG3.out⟩
          case rest =>
            obtain ⟨v6, hq, ho, hg⟩ := hcut
            have HQ6 := Lib.hid hq
            have HO6 := Lib.hid ho
            have HG6 := Lib.hid hg
            clear hq ho hg
            have hc1 := HQ6.out.hd.c1
            have hz1 := HQ6.out.hd.z1
            have hgl6 := HQ6.out.hd.lt
            have hla : (m.last : Int) ≤ 1000000000 := by have := HLA.out; have := HML.out.1; omega
            obtain ⟨q, hq⟩ : ∃ q, q = m.last + 1 := ⟨_, rfl⟩
            have HQQ : Hid ((m.last : Int) + 1 = (q : Int)) := by show _ = _; omega
            have HQL := Lib.hid hq
            clear hq
            obtain ⟨W7, hW7⟩ : ∃ W7, W7 = wc.setCell ⟨g, 1, none⟩ (.int .i64 (q : Int)) := ⟨_, rfl⟩
            have HO7 : Hid (Only [g] wc W7) := by show Only _ _ _; rw [hW7]; exact (Only.refl _ _).setCell (p := ⟨g, 1, none⟩) (by simp) _
            have HP7 : Hid (RpAt W7 g gt vt3 vb v6 { m with i := (if m.t ≤ m.b.length + m.i.length then m.i.drop 1 else m.i), last := q }) := by
              show RpAt _ _ _ _ _ _ _
              refine HQ6.out.turnL q HO7.out ?_
              rw [hW7]; exact HQ6.out.hd.setL q
            go_upto_region 20 with fail
            rw [HQQ.out, ← hW7]
            clear hW7 hc1 hz1 hgl6 hla
            obtain ⟨F, hF⟩ : ∃ F : World → Prop, ∀ X, F X ↔ X.cell? ⟨g, 1, none⟩ = some (.int .i64 (q : Int)) := ⟨_, fun _ => Iff.rfl⟩
            have hxq : ∀ p : Held F, p.w.cell? ⟨g, 1, none⟩ = some (.int .i64 (q : Int)) := fun p => (hF _).1 p.h
            have HFF : Hid (∀ X, Only (ownL vb) W7 X → F X) := by
              show ∀ X, _
              intro X ho
              exact (hF _).2 ((ho.cell (p := ⟨g, 1, none⟩) HP7.out.hd.lt HP7.out.ap.a3).trans HP7.out.hd.c1)
            have HFC : Hid (∀ X : World, X.cell? ⟨g, 1, none⟩ = some (.int .i64 (q : Int)) → F X) := fun X h => (hF X).2 h
            clear hF
            obtain ⟨W0, hW0⟩ : ∃ W0, W0 = W7.drew := ⟨_, rfl⟩
            have HO0 : Hid (Only [] W7 W0) := by show Only _ _ _; rw [hW0]; exact (Only.refl _ _).drew
            have HQ0 := Lib.hid (HP7.out.old HO0.out)
            obtain ⟨W1, hW1⟩ : ∃ W1, W1 = W0.alloc (.cells #[.int .i64 (q : Int), .string key, .int .u64 0] 80) := ⟨_, rfl⟩
            obtain ⟨B1, hB1⟩ : ∃ B1, B1 = W0.heap.size := ⟨_, rfl⟩
            have HO1 : Hid (Only [] W7 W1) := by show Only _ _ _; rw [hW1]; exact HO0.out.alloc _
            have HN1 : Hid (W1.cell? ⟨B1, 0, none⟩ = some (.int .i64 (q : Int)) ∧ W1.cell? ⟨B1, 1, none⟩ = some (.string key) ∧ W1.cell? ⟨B1, 2, none⟩ = some (.int .u64 0)) := by show _ ∧ _ ∧ _; rw [hW1, hB1]; exact ⟨by simp, by simp, by simp⟩
            have HS1 : Hid (W7.heap.size ≤ W1.heap.size) := HO1.out.size
            have HQ1 := Lib.hid (HP7.out.old HO1.out)
            have hgl0 := HQ0.out.hd.lt
            have hgl1 := HQ1.out.hd.lt
            go_wp2_with fail
            refine mix_start F (by kernel_rfl) ?_
            rw [← hW0]
            clear hW0
            refine mix_seg [0, 1, 2, 3, 5, 6, 7, 8, 9, 10] (by kernel_rfl) (HFF.out _ (HO0.out.mono (by simp))) ?_
            simp only [segOf, pickOps, pickOp]
            repeat (go_big_quiet_step (rfl))
            refine wpQuiet_nil ?_
            refine mix_several [4, 11] (by kernel_rfl) ?_
            intro i1 hi1
            simp only [List.mem_cons, List.not_mem_nil, or_false] at hi1
            rcases hi1 with rfl | rfl
            · simp only [segOf, pickOps, pickOp]
              have hk0 := HQ0.out.hd.c3
              go_wp2_with fail
              refine MixPost.normal (HFF.out _ (HO0.out.mono (by simp))) ?_
              clear hk0
              refine mix_run 11 (by kernel_rfl) ?_
              simp only [segOf, pickOps, pickOp]
              go_wp2_with fail
              rw [← hW1, ← hB1]
              clear hW1 hB1
              refine MixPost.normal (HFF.out _ (HO1.out.mono (by simp))) ?_
              refine mix_run 12 (by kernel_rfl) ?_
              simp only [segOf, pickOps, pickOp]
              refine wpList_append_conn rfl (.tmp 162) (.tmp 169) 44 80 rfl Try.underlying44 infoCR _ m.b rfl HQ1.out.rb B1 ⟨q, key, 0⟩ rfl HN1.out.1 HN1.out.2.1 HN1.out.2.2 (by have := HMS.out; omega) ?_
              intro g2 cap2 w2 hr2 ho2 hg2
              obtain ⟨v8, hv8⟩ : ∃ v8, v8 = Value.slice (some ⟨g2, 0, none⟩) (m.b.length + 1) cap2 := ⟨_, rfl⟩
              have HG8 : Hid (Grow W7.heap.size vb v8) := by
                show Grow _ _ _
                intro z hz
                rw [hv8, ownL, Value.ownBlock] at hz
                simp at hz
                subst hz
                rcases hg2.out with h1 | h1
                · exact .inl h1
                · right; have := HS1.out; omega
              have HH2 := Lib.hid (HQ1.out.hd.only ho2.out HQ1.out.ap.a3)
              have HO2 : Hid (Only (ownL vb) W7 w2) := (HO1.out.mono (by simp)).trans ho2.out
              have hk2 := HH2.out.c3
              have hk3 := HH2.out.z3
              have hk4 := HH2.out.lt
              obtain ⟨W3, hW3⟩ : ∃ W3, W3 = w2.setCell ⟨g, 3, none⟩ v8 := ⟨_, rfl⟩
              have HO3 : Hid (Only (g :: ownL vb) W7 W3) := by
                show Only _ _ _
                rw [hW3]; exact (HO2.out.mono (by intro z hz; exact List.mem_cons_of_mem _ hz)).setCell (p := ⟨g, 3, none⟩) (by simp) _
              have HQ3 : Hid (RpAt W3 g gt vt3 v8 v6 { m with i := (if m.t ≤ m.b.length + m.i.length then m.i.drop 1 else m.i), last := q, b := m.b ++ [⟨q, key, 0⟩] }) := by
                show RpAt _ _ _ _ _ _ _
                refine HP7.out.turnB HO3.out ?_ ?_ HG8.out
                · rw [hW3]; exact HH2.out.setB _
                · rw [hW3, hv8]
                  refine hr2.out.only (s := [g]) ((Only.refl _ _).setCell (p := ⟨g, 3, none⟩) (by simp) _) ?_
                  intro z hz hm
                  rw [← hv8] at hz
                  simp at hm
                  subst hm
                  rcases HG8.out z hz with h1 | h1
                  · exact HQ1.out.ap.a3 h1
                  · have := HP7.out.hd.lt; omega
              have HF2 : Hid (F w2) := HFF.out _ HO2.out
              have HF3 : Hid (F W3) := HFC.out _ HQ3.out.hd.c1
              rw [hv8] at hW3
              go_wp2_with fail
              refine MixPost.normal HF2.out ?_
              refine mix_seg [13, 14] (by kernel_rfl) HF2.out ?_
              simp only [segOf, pickOps, pickOp]
              repeat (go_big_quiet_step (rfl))
              refine wpQuiet_nil ?_
              refine mix_run 15 (by kernel_rfl) ?_
              simp only [segOf, pickOps, pickOp]
              go_wp2_with fail
              rw [← hW3]
              clear hW3 hk2 hk3 hk4
              refine MixPost.normal HF3.out ?_
              refine mix_done (by kernel_rfl) ?_
              have hl0 : W3.cell? ⟨g, 1, none⟩ = some (.int .i64 (q : Int)) := hxq ⟨W3, HF3.out⟩
              have hgl3 := HQ3.out.hd.lt
              go_wp2
              go_ret3
              refine ⟨by rw [HE.out.1, HE.out.2.1, ← HQL.out]; rfl, ?_⟩
              rw [HE.out.2.2]
              refine RpStep.next HOA.out G1.out (Grow.refl _ _) G3.out ⟨vt3, v8, v6, ?_, ?_, Grow.refl _ _, ?_, ?_⟩
              · have h1 := HQ3.out
                rw [HQL.out] at h1
                exact h1
              · have h1 : Only (footP g gt vt3 vb (.slice Ai m.i.length cap)) w5 W7 := (HO6.out.mono (by intro x hx; rcases List.mem_cons.1 hx with h2 | h2; exact mem_footP.2 (by simp [h2]); exact mem_footP.2 (by simp [h2]))).trans (HO7.out.mono (by intro x hx; simp at hx; subst hx; exact mem_footP.2 (by simp)))
                exact h1.trans (HO3.out.mono (by intro x hx; rcases List.mem_cons.1 hx with h2 | h2; exact mem_footP.2 (by simp [h2]); exact mem_footP.2 (by simp [h2])))
              · exact (Grow.refl _ _).trans HG8.out (Nat.le_trans HO6.out.size HO7.out.size)
              · exact HG6.out
            · simp only [segOf, pickOps, pickOp]
              go_wp2_with fail
              rw [← hW1, ← hB1]
              clear hW1 hB1
              refine MixPost.normal (HFF.out _ (HO1.out.mono (by simp))) ?_
              refine mix_run 4 (by kernel_rfl) ?_
              simp only [segOf, pickOps, pickOp]
              have hk0 := HQ1.out.hd.c3
              go_wp2_with fail
              refine MixPost.normal (HFF.out _ (HO1.out.mono (by simp))) ?_
              clear hk0
              refine mix_run 12 (by kernel_rfl) ?_
              simp only [segOf, pickOps, pickOp]
              refine wpList_append_conn rfl (.tmp 162) (.tmp 169) 44 80 rfl Try.underlying44 infoCR _ m.b rfl HQ1.out.rb B1 ⟨q, key, 0⟩ rfl HN1.out.1 HN1.out.2.1 HN1.out.2.2 (by have := HMS.out; omega) ?_
              intro g2 cap2 w2 hr2 ho2 hg2
              obtain ⟨v8, hv8⟩ : ∃ v8, v8 = Value.slice (some ⟨g2, 0, none⟩) (m.b.length + 1) cap2 := ⟨_, rfl⟩
              have HG8 : Hid (Grow W7.heap.size vb v8) := by
                show Grow _ _ _
                intro z hz
                rw [hv8, ownL, Value.ownBlock] at hz
                simp at hz
                subst hz
                rcases hg2.out with h1 | h1
                · exact .inl h1
                · right; have := HS1.out; omega
              have HH2 := Lib.hid (HQ1.out.hd.only ho2.out HQ1.out.ap.a3)
              have HO2 : Hid (Only (ownL vb) W7 w2) := (HO1.out.mono (by simp)).trans ho2.out
              have hk2 := HH2.out.c3
              have hk3 := HH2.out.z3
              have hk4 := HH2.out.lt
              obtain ⟨W3, hW3⟩ : ∃ W3, W3 = w2.setCell ⟨g, 3, none⟩ v8 := ⟨_, rfl⟩
              have HO3 : Hid (Only (g :: ownL vb) W7 W3) := by
                show Only _ _ _
                rw [hW3]; exact (HO2.out.mono (by intro z hz; exact List.mem_cons_of_mem _ hz)).setCell (p := ⟨g, 3, none⟩) (by simp) _
              have HQ3 : Hid (RpAt W3 g gt vt3 v8 v6 { m with i := (if m.t ≤ m.b.length + m.i.length then m.i.drop 1 else m.i), last := q, b := m.b ++ [⟨q, key, 0⟩] }) := by
                show RpAt _ _ _ _ _ _ _
                refine HP7.out.turnB HO3.out ?_ ?_ HG8.out
                · rw [hW3]; exact HH2.out.setB _
                · rw [hW3, hv8]
                  refine hr2.out.only (s := [g]) ((Only.refl _ _).setCell (p := ⟨g, 3, none⟩) (by simp) _) ?_
                  intro z hz hm
                  rw [← hv8] at hz
                  simp at hm
                  subst hm
                  rcases HG8.out z hz with h1 | h1
                  · exact HQ1.out.ap.a3 h1
                  · have := HP7.out.hd.lt; omega
              have HF2 : Hid (F w2) := HFF.out _ HO2.out
              have HF3 : Hid (F W3) := HFC.out _ HQ3.out.hd.c1
              rw [hv8] at hW3
              go_wp2_with fail
              refine MixPost.normal HF2.out ?_
              refine mix_seg [13, 14] (by kernel_rfl) HF2.out ?_
              simp only [segOf, pickOps, pickOp]
              repeat (go_big_quiet_step (rfl))
              refine wpQuiet_nil ?_
              refine mix_run 15 (by kernel_rfl) ?_
              simp only [segOf, pickOps, pickOp]
              go_wp2_with fail
              rw [← hW3]
              clear hW3 hk2 hk3 hk4
              refine MixPost.normal HF3.out ?_
              refine mix_done (by kernel_rfl) ?_
              have hl0 : W3.cell? ⟨g, 1, none⟩ = some (.int .i64 (q : Int)) := hxq ⟨W3, HF3.out⟩
              have hgl3 := HQ3.out.hd.lt
              go_wp2
              go_ret3
              refine ⟨by rw [HE.out.1, HE.out.2.1, ← HQL.out]; rfl, ?_⟩
              rw [HE.out.2.2]
              refine RpStep.next HOA.out G1.out (Grow.refl _ _) G3.out ⟨vt3, v8, v6, ?_, ?_, Grow.refl _ _, ?_, ?_⟩
              · have h1 := HQ3.out
                rw [HQL.out] at h1
                exact h1
              · have h1 : Only (footP g gt vt3 vb (.slice Ai m.i.length cap)) w5 W7 := (HO6.out.mono (by intro x hx; rcases List.mem_cons.1 hx with h2 | h2; exact mem_footP.2 (by simp [h2]); exact mem_footP.2 (by simp [h2]))).trans (HO7.out.mono (by intro x hx; simp at hx; subst hx; exact mem_footP.2 (by simp)))
                exact h1.trans (HO3.out.mono (by intro x hx; rcases List.mem_cons.1 hx with h2 | h2; exact mem_footP.2 (by simp [h2]); exact mem_footP.2 (by simp [h2])))
              · exact (Grow.refl _ _).trans HG8.out (Nat.le_trans HO6.out.size HO7.out.size)
              · exact HG6.out
        | succ k =>
          obtain rfl : z = (k : Int) := by omega
          have hlt : k < m.i.length := by omega
          have hk0 : (0 : Int) ≤ (k : Int) := by omega
          clear hz
          obtain ⟨gr, cap2, e2, _, _, _⟩ := HP5.out.ri.some_ (by omega)
          obtain ⟨rfl, rfl⟩ : Ai = some ⟨gr, 0, none⟩ ∧ cap = cap2 := by
            injection e2 with e1 e2 e3
            exact ⟨e1, e3⟩
          clear e2
          obtain ⟨f0, f1, f2⟩ := HP5.out.ri.el rfl hlt
          have HHIT := Lib.hid (last_hit (p := ckeyB key) hlt)
          obtain ⟨y, hy⟩ : ∃ y, y = nthC m.i k := ⟨_, rfl⟩
          rw [← hy] at f0 f1 f2
          have HY := Lib.hid hy
          clear hy
          obtain ⟨y1, y2, y3⟩ := y
          simp only at f0 f1 f2
          by_cases hky : y2 = key
          · have hb : (y2.toList == key.toList) = true := by rw [hky]; exact beq_self_eq_true _
            have HE : Hid (N = y1 ∧ Fb = false ∧ S2 = againP k m) := by
              have h1 := HHIT.out (by rw [← HY.out]; exact ckeyB_iff.2 hky) HNO.out
              have h2 := HSS.out
              rw [h1] at h2
              show _ ∧ _ ∧ _
              exact ⟨h2.2.1.trans (congrArg Cn.n HY.out.symm), h2.2.2, h2.1⟩
            clear hky HHIT
            obtain ⟨W4, hW4⟩ : ∃ W4, W4 = w5.alloc (.cells #[.int .i64 (y1 : Int), .string y2, .int .u64 (y3 : Int)] 80) := ⟨_, rfl⟩
            obtain ⟨Bl, hBl⟩ : ∃ Bl, Bl = w5.heap.size := ⟨_, rfl⟩
            have HO4 : Hid (Only [] w5 W4) := by show Only _ _ _; rw [hW4]; exact (Only.refl _ _).alloc _
            have HL4 : Hid (LBox W4 Bl ⟨y1, y2, y3⟩) := by show LBox _ _ _; rw [hW4, hBl]; exact ⟨by simp, by simp, by simp⟩
            have HBL : Hid (w5.heap.size ≤ Bl) := by show _ ≤ _; rw [hBl]; exact Nat.le_refl _
            have HP4 := Lib.hid (HP5.out.old HO4.out)
            have hgl4 := HP4.out.hd.lt
            go_upto_region 14 with fail
            rw [← hW4, ← hBl]
            clear hW4 hBl f0 f1 f2 hb hc4 hgl5
            obtain ⟨W0, hW0⟩ : ∃ W0, W0 = W4.drew := ⟨_, rfl⟩
            have HO0 : Hid (Only [] W4 W0) := by show Only _ _ _; rw [hW0]; exact (Only.refl _ _).drew
            have HQ0 := Lib.hid (HP4.out.old HO0.out)
            obtain ⟨A2, hA, HPD⟩ : ∃ A2 : Addr, (if cap = k + 1 then (some (⟨gr, 0, none⟩ : Addr)) else some ⟨gr, (k + 1) * 3, none⟩) = some A2 ∧ Hid (∀ W', CRow 80 W' (.slice (some ⟨gr, 0, none⟩) m.i.length cap) m.i → PartAt cE W' (.slice (some A2) (m.i.length - (k + 1)) (cap - (k + 1))) (m.i.drop (k + 1))) := by
              have hkk : k + 1 ≤ m.i.length := by omega
              by_cases hc : cap = k + 1
              · exact ⟨⟨gr, 0, none⟩, by rw [if_pos hc], fun W' hW' => ERow.partDrop hW' hkk (by rw [if_pos hc])⟩
              · exact ⟨⟨gr, (k + 1) * 3, none⟩, by rw [if_neg hc], fun W' hW' => ERow.partDrop hW' hkk (by rw [if_neg hc]; rfl)⟩
            have hic : k ≤ cap := by omega
            have hkl : k ≤ m.i.length := by omega
            have hkl1 : k + 1 ≤ m.i.length := by omega
            have hjc : k + 1 ≤ cap := by omega
            have hgl0 := HQ0.out.hd.lt
            have hk0 := HQ0.out.hd.c4
            go_cut [] from 88 to 105 (fun W' => ∃ v2, RpAt W' g gt vt3 vb v2 { m with i := m.i.eraseIdx k } ∧ Only (g :: ownL (.slice (some ⟨gr, 0, none⟩) m.i.length cap)) W4 W' ∧ Grow W4.heap.size (.slice (some ⟨gr, 0, none⟩) m.i.length cap) v2)
            case first =>
              go_wp2_with fail
              refine mix_start (fun _ => True) (by kernel_rfl) ?_
              rw [← hW0]
              clear hW0
              have hne : Nonempty (Held (fun _ => True)) := ⟨⟨W0, trivial⟩⟩
              refine mix_seg [0, 1, 2, 3, 5, 8, 9, 10, 12, 13] (by kernel_rfl) trivial ?_
              simp only [segOf, pickOps, pickOp]
              repeat (go_big_quiet_step (fail))
              refine wpQuiet_nil ?_
              refine mix_several [4, 11] (by kernel_rfl) ?_
              intro i1 hi1
              simp only [List.mem_cons, List.not_mem_nil, or_false] at hi1
              rcases hi1 with rfl | rfl
              · simp only [segOf, pickOps, pickOp]
                go_wp2_with fail
                refine MixPost.normal trivial ?_
                refine mix_seg [6] (by kernel_rfl) trivial ?_
                simp only [segOf, pickOps, pickOp]
                repeat (go_big_quiet_step (fail))
                refine wpQuiet_nil ?_
                refine mix_several [7, 11] (by kernel_rfl) ?_
                intro i1 hi1
                simp only [List.mem_cons, List.not_mem_nil, or_false] at hi1
                rcases hi1 with rfl | rfl
                · simp only [segOf, pickOps, pickOp]
                  refine wpList_append_part cE rfl (.const (.slice none 0 0)) (.tmp 94) 44 80 rfl Try.underlying44 (.agg #[.int .i64 0, .string ⟨#[]⟩, .int .u64 0]) 32 infoCR rfl 0 (.slice none 0 0) [] rfl ERow.nil _ (m.i.take k) rfl (ERow.partTake HQ0.out.ri hkl) (by have := HLN.out; simp; omega) (by omega) (Nat.zero_le _) ?_
                  intro v1 w1 hr1 ho1 hg1
                  have HR1 : Hid (CRow 80 w1 v1 (m.i.take k)) := hr1.out
                  have HO1 : Hid (Only [] W0 w1) := ho1.out.mono (by intro z hz; simp [ownL, Value.ownBlock] at hz)
                  have HN1 : Hid (NewL W4.heap.size v1) := by show NewL _ _; intro z hz; have := HO0.out.size; rcases hg1.out z hz with h3 | h3; simp [ownL, Value.ownBlock] at h3; omega
                  have HQ1 := Lib.hid (HQ0.out.old HO1.out)
                  clear hr1 ho1 hg1
                  go_wp2_with fail
                  refine MixPost.normal trivial ?_
                  have hk1 := HQ1.out.hd.c4
                  clear hk0
                  refine mix_run 11 (by kernel_rfl) ?_
                  simp only [segOf, pickOps, pickOp]
                  go_wp2_with fail
                  refine MixPost.normal trivial ?_
                  clear hk1
                  refine mix_seg [14] (by kernel_rfl) trivial ?_
                  simp only [segOf, pickOps, pickOp]
                  repeat (go_big_quiet_step (fail))
                  refine wpQuiet_nil ?_
                  refine mix_run 15 (by kernel_rfl) ?_
                  simp only [segOf, pickOps, pickOp]
                  refine wpList_append_part cE rfl (.tmp 95) (.tmp 102) 44 80 rfl Try.underlying44 (.agg #[.int .i64 0, .string ⟨#[]⟩, .int .u64 0]) 32 infoCR rfl 0 v1 (m.i.take k) rfl HR1.out (.slice (some A2) (m.i.length - (k + 1)) (cap - (k + 1))) (m.i.drop (k + 1)) (by simp [Act.eval]) (HPD.out w1 HQ1.out.ri) (by have := HLN.out; rw [List.length_take, List.length_drop]; omega) (by omega) (Nat.zero_le _) ?_
                  intro v2 w2 hr2 ho2 hg2
                  have HR2 : Hid (CRow 80 w2 v2 (m.i.eraseIdx k)) := by show CRow _ _ _ _; rw [List.eraseIdx_eq_take_drop_succ]; exact hr2.out
                  have HO2 : Hid (Only [] W4 w2) := (HO0.out.trans HO1.out).next ho2.out (fun z hz => .inr (HN1.out z hz))
                  have HN2 : Hid (NewL W4.heap.size v2) := by show NewL _ _; intro z hz; have := HO0.out.size; have := HO1.out.size; rcases hg2.out z hz with h3 | h3; exact HN1.out z h3; omega
                  have HH2 := Lib.hid (HP4.out.old HO2.out).hd
                  clear hr2 ho2 hg2
                  obtain ⟨Av, capv, ev, _⟩ := HR2.out.slice
                  obtain ⟨nv, hnv⟩ : ∃ nv, nv = (m.i.eraseIdx k).length := ⟨_, rfl⟩
                  rw [← hnv] at ev
                  clear hnv
                  subst ev
                  obtain ⟨W3, hW3⟩ : ∃ W3, W3 = w2.setCell ⟨g, 4, none⟩ (.slice Av nv capv) := ⟨_, rfl⟩
                  have HO3 : Hid (Only (g :: ownL (.slice (some ⟨gr, 0, none⟩) m.i.length cap)) W4 W3) := by show Only _ _ _; rw [hW3]; exact (HO2.out.mono (by simp)).setCell (p := ⟨g, 4, none⟩) (by simp) _
                  have HG3 : Hid (Grow W4.heap.size (.slice (some ⟨gr, 0, none⟩) m.i.length cap) (.slice Av nv capv)) := fun x hx => .inr (HN2.out x hx)
                  have HQ3 : Hid (RpAt W3 g gt vt3 vb (.slice Av nv capv) { m with i := m.i.eraseIdx k }) := by
                    show RpAt _ _ _ _ _ _ _
                    refine HP4.out.turnI HO3.out ?_ ?_ HG3.out
                    · rw [hW3]; exact HH2.out.setI _
                    · rw [hW3]
                      refine HR2.out.only (s := [g]) ((Only.refl _ _).setCell (p := ⟨g, 4, none⟩) (by simp) _) ?_
                      intro z hz hm
                      simp at hm
                      have h1 := HN2.out z hz
                      have h2 := HP4.out.hd.lt
                      omega
                  have hk2 := HH2.out.c4
                  have hk3 := HH2.out.z4
                  have hk4 := HH2.out.lt
                  go_wp2_with fail
                  refine MixPost.normal trivial ?_
                  refine mix_seg [16, 17] (by kernel_rfl) trivial ?_
                  simp only [segOf, pickOps, pickOp]
                  repeat (go_big_quiet_step (rfl))
                  refine wpQuiet_nil ?_
                  refine mix_run 18 (by kernel_rfl) ?_
                  simp only [segOf, pickOps, pickOp]
                  go_wp2_with fail
                  rw [← hW3]
                  clear hW3 hk2 hk3 hk4
                  refine MixPost.normal trivial ?_
                  refine mix_done (by kernel_rfl) ?_
                  go_wp2_with fail
                  go_meet
                  case rel => exact ⟨_, HQ3.out, HO3.out, HG3.out⟩
                · simp only [segOf, pickOps, pickOp]
                  go_wp2_with fail
                  refine MixPost.normal trivial ?_
                  clear hk0
                  refine mix_seg [14] (by kernel_rfl) trivial ?_
                  simp only [segOf, pickOps, pickOp]
                  repeat (go_big_quiet_step (fail))
                  refine wpQuiet_nil ?_
                  refine mix_run 7 (by kernel_rfl) ?_
                  simp only [segOf, pickOps, pickOp]
                  refine wpList_append_part cE rfl (.const (.slice none 0 0)) (.tmp 94) 44 80 rfl Try.underlying44 (.agg #[.int .i64 0, .string ⟨#[]⟩, .int .u64 0]) 32 infoCR rfl 0 (.slice none 0 0) [] rfl ERow.nil _ (m.i.take k) rfl (ERow.partTake HQ0.out.ri hkl) (by have := HLN.out; simp; omega) (by omega) (Nat.zero_le _) ?_
                  intro v1 w1 hr1 ho1 hg1
                  have HR1 : Hid (CRow 80 w1 v1 (m.i.take k)) := hr1.out
                  have HO1 : Hid (Only [] W0 w1) := ho1.out.mono (by intro z hz; simp [ownL, Value.ownBlock] at hz)
                  have HN1 : Hid (NewL W4.heap.size v1) := by show NewL _ _; intro z hz; have := HO0.out.size; rcases hg1.out z hz with h3 | h3; simp [ownL, Value.ownBlock] at h3; omega
                  have HQ1 := Lib.hid (HQ0.out.old HO1.out)
                  clear hr1 ho1 hg1
                  go_wp2_with fail
                  refine MixPost.normal trivial ?_
                  refine mix_run 15 (by kernel_rfl) ?_
                  simp only [segOf, pickOps, pickOp]
                  refine wpList_append_part cE rfl (.tmp 95) (.tmp 102) 44 80 rfl Try.underlying44 (.agg #[.int .i64 0, .string ⟨#[]⟩, .int .u64 0]) 32 infoCR rfl 0 v1 (m.i.take k) rfl HR1.out (.slice (some A2) (m.i.length - (k + 1)) (cap - (k + 1))) (m.i.drop (k + 1)) (by simp [Act.eval]) (HPD.out w1 HQ1.out.ri) (by have := HLN.out; rw [List.length_take, List.length_drop]; omega) (by omega) (Nat.zero_le _) ?_
                  intro v2 w2 hr2 ho2 hg2
                  have HR2 : Hid (CRow 80 w2 v2 (m.i.eraseIdx k)) := by show CRow _ _ _ _; rw [List.eraseIdx_eq_take_drop_succ]; exact hr2.out
                  have HO2 : Hid (Only [] W4 w2) := (HO0.out.trans HO1.out).next ho2.out (fun z hz => .inr (HN1.out z hz))
                  have HN2 : Hid (NewL W4.heap.size v2) := by show NewL _ _; intro z hz; have := HO0.out.size; have := HO1.out.size; rcases hg2.out z hz with h3 | h3; exact HN1.out z h3; omega
                  have HH2 := Lib.hid (HP4.out.old HO2.out).hd
                  clear hr2 ho2 hg2
                  obtain ⟨Av, capv, ev, _⟩ := HR2.out.slice
                  obtain ⟨nv, hnv⟩ : ∃ nv, nv = (m.i.eraseIdx k).length := ⟨_, rfl⟩
                  rw [← hnv] at ev
                  clear hnv
                  subst ev
                  obtain ⟨W3, hW3⟩ : ∃ W3, W3 = w2.setCell ⟨g, 4, none⟩ (.slice Av nv capv) := ⟨_, rfl⟩
                  have HO3 : Hid (Only (g :: ownL (.slice (some ⟨gr, 0, none⟩) m.i.length cap)) W4 W3) := by show Only _ _ _; rw [hW3]; exact (HO2.out.mono (by simp)).setCell (p := ⟨g, 4, none⟩) (by simp) _
                  have HG3 : Hid (Grow W4.heap.size (.slice (some ⟨gr, 0, none⟩) m.i.length cap) (.slice Av nv capv)) := fun x hx => .inr (HN2.out x hx)
                  have HQ3 : Hid (RpAt W3 g gt vt3 vb (.slice Av nv capv) { m with i := m.i.eraseIdx k }) := by
                    show RpAt _ _ _ _ _ _ _
                    refine HP4.out.turnI HO3.out ?_ ?_ HG3.out
                    · rw [hW3]; exact HH2.out.setI _
                    · rw [hW3]
                      refine HR2.out.only (s := [g]) ((Only.refl _ _).setCell (p := ⟨g, 4, none⟩) (by simp) _) ?_
                      intro z hz hm
                      simp at hm
                      have h1 := HN2.out z hz
                      have h2 := HP4.out.hd.lt
                      omega
                  have hk2 := HH2.out.c4
                  have hk3 := HH2.out.z4
                  have hk4 := HH2.out.lt
                  go_wp2_with fail
                  refine MixPost.normal trivial ?_
                  refine mix_seg [16, 17] (by kernel_rfl) trivial ?_
                  simp only [segOf, pickOps, pickOp]
                  repeat (go_big_quiet_step (rfl))
                  refine wpQuiet_nil ?_
                  refine mix_run 18 (by kernel_rfl) ?_
                  simp only [segOf, pickOps, pickOp]
                  go_wp2_with fail
                  rw [← hW3]
                  clear hW3 hk2 hk3 hk4
                  refine MixPost.normal trivial ?_
                  refine mix_done (by kernel_rfl) ?_
                  go_wp2_with fail
                  go_meet
                  case rel => exact ⟨_, HQ3.out, HO3.out, HG3.out⟩
              · simp only [segOf, pickOps, pickOp]
                go_wp2_with fail
                refine MixPost.normal trivial ?_
                refine mix_seg [14] (by kernel_rfl) trivial ?_
                simp only [segOf, pickOps, pickOp]
                repeat (go_big_quiet_step (fail))
                refine wpQuiet_nil ?_
                refine mix_run 4 (by kernel_rfl) ?_
                simp only [segOf, pickOps, pickOp]
                go_wp2_with fail
                refine MixPost.normal trivial ?_
                clear hk0
                refine mix_seg [6] (by kernel_rfl) trivial ?_
                simp only [segOf, pickOps, pickOp]
                repeat (go_big_quiet_step (fail))
                refine wpQuiet_nil ?_
                refine mix_run 7 (by kernel_rfl) ?_
                simp only [segOf, pickOps, pickOp]
                refine wpList_append_part cE rfl (.const (.slice none 0 0)) (.tmp 94) 44 80 rfl Try.underlying44 (.agg #[.int .i64 0, .string ⟨#[]⟩, .int .u64 0]) 32 infoCR rfl 0 (.slice none 0 0) [] rfl ERow.nil _ (m.i.take k) rfl (ERow.partTake HQ0.out.ri hkl) (by have := HLN.out; simp; omega) (by omega) (Nat.zero_le _) ?_
                intro v1 w1 hr1 ho1 hg1
                have HR1 : Hid (CRow 80 w1 v1 (m.i.take k)) := hr1.out
                have HO1 : Hid (Only [] W0 w1) := ho1.out.mono (by intro z hz; simp [ownL, Value.ownBlock] at hz)
                have HN1 : Hid (NewL W4.heap.size v1) := by show NewL _ _; intro z hz; have := HO0.out.size; rcases hg1.out z hz with h3 | h3; simp [ownL, Value.ownBlock] at h3; omega
                have HQ1 := Lib.hid (HQ0.out.old HO1.out)
                clear hr1 ho1 hg1
                go_wp2_with fail
                refine MixPost.normal trivial ?_
                refine mix_run 15 (by kernel_rfl) ?_
                simp only [segOf, pickOps, pickOp]
                refine wpList_append_part cE rfl (.tmp 95) (.tmp 102) 44 80 rfl Try.underlying44 (.agg #[.int .i64 0, .string ⟨#[]⟩, .int .u64 0]) 32 infoCR rfl 0 v1 (m.i.take k) rfl HR1.out (.slice (some A2) (m.i.length - (k + 1)) (cap - (k + 1))) (m.i.drop (k + 1)) (by simp [Act.eval]) (HPD.out w1 HQ1.out.ri) (by have := HLN.out; rw [List.length_take, List.length_drop]; omega) (by omega) (Nat.zero_le _) ?_
                intro v2 w2 hr2 ho2 hg2
                have HR2 : Hid (CRow 80 w2 v2 (m.i.eraseIdx k)) := by show CRow _ _ _ _; rw [List.eraseIdx_eq_take_drop_succ]; exact hr2.out
                have HO2 : Hid (Only [] W4 w2) := (HO0.out.trans HO1.out).next ho2.out (fun z hz => .inr (HN1.out z hz))
                have HN2 : Hid (NewL W4.heap.size v2) := by show NewL _ _; intro z hz; have := HO0.out.size; have := HO1.out.size; rcases hg2.out z hz with h3 | h3; exact HN1.out z h3; omega
                have HH2 := Lib.hid (HP4.out.old HO2.out).hd
                clear hr2 ho2 hg2
                obtain ⟨Av, capv, ev, _⟩ := HR2.out.slice
                obtain ⟨nv, hnv⟩ : ∃ nv, nv = (m.i.eraseIdx k).length := ⟨_, rfl⟩
                rw [← hnv] at ev
                clear hnv
                subst ev
                obtain ⟨W3, hW3⟩ : ∃ W3, W3 = w2.setCell ⟨g, 4, none⟩ (.slice Av nv capv) := ⟨_, rfl⟩
                have HO3 : Hid (Only (g :: ownL (.slice (some ⟨gr, 0, none⟩) m.i.length cap)) W4 W3) := by show Only _ _ _; rw [hW3]; exact (HO2.out.mono (by simp)).setCell (p := ⟨g, 4, none⟩) (by simp) _
                have HG3 : Hid (Grow W4.heap.size (.slice (some ⟨gr, 0, none⟩) m.i.length cap) (.slice Av nv capv)) := fun x hx => .inr (HN2.out x hx)
                have HQ3 : Hid (RpAt W3 g gt vt3 vb (.slice Av nv capv) { m with i := m.i.eraseIdx k }) := by
                  show RpAt _ _ _ _ _ _ _
                  refine HP4.out.turnI HO3.out ?_ ?_ HG3.out
                  · rw [hW3]; exact HH2.out.setI _
                  · rw [hW3]
                    refine HR2.out.only (s := [g]) ((Only.refl _ _).setCell (p := ⟨g, 4, none⟩) (by simp) _) ?_
                    intro z hz hm
                    simp at hm
                    have h1 := HN2.out z hz
                    have h2 := HP4.out.hd.lt
                    omega
                have hk2 := HH2.out.c4
                have hk3 := HH2.out.z4
                have hk4 := HH2.out.lt
                go_wp2_with fail
                refine MixPost.normal trivial ?_
                refine mix_seg [16, 17] (by kernel_rfl) trivial ?_
                simp only [segOf, pickOps, pickOp]
                repeat (go_big_quiet_step (rfl))
                refine wpQuiet_nil ?_
                refine mix_run 18 (by kernel_rfl) ?_
                simp only [segOf, pickOps, pickOp]
                go_wp2_with fail
                rw [← hW3]
                clear hW3 hk2 hk3 hk4
                refine MixPost.normal trivial ?_
                refine mix_done (by kernel_rfl) ?_
                go_wp2_with fail
                go_meet
                case rel => exact ⟨_, HQ3.out, HO3.out, HG3.out⟩
            case rest =>
              obtain ⟨v2, hq, ho, hg⟩ := hcut
              have HQE := Lib.hid hq
              have HOE := Lib.hid ho
              have HGE := Lib.hid hg
              clear hq ho hg hic hkl hkl1 hjc hgl0 hk0
              have HLE : Hid (LBox wc Bl ⟨y1, y2, y3⟩) := by
                show LBox _ _ _
                refine HL4.out.only HOE.out ?_
                intro hm
                have h1 := HBL.out
                rcases List.mem_cons.1 hm with h2 | h2
                · have := HP5.out.hd.lt; omega
                · have := HP5.out.oi _ h2; omega
              obtain ⟨F, hF⟩ : ∃ F : World → Prop, ∀ X, F X ↔ LBox X Bl ⟨y1, y2, y3⟩ := ⟨_, fun _ => Iff.rfl⟩
              have hxl0 : ∀ p : Held F, p.w.cell? ⟨Bl, 0, none⟩ = some (.int .i64 (y1 : Int)) := fun p => ((hF _).1 p.h).c0
              have hxl1 : ∀ p : Held F, p.w.cell? ⟨Bl, 1, none⟩ = some (.string y2) := fun p => ((hF _).1 p.h).c1
              have hxl2 : ∀ p : Held F, p.w.cell? ⟨Bl, 2, none⟩ = some (.int .u64 (y3 : Int)) := fun p => ((hF _).1 p.h).c2
              have HFF : Hid (∀ X, Only (g :: ownL vb) wc X → F X) := by
                show ∀ X, _
                intro X ho
                refine (hF _).2 (HLE.out.only ho ?_)
                intro hm
                have h1 := HBL.out
                rcases List.mem_cons.1 hm with h2 | h2
                · have := HP5.out.hd.lt; omega
                · have := HP5.out.ob _ h2; omega
              clear hF
              obtain ⟨W0, hW0⟩ : ∃ W0, W0 = wc.drew := ⟨_, rfl⟩
              have HO0 : Hid (Only [] wc W0) := by show Only _ _ _; rw [hW0]; exact (Only.refl _ _).drew
              have HQ0 := Lib.hid (HQE.out.old HO0.out)
              obtain ⟨W1, hW1⟩ : ∃ W1, W1 = W0.alloc (.cells #[.int .i64 (y1 : Int), .string y2, .int .u64 (y3 : Int)] 80) := ⟨_, rfl⟩
              obtain ⟨B1, hB1⟩ : ∃ B1, B1 = W0.heap.size := ⟨_, rfl⟩
              have HO1 : Hid (Only [] wc W1) := by show Only _ _ _; rw [hW1]; exact HO0.out.alloc _
              have HN1 : Hid (W1.cell? ⟨B1, 0, none⟩ = some (.int .i64 (y1 : Int)) ∧ W1.cell? ⟨B1, 1, none⟩ = some (.string y2) ∧ W1.cell? ⟨B1, 2, none⟩ = some (.int .u64 (y3 : Int))) := by show _ ∧ _ ∧ _; rw [hW1, hB1]; exact ⟨by simp, by simp, by simp⟩
              have HS1 : Hid (wc.heap.size ≤ W1.heap.size) := HO1.out.size
              have HQ1 := Lib.hid (HQE.out.old HO1.out)
              have hgl0 := HQ0.out.hd.lt
              have hgl1 := HQ1.out.hd.lt
              go_wp2_with fail
              refine mix_start F (by kernel_rfl) ?_
              rw [← hW0]
              clear hW0
              refine mix_seg [0, 1, 2, 3, 5] (by kernel_rfl) (HFF.out _ (HO0.out.mono (by simp))) ?_
              simp only [segOf, pickOps, pickOp]
              repeat (go_big_quiet_step (rfl))
              refine wpQuiet_nil ?_
              refine mix_several [4, 6] (by kernel_rfl) ?_
              intro i1 hi1
              simp only [List.mem_cons, List.not_mem_nil, or_false] at hi1
              rcases hi1 with rfl | rfl
              · simp only [segOf, pickOps, pickOp]
                have hk0 := HQ0.out.hd.c3
                go_wp2_with fail
                refine MixPost.normal (HFF.out _ (HO0.out.mono (by simp))) ?_
                clear hk0
                refine mix_run 6 (by kernel_rfl) ?_
                simp only [segOf, pickOps, pickOp]
                go_wp2_with fail
                rw [← hW1, ← hB1]
                clear hW1 hB1
                refine MixPost.normal (HFF.out _ (HO1.out.mono (by simp))) ?_
                refine mix_run 7 (by kernel_rfl) ?_
                simp only [segOf, pickOps, pickOp]
                refine wpList_append_conn rfl (.tmp 110) (.tmp 112) 44 80 rfl Try.underlying44 infoCR _ m.b rfl HQ1.out.rb B1 ⟨y1, y2, y3⟩ rfl HN1.out.1 HN1.out.2.1 HN1.out.2.2 (by have := HMS.out; omega) ?_
                intro g2 cap2 w2 hr2 ho2 hg2
                obtain ⟨v8, hv8⟩ : ∃ v8, v8 = Value.slice (some ⟨g2, 0, none⟩) (m.b.length + 1) cap2 := ⟨_, rfl⟩
                have HG8 : Hid (Grow wc.heap.size vb v8) := by
                  show Grow _ _ _
                  intro z hz
                  rw [hv8, ownL, Value.ownBlock] at hz
                  simp at hz
                  subst hz
                  rcases hg2.out with h1 | h1
                  · exact .inl h1
                  · right; have := HS1.out; omega
                have HH2 := Lib.hid (HQ1.out.hd.only ho2.out HQ1.out.ap.a3)
                have HO2 : Hid (Only (ownL vb) wc w2) := (HO1.out.mono (by simp)).trans ho2.out
                have hk2 := HH2.out.c3
                have hk3 := HH2.out.z3
                have hk4 := HH2.out.lt
                obtain ⟨W3, hW3⟩ : ∃ W3, W3 = w2.setCell ⟨g, 3, none⟩ v8 := ⟨_, rfl⟩
                have HO3 : Hid (Only (g :: ownL vb) wc W3) := by
                  show Only _ _ _
                  rw [hW3]; exact (HO2.out.mono (by intro z hz; exact List.mem_cons_of_mem _ hz)).setCell (p := ⟨g, 3, none⟩) (by simp) _
                have HQ3 : Hid (RpAt W3 g gt vt3 v8 v2 { m with i := m.i.eraseIdx k, b := m.b ++ [⟨y1, y2, y3⟩] }) := by
                  show RpAt _ _ _ _ _ _ _
                  refine HQE.out.turnB HO3.out ?_ ?_ HG8.out
                  · rw [hW3]; exact HH2.out.setB _
                  · rw [hW3, hv8]
                    refine hr2.out.only (s := [g]) ((Only.refl _ _).setCell (p := ⟨g, 3, none⟩) (by simp) _) ?_
                    intro z hz hm
                    rw [← hv8] at hz
                    simp at hm
                    subst hm
                    rcases HG8.out z hz with h1 | h1
                    · exact HQ1.out.ap.a3 h1
                    · have := HQE.out.hd.lt; omega
                have HF2 : Hid (F w2) := HFF.out _ (HO2.out.mono (by intro z hz; exact List.mem_cons_of_mem _ hz))
                have HF3 : Hid (F W3) := HFF.out _ HO3.out
                rw [hv8] at hW3
                go_wp2_with fail
                refine MixPost.normal HF2.out ?_
                refine mix_seg [8, 9] (by kernel_rfl) HF2.out ?_
                simp only [segOf, pickOps, pickOp]
                repeat (go_big_quiet_step (rfl))
                refine wpQuiet_nil ?_
                refine mix_run 10 (by kernel_rfl) ?_
                simp only [segOf, pickOps, pickOp]
                go_wp2_with fail
                rw [← hW3]
                clear hW3 hk2 hk3 hk4
                refine MixPost.normal HF3.out ?_
                refine mix_done (by kernel_rfl) ?_
                have hl0 : W3.cell? ⟨Bl, 0, none⟩ = some (.int .i64 (y1 : Int)) := hxl0 ⟨W3, HF3.out⟩
                go_wp2
                go_ret3
                refine ⟨by rw [HE.out.1, HE.out.2.1]; rfl, ?_⟩
                rw [HE.out.2.2]
                refine RpStep.next HOA.out G1.out (Grow.refl _ _) G3.out ⟨vt3, v8, v2, ?_, ?_, Grow.refl _ _, ?_, ?_⟩
                · have h1 := HQ3.out
                  rw [HY.out] at h1
                  exact h1
                · have h1 : Only (footP g gt vt3 vb (.slice (some ⟨gr, 0, none⟩) m.i.length cap)) w5 wc := (HO4.out.mono (by simp)).trans (HOE.out.mono (by intro x hx; rcases List.mem_cons.1 hx with h2 | h2; exact mem_footP.2 (by simp [h2]); exact mem_footP.2 (by simp [h2])))
                  exact h1.trans (HO3.out.mono (by intro x hx; rcases List.mem_cons.1 hx with h2 | h2; exact mem_footP.2 (by simp [h2]); exact mem_footP.2 (by simp [h2])))
                · exact (Grow.refl _ _).trans HG8.out (Nat.le_trans HO4.out.size HOE.out.size)
                · exact (Grow.refl _ _).trans HGE.out HO4.out.size
              · simp only [segOf, pickOps, pickOp]
                go_wp2_with fail
                rw [← hW1, ← hB1]
                clear hW1 hB1
                refine MixPost.normal (HFF.out _ (HO1.out.mono (by simp))) ?_
                refine mix_run 4 (by kernel_rfl) ?_
                simp only [segOf, pickOps, pickOp]
                have hk0 := HQ1.out.hd.c3
                go_wp2_with fail
                refine MixPost.normal (HFF.out _ (HO1.out.mono (by simp))) ?_
                clear hk0
                refine mix_run 7 (by kernel_rfl) ?_
                simp only [segOf, pickOps, pickOp]
                refine wpList_append_conn rfl (.tmp 110) (.tmp 112) 44 80 rfl Try.underlying44 infoCR _ m.b rfl HQ1.out.rb B1 ⟨y1, y2, y3⟩ rfl HN1.out.1 HN1.out.2.1 HN1.out.2.2 (by have := HMS.out; omega) ?_
                intro g2 cap2 w2 hr2 ho2 hg2
                obtain ⟨v8, hv8⟩ : ∃ v8, v8 = Value.slice (some ⟨g2, 0, none⟩) (m.b.length + 1) cap2 := ⟨_, rfl⟩
                have HG8 : Hid (Grow wc.heap.size vb v8) := by
                  show Grow _ _ _
                  intro z hz
                  rw [hv8, ownL, Value.ownBlock] at hz
                  simp at hz
                  subst hz
                  rcases hg2.out with h1 | h1
                  · exact .inl h1
                  · right; have := HS1.out; omega
                have HH2 := Lib.hid (HQ1.out.hd.only ho2.out HQ1.out.ap.a3)
                have HO2 : Hid (Only (ownL vb) wc w2) := (HO1.out.mono (by simp)).trans ho2.out
                have hk2 := HH2.out.c3
                have hk3 := HH2.out.z3
                have hk4 := HH2.out.lt
                obtain ⟨W3, hW3⟩ : ∃ W3, W3 = w2.setCell ⟨g, 3, none⟩ v8 := ⟨_, rfl⟩
                have HO3 : Hid (Only (g :: ownL vb) wc W3) := by
                  show Only _ _ _
                  rw [hW3]; exact (HO2.out.mono (by intro z hz; exact List.mem_cons_of_mem _ hz)).setCell (p := ⟨g, 3, none⟩) (by simp) _
                have HQ3 : Hid (RpAt W3 g gt vt3 v8 v2 { m with i := m.i.eraseIdx k, b := m.b ++ [⟨y1, y2, y3⟩] }) := by
                  show RpAt _ _ _ _ _ _ _
                  refine HQE.out.turnB HO3.out ?_ ?_ HG8.out
                  · rw [hW3]; exact HH2.out.setB _
                  · rw [hW3, hv8]
                    refine hr2.out.only (s := [g]) ((Only.refl _ _).setCell (p := ⟨g, 3, none⟩) (by simp) _) ?_
                    intro z hz hm
                    rw [← hv8] at hz
                    simp at hm
                    subst hm
                    rcases HG8.out z hz with h1 | h1
                    · exact HQ1.out.ap.a3 h1
                    · have := HQE.out.hd.lt; omega
                have HF2 : Hid (F w2) := HFF.out _ (HO2.out.mono (by intro z hz; exact List.mem_cons_of_mem _ hz))
                have HF3 : Hid (F W3) := HFF.out _ HO3.out
                rw [hv8] at hW3
                go_wp2_with fail
                refine MixPost.normal HF2.out ?_
                refine mix_seg [8, 9] (by kernel_rfl) HF2.out ?_
                simp only [segOf, pickOps, pickOp]
                repeat (go_big_quiet_step (rfl))
                refine wpQuiet_nil ?_
                refine mix_run 10 (by kernel_rfl) ?_
                simp only [segOf, pickOps, pickOp]
                go_wp2_with fail
                rw [← hW3]
                clear hW3 hk2 hk3 hk4
                refine MixPost.normal HF3.out ?_
                refine mix_done (by kernel_rfl) ?_
                have hl0 : W3.cell? ⟨Bl, 0, none⟩ = some (.int .i64 (y1 : Int)) := hxl0 ⟨W3, HF3.out⟩
                go_wp2
                go_ret3
                refine ⟨by rw [HE.out.1, HE.out.2.1]; rfl, ?_⟩
                rw [HE.out.2.2]
                refine RpStep.next HOA.out G1.out (Grow.refl _ _) G3.out ⟨vt3, v8, v2, ?_, ?_, Grow.refl _ _, ?_, ?_⟩
                · have h1 := HQ3.out
                  rw [HY.out] at h1
                  exact h1
                · have h1 : Only (footP g gt vt3 vb (.slice (some ⟨gr, 0, none⟩) m.i.length cap)) w5 wc := (HO4.out.mono (by simp)).trans (HOE.out.mono (by intro x hx; rcases List.mem_cons.1 hx with h2 | h2; exact mem_footP.2 (by simp [h2]); exact mem_footP.2 (by simp [h2])))
                  exact h1.trans (HO3.out.mono (by intro x hx; rcases List.mem_cons.1 hx with h2 | h2; exact mem_footP.2 (by simp [h2]); exact mem_footP.2 (by simp [h2])))
                · exact (Grow.refl _ _).trans HG8.out (Nat.le_trans HO4.out.size HOE.out.size)
                · exact (Grow.refl _ _).trans HGE.out HO4.out.size
          · have hb : (y2.toList == key.toList) = false := by
              rw [← Bool.not_eq_true, beq_iff_eq]
              intro h
              exact hky (WideShapes.bytes_inj (by rw [ByteArray.toList_eq, ByteArray.toList_eq] at h; exact h))
            have HE : Hid (∀ j, k ≤ j → j < m.i.length → ckeyB key (nthC m.i j) = false) := by
              show ∀ j, _
              intro j h1 h2
              by_cases e : j = k
              · rw [e, ← HY.out]; exact ckeyB_no.2 hky
              · exact HNO.out j (by omega) h2
            clear hky HHIT
            go_wp2
            go_round
            case rel => exact ⟨k, _, by omega, rfl, rfl, HE.out⟩
            case measure => simp [intOf]
  · have hc' : canP s key = false := by simpa using hc
    have HC := Lib.hid hc'
    have HS : Hid (takeC key s = 10 ∧ takeS key now s = s ∧ takeN key now s = 0 ∧ takeF key now s = false) := by
      show _ ∧ _ ∧ _ ∧ _
      unfold takeC takeS takeN takeF
      rw [if_neg hc, if_neg hc, if_neg hc, if_neg hc]
      exact ⟨rfl, rfl, rfl, rfl⟩
    clear hc hc'
    rw [HS.out.1, HS.out.2.1, HS.out.2.2.1, HS.out.2.2.2]
    go_enter Try.func16, Try.ntmps16
    go_wp2_with fail
    refine (rCan_any g gt vt vb vi s key w HP.out (by have := HSZ.out; omega)).mono ?_
    rintro e w1 ⟨rfl, ho⟩
    rw [HC.out]
    have HO1 := Lib.hid ho
    have HP1 := Lib.hid (HP.out.old ho)
    clear ho
    go_wp2
    go_ret3
    exact ⟨rfl, vt, vb, vi, HP1.out, HO1.out.mono (by simp), Grow.refl _ _, Grow.refl _ _, Grow.refl _ _⟩
end Go.Proofs.Ytbnmldfiheffoaa
