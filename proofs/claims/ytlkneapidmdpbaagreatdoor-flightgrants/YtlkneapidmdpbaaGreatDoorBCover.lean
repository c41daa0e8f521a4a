/-
  The contract of the cache's Covers over this seat's program. Conditions: the cache, the table of methods and the names lie there.
-/
import Derived.Test.YtlkneapidmdpbaaGreatDoorBClone
import Derived.Test.YtlkneapidmdpbaaGreatDoorLMeth
namespace Go.Proofs.YtlkneapidmdpbaaGreatDoor
open Go.RowKit

def covL (k : Cl) (m : ByteArray) (ns : List ByteArray) (t : Nat) (l : List En) : Bool := (Lk.safeL m.data.toList || methL k m t l) && hdrsL k ns t l
theorem hdrsL_take {k : Cl} {ns : List ByteArray} {t j : Nat} {l : List En} (h : j < ns.length) : hdrsL k (ns.take (j + 1)) t l = (hdrsL k (ns.take j) t l && hdrL k ns[j] t l) := by
  unfold hdrsL
  rw [List.take_succ_eq_append_getElem h, List.all_append]
  simp
theorem hdrsL_no {k : Cl} {ns : List ByteArray} {t j : Nat} {l : List En} (h : j < ns.length) (hf : hdrL k ns[j] t l = false) : hdrsL k ns t l = false := by
  unfold hdrsL
  rw [← Bool.not_eq_true, List.all_eq_true]
  intro hh
  have := hh _ (List.getElem_mem h)
  rw [hf] at this; cases this
theorem SRow.old {w w' : World} {B : Nat} {A : Option Addr} {xs : List ByteArray} (h : SRow w B A xs) (o : Only [] w w') (hB : B ≤ w.heap.size) : SRow w' B A xs := h.below ((o.to_below (by simp)).mono hB)

set_option maxHeartbeats 2000000 in
theorem cCovers_any (g n : Nat) (v : Value) (l : List En) (k : Cl) (m : ByteArray) (A : Option Addr) (c B : Nat) (ns : List ByteArray) (t : Nat) (w : World) (h : CaAt w g n v l) (he : MEnv w) (hm : m.size ≤ maxLen)
    (hx : SRow w B A ns) (hB : B ≤ w.heap.size) (hs : ∀ x ∈ ns, x.size ≤ maxLen) (hl : ns.length ≤ maxLen) :
    Calls Tryz.prog 34 #[.pointer (some ⟨g, 0, none⟩), cellV k, .string m, .slice A ns.length c, .int .u64 (t : Int)] w fun r w' => r = .returned (.bool (covL k m ns t l)) ∧ Only [] w w' := by
  obtain ⟨W1, hW1⟩ : ∃ W1, W1 = w.alloc (.cells #[.string k.o, .string k.u, .bool k.c] 45) := ⟨_, rfl⟩
  obtain ⟨B1, hB1⟩ : ∃ B1, B1 = w.heap.size := ⟨_, rfl⟩
  have HO1 : Hid (Only [] w W1) := by show Only _ _ _; rw [hW1]; exact (Only.refl _ _).alloc _
  have HK1 : Hid (ClBox W1 B1 k) := by show ClBox _ _ _; rw [hW1, hB1]; exact ClBox.new _ _ _
  have HH := Lib.hid h
  have HX := Lib.hid hx
  have HBL := Lib.hid hB
  have HS := Lib.hid hs
  unfold maxLen at hl
  obtain ⟨q1, hq1⟩ : ∃ q1, q1 = Lk.safeL m.data.toList := ⟨_, rfl⟩
  obtain ⟨q2, hq2⟩ : ∃ q2, q2 = methL k m t l := ⟨_, rfl⟩
  have HE : Hid (covL k m ns t l = ((q1 || q2) && hdrsL k ns t l)) := by show _ = _; rw [hq1, hq2]; rfl
  have hsafe := Safe_any m W1 hm (he.below (HO1.out.to_below (by simp)))
  rw [← hq1] at hsafe
  have HQ2 := Lib.hid hq2
  clear h hx hB hs he hm hq1 hq2
  simp only [cellV]
  go_enter Tryz.func34, Tryz.ntmps34
  go_wp2_with fail
  rw [← hB1, ← hW1]
  clear hB1 hW1
  refine hsafe.mono ?_
  rintro r W2 ⟨rfl, n2, hW2⟩
  have HO2 : Hid (Only [] w W2) := by show Only _ _ _; rw [hW2]; exact HO1.out.drewN n2
  have HK2 : Hid (ClBox W2 B1 k) := by show ClBox _ _ _; rw [hW2]; exact HK1.out.old ((Only.refl _ _).drewN n2)
  clear hsafe hW2
  have hmeth := cMethod_any g n v l k m t W2 (HH.out.old HO2.out)
  rw [← HQ2.out] at hmeth
  simp only [cellV] at hmeth
  obtain ⟨d0, d1, d2⟩ := HK2.out
  cases q1 with
  | false =>
    go_wp2_with fail
    refine hmeth.mono ?_
    rintro r W3 ⟨rfl, ho3⟩
    have HO3 := Lib.hid (HO2.out.trans ho3)
    have HK3 := Lib.hid (HK2.out.old ho3)
    clear hmeth ho3 d0 d1 d2
    cases q2 with
    | false =>
      go_wp2_with fail
      go_ret
      exact ⟨ret_bool (by rw [HE.out]; rfl), HO3.out⟩
    | true =>
      go_wp2_with fail
      go_loopw [30] (fun i wr => ∃ j : Nat, j ≤ ns.length ∧ i = .int .i64 j ∧ Only [] w wr ∧ ClBox wr B1 k ∧ hdrsL k (ns.take j) t l = true) (fun i _ => ns.length - (intOf i).toNat)
      case atStart => exact ⟨0, Nat.zero_le _, rfl, HO3.out, HK3.out, rfl⟩
      case round =>
        obtain ⟨j, hj, rfl, ho, hk, ht⟩ := hrel
        have HO := Lib.hid ho
        have HK := Lib.hid hk
        have HT := Lib.hid ht
        clear ho hk ht
        by_cases hlt : j < ns.length
        · obtain ⟨a1, e1, _, hc1⟩ := (HX.out.old HO.out HBL.out) j ns[j] (List.getElem?_eq_getElem hlt)
          have hcall := cHeader_any g n v l k ns[j] t wr (HH.out.old HO.out) (HS.out _ (List.getElem_mem hlt))
          have HN := Lib.hid (hdrsL_take (k := k) (t := t) (l := l) hlt)
          have HF : Hid (hdrL k ns[j] t l = false → hdrsL k ns t l = false) := hdrsL_no hlt
          generalize ns[j] = x at *
          obtain ⟨q, hq⟩ : ∃ q, q = hdrL k x t l := ⟨_, rfl⟩
          rw [← hq] at hcall HN HF
          clear hq
          obtain ⟨d0, d1, d2⟩ := HK.out
          simp only [cellV] at hcall
          subst e1
          cases q with
          | false =>
            have HF2 := Lib.hid (HF.out rfl)
            clear HF HN
            go_wp2_with fail
            refine hcall.mono ?_
            rintro r w' ⟨rfl, ho'⟩
            have HO' := Lib.hid (HO.out.trans ho')
            clear hcall ho' d0 d1 d2 hc1
            go_wp2
            go_ret
            exact ⟨ret_bool (by rw [HE.out, HF2.out, Bool.and_false]), HO'.out⟩
          | true =>
            clear HF
            go_wp2_with fail
            refine hcall.mono ?_
            rintro r w' ⟨rfl, ho'⟩
            have HO' := Lib.hid (HO.out.trans ho')
            have HK' := Lib.hid (HK.out.old ho')
            clear hcall ho' d0 d1 d2 hc1
            go_wp2
            go_roundw
            case rel => exact ⟨j + 1, by omega, by go_num, HO'.out, HK'.out, by rw [HN.out, HT.out]; rfl⟩
            case measure => simp [intOf]; omega
        · have HF : Hid (hdrsL k ns t l = true) := by
            show _ = _
            have h1 := HT.out
            rwa [List.take_of_length_le (by omega)] at h1
          go_wp2
          go_ret
          exact ⟨ret_bool (by rw [HE.out, HF.out]; rfl), HO.out⟩
  | true =>
    clear hmeth
    clear d0 d1 d2
    go_wp2_with fail
    go_loopw [30] (fun i wr => ∃ j : Nat, j ≤ ns.length ∧ i = .int .i64 j ∧ Only [] w wr ∧ ClBox wr B1 k ∧ hdrsL k (ns.take j) t l = true) (fun i _ => ns.length - (intOf i).toNat)
    case atStart => exact ⟨0, Nat.zero_le _, rfl, HO2.out, HK2.out, rfl⟩
    case round =>
      obtain ⟨j, hj, rfl, ho, hk, ht⟩ := hrel
      have HO := Lib.hid ho
      have HK := Lib.hid hk
      have HT := Lib.hid ht
      clear ho hk ht
      by_cases hlt : j < ns.length
      · obtain ⟨a1, e1, _, hc1⟩ := (HX.out.old HO.out HBL.out) j ns[j] (List.getElem?_eq_getElem hlt)
        have hcall := cHeader_any g n v l k ns[j] t wr (HH.out.old HO.out) (HS.out _ (List.getElem_mem hlt))
        have HN := Lib.hid (hdrsL_take (k := k) (t := t) (l := l) hlt)
        have HF : Hid (hdrL k ns[j] t l = false → hdrsL k ns t l = false) := hdrsL_no hlt
        generalize ns[j] = x at *
        obtain ⟨q, hq⟩ : ∃ q, q = hdrL k x t l := ⟨_, rfl⟩
        rw [← hq] at hcall HN HF
        clear hq
        obtain ⟨d0, d1, d2⟩ := HK.out
        simp only [cellV] at hcall
        subst e1
        cases q with
        | false =>
          have HF2 := Lib.hid (HF.out rfl)
          clear HF HN
          go_wp2_with fail
          refine hcall.mono ?_
          rintro r w' ⟨rfl, ho'⟩
          have HO' := Lib.hid (HO.out.trans ho')
          clear hcall ho' d0 d1 d2 hc1
          go_wp2
          go_ret
          exact ⟨ret_bool (by rw [HE.out, HF2.out, Bool.and_false]), HO'.out⟩
        | true =>
          clear HF
          go_wp2_with fail
          refine hcall.mono ?_
          rintro r w' ⟨rfl, ho'⟩
          have HO' := Lib.hid (HO.out.trans ho')
          have HK' := Lib.hid (HK.out.old ho')
          clear hcall ho' d0 d1 d2 hc1
          go_wp2
          go_roundw
          case rel => exact ⟨j + 1, by omega, by go_num, HO'.out, HK'.out, by rw [HN.out, HT.out]; rfl⟩
          case measure => simp [intOf]; omega
      · have HF : Hid (hdrsL k ns t l = true) := by
          show _ = _
          have h1 := HT.out
          rwa [List.take_of_length_le (by omega)] at h1
        go_wp2
        go_ret
        exact ⟨ret_bool (by rw [HE.out, HF.out]; rfl), HO.out⟩
end Go.Proofs.YtlkneapidmdpbaaGreatDoor
