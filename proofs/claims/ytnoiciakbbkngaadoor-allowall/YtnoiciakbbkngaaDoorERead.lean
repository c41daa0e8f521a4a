/-
  The contracts of allow's own steps and of its Read over this seat's program: each returns what the plain mathematics says, in memory of its own, and nothing that was there has turned. Conditions: at most a thousand headers, each text of at most 100,000 bytes.
-/
import Derived.Test.YtnoiciakbbkngaaDoorEHas
namespace Go.Proofs.YtnoiciakbbkngaaDoor
open Go.RowKit

theorem sown_len {w : World} {b : Nat} {v : Value} {l : List (List UInt8)} (h : sown w b v l) : l.length ≤ maxLen := by
  rcases h.2 with ⟨_, e2⟩ | ⟨g, cap, cur, _, _, _, e4, e5, _⟩
  · rw [e2]; exact Nat.zero_le _
  · omega

set_option maxHeartbeats 1000000 in
theorem elements_any (A : Option Addr) (len c B : Nat) (xs : List (ByteArray × ByteArray)) (name : ByteArray) (w : World) (hlen : len = xs.length) (hB : B ≤ w.heap.size) (hx : PRow w B A xs) (hsm : Sm (xs.map hd)) (hname : name.size ≤ maxLen) :
    Calls Tryd.prog 27 #[.slice A len c, .string name] w fun e w' => ∃ v, e = .returned v ∧ sown w' w.heap.size v (elsH (xs.map hd) name.data.toList) ∧ Below w.heap.size w w' := by
  have HX := Lib.hid hx
  have HS := Lib.hid hsm
  have HN := Lib.hid hname
  have HLen := Lib.hid hlen
  have HBB := Lib.hid hB
  have HG := Lib.hid (get_len hsm name.data.toList)
  obtain ⟨t, ht⟩ : ∃ t, t = mk (getH (xs.map hd) name.data.toList) := ⟨_, rfl⟩
  have HT : Hid (t.data.toList = getH (xs.map hd) name.data.toList) := by show _ = _; rw [ht, mk_data]
  have HTM := Lib.hid ht
  have HZ : Hid (t.size ≤ 1099511627776) := by
    show _ ≤ _
    have h1 := congrArg List.length HT.out
    have h2 := HG.out
    simp at h1; omega
  clear hx hsm hname hlen hB ht
  go_enter Tryd.func27, Tryd.ntmps27
  go_wp2_with fail
  refine (Get_any A len c B xs name _ HLen.out HBB.out HX.out HS.out HN.out).mono ?_
  rintro e w1 ⟨rfl, hb1⟩
  rw [← HTM.out]
  have HB1 := Lib.hid hb1
  clear hb1
  go_wp2_with fail
  refine (Split_any t _ HZ.out).mono ?_
  rintro e w2 ⟨v, rfl, ho, hb2⟩
  rw [HT.out] at ho
  have HB2 : Hid (Below w.heap.size w w2) := HB1.out.trans (hb2.mono HB1.out.size)
  have HO : Hid (sown w2 w.heap.size v (elsH (xs.map hd) name.data.toList)) := ownsRow_base ho HB1.out.size
  clear ho hb2
  go_wp2
  go_ret
  exact ⟨v, rfl, HO.out, HB2.out⟩

set_option maxHeartbeats 1000000 in
theorem allTokens_any (A : Option Addr) (n c B : Nat) (l : List (List UInt8)) (w : World) (hn : n = l.length) (hl : l.length ≤ maxLen) (hx : SRow w B A (l.map mk)) (hz : ∀ x ∈ l, x.length ≤ maxLen) :
    Calls Tryd.prog 28 #[.slice A n c] w fun e w' => e = .returned (.bool (tokAll l)) ∧ w = w' := by
  subst hn
  unfold maxLen at hl
  have HX := Lib.hid hx
  have HZ := Lib.hid hz
  clear hx hz
  go_enter Tryd.func28, Tryd.ntmps28
  go_wp2
  go_loop [7] (fun i => ∃ k : Nat, k ≤ l.length ∧ i = .int .i64 k ∧ tokAll (l.take k) = true) (fun i => l.length - (intOf i).toNat)
  case atStart => exact ⟨0, Nat.zero_le _, rfl, rfl⟩
  case round =>
    obtain ⟨k, hk, rfl, hf⟩ := hrel
    have HF := Lib.hid hf
    clear hf
    by_cases hlt : k < l.length
    · obtain ⟨a1, e1, _, hc1⟩ := HX.out k (mk l[k]) (by rw [List.getElem?_map, List.getElem?_eq_getElem hlt]; rfl)
      have HM : Hid ((mk l[k]).size ≤ maxLen) := by
        show _ ≤ _
        have := HZ.out _ (List.getElem_mem hlt)
        have h2 : (mk l[k]).data.toList.length = l[k].length := by rw [mk_data]
        simp at h2; omega
      have HH : Hid (Lk.tokL (mk l[k]).data.toList = false → tokAll l = false) := by rw [mk_data]; exact tokAll_here hlt
      have HN : Hid (Lk.tokL (mk l[k]).data.toList = true → tokAll (l.take (k + 1)) = true) := by rw [mk_data]; exact tokAll_next hlt HF.out
      generalize mk l[k] = x at *
      subst e1
      cases hc : Lk.tokL x.data.toList
      · have HC := Lib.hid hc
        have HQ := Lib.hid (HH.out hc)
        clear hc
        go_wp2_with fail
        refine (Token_any x _ HM.out).mono ?_
        rintro e w' ⟨rfl, rfl⟩
        rw [HC.out]
        go_wp2
        go_ret
        exact ⟨ret_bool HQ.out.symm, rfl⟩
      · have HC := Lib.hid hc
        have HQ := Lib.hid (HN.out hc)
        clear hc
        go_wp2_with fail
        refine (Token_any x _ HM.out).mono ?_
        rintro e w' ⟨rfl, rfl⟩
        rw [HC.out]
        go_wp2
        go_round
        case rel => exact ⟨k + 1, by omega, by go_num, HQ.out⟩
        case measure => simp [intOf]; omega
    · have HT : Hid (tokAll l = true) := by
        have h := HF.out
        rwa [List.take_of_length_le (by omega)] at h
      go_wp2
      go_ret
      exact ⟨ret_bool HT.out.symm, rfl⟩

theorem digRes_as (s : List UInt8) : ∃ (n : Nat) (b : Bool), digRes s = .tuple #[.int .u64 (n : Int), .bool b] ∧ Lk.digL s = b ∧ (b = true → (min (n : Int) 7200) = (ageV s : Int)) := by
  cases h : Lk.digL s
  · exact ⟨0, false, digRes_f h, rfl, fun h => by cases h⟩
  · refine ⟨Lk.sat (Lk.valL s), true, digRes_t h, rfl, fun _ => ?_⟩
    unfold ageV
    rw [h, if_pos rfl]
    omega

set_option maxHeartbeats 1000000 in
theorem age_any (A : Option Addr) (len c B : Nat) (xs : List (ByteArray × ByteArray)) (w : World) (hlen : len = xs.length) (hB : B ≤ w.heap.size) (hx : PRow w B A xs) (hsm : Sm (xs.map hd)) :
    Calls Tryd.prog 29 #[.slice A len c] w fun e w' => e = .returned (.int .u64 (ageH (xs.map hd) : Int)) ∧ Below w.heap.size w w' := by
  have HX := Lib.hid hx
  have HS := Lib.hid hsm
  have HLen := Lib.hid hlen
  have HBB := Lib.hid hB
  have HG := Lib.hid (get_len hsm agN)
  obtain ⟨t, ht⟩ : ∃ t, t = mk (getH (xs.map hd) agN) := ⟨_, rfl⟩
  have HT : Hid (t.data.toList = getH (xs.map hd) agN) := by show _ = _; rw [ht, mk_data]
  have HTM := Lib.hid ht
  have HZ : Hid (t.size ≤ maxLen) := by
    show _ ≤ _
    have h1 := congrArg List.length HT.out
    have h2 := HG.out
    unfold maxLen
    simp at h1; omega
  obtain ⟨u, hu⟩ : ∃ u, u = mk (Lk.trimL t.data.toList) := ⟨_, rfl⟩
  have HU : Hid (u.data.toList = Lk.trimL t.data.toList) := by show _ = _; rw [hu, mk_data]
  have HUM := Lib.hid hu
  have HUZ : Hid (u.size ≤ maxLen) := by
    show _ ≤ _
    have h1 := congrArg List.length HU.out
    have h2 := Lk.trim_len t.data.toList
    have h3 := HZ.out
    simp at h1 h2; omega
  have HA : Hid (ageH (xs.map hd) = ageV u.data.toList) := by show _ = _; rw [HU.out, HT.out]; rfl
  obtain ⟨n, b, hd1, hd2, hd3⟩ := digRes_as u.data.toList
  have HD := Lib.hid hd1
  have HDB := Lib.hid hd2
  have HDV := Lib.hid hd3
  clear hx hsm hlen hB ht hu hd1 hd2 hd3
  go_enter Tryd.func29, Tryd.ntmps29
  go_wp2_with fail
  refine (Get_any A len c B xs _ _ HLen.out HBB.out HX.out HS.out (by unfold maxLen; decide)).mono ?_
  rintro e w1 ⟨rfl, hb1⟩
  rw [show (ByteArray.mk #[97, 99, 99, 101, 115, 115, 45, 99, 111, 110, 116, 114, 111, 108, 45, 109, 97, 120, 45, 97, 103, 101]).data.toList = agN from rfl, ← HTM.out]
  have HB1 := Lib.hid hb1
  clear hb1
  go_wp2_with fail
  refine (Trim_as t u _ HZ.out HUM.out).mono ?_
  rintro e w' ⟨rfl, rfl⟩
  go_wp2_with fail
  refine (Digits_any u _ HUZ.out).mono ?_
  rintro e w' ⟨rfl, rfl⟩
  rw [HD.out]
  cases b
  · go_wp2
    go_ret
    exact ⟨ret_int (by rw [HA.out, ageV, HDB.out]; rfl), HB1.out⟩
  · have HM := Lib.hid (HDV.out rfl)
    clear HDV
    go_wp2
    go_ret
    exact ⟨ret_int (by rw [HA.out]; exact HM.out), HB1.out⟩
end Go.Proofs.YtnoiciakbbkngaaDoor
