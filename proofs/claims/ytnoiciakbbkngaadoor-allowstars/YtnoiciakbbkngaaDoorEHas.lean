/-
  The contracts of allow's Has and Covers, and of the document's own, over this seat's program: each returns what the plain mathematics says, and nothing that was there has turned. Conditions: the rows lie where the value says; the text's size is such as any text's.
-/
import Derived.Test.YtnoiciakbbkngaaDoorEAl
import Derived.Test.YtnoiciakbbkngaaDoorLRef5
namespace Go.Proofs.YtnoiciakbbkngaaDoor
open Go.RowKit

theorem ELower_as (s t : ByteArray) (w : World) (hs : s.size ≤ maxLen) (ht : t.data.toList = Lk.lower s.data.toList) :
    Calls Tryd.prog 26 #[.string s] w fun e w' => e = .returned (.string t) ∧ Below w.heap.size w w' := by
  obtain rfl : t = mk (Lk.lower s.data.toList) := by rw [← ht]; exact (mk_eq t).symm
  exact Lower_any s w hs
theorem erefLower_as (s t : ByteArray) (w : World) (hs : s.size ≤ maxLen) (ht : t.data.toList = Lk.lower s.data.toList) :
    Calls Tryd.prog 33 #[.string s] w fun e w' => e = .returned (.string t) ∧ Below w.heap.size w w' := by
  obtain rfl : t = mk (Lk.lower s.data.toList) := by rw [← ht]; exact (mk_eq t).symm
  exact refLower_any s w hs
theorem lower_ba (s : ByteArray) : ∃ t : ByteArray, t.data.toList = Lk.lower s.data.toList := ⟨mk (Lk.lower s.data.toList), mk_data _⟩

set_option maxHeartbeats 1000000 in
theorem needsNone_any (s : ByteArray) (w : World) (hs : s.size ≤ maxLen) (he : MEnv w) :
    Calls Tryd.prog 37 #[.string s] w fun e w' => e = .returned (.bool (Lk.safeL s.data.toList)) ∧ ∃ n, w' = w.drewN n := by
  have HS := Lib.hid hs
  have HE := Lib.hid he
  clear hs he
  go_enter Tryd.func37, Tryd.ntmps37
  go_wp2_with fail
  refine (Safe_any s _ HS.out HE.out).mono ?_
  rintro e w1 ⟨rfl, n, hw⟩
  have HW := Lib.hid hw
  clear hw
  go_wp2
  go_ret
  exact ⟨rfl, n, HW.out⟩

set_option maxHeartbeats 1000000 in
theorem isWild_any (A : Option Addr) (n c B : Nat) (l : List (List UInt8)) (creds : Bool) (w : World) (hn : n = l.length) (hl : l.length ≤ maxLen) (hx : SRow w B A (l.map mk)) :
    Calls Tryd.prog 39 #[.slice A n c, .bool creds] w fun e w' => e = .returned (.bool (wildT l creds)) ∧ ∃ m, w' = w.drewN m := by
  have HX := Lib.hid hx
  have HL : Hid ((l.map mk).length ≤ maxLen) := by show _ ≤ _; rw [List.length_map]; exact hl
  have HN : Hid (n = (l.map mk).length) := by show _ = _; rw [List.length_map]; exact hn
  clear hx hl hn
  cases creds
  · go_enter Tryd.func39, Tryd.ntmps39
    go_wp2_with fail
    refine (SContains_any A n c B (l.map mk) _ _ HN.out HL.out HX.out).mono ?_
    rintro e w1 ⟨rfl, m, hw⟩
    rw [datB_mk]
    have HW := Lib.hid hw
    clear hw
    go_wp2
    go_ret
    exact ⟨rfl, m, HW.out⟩
  · go_enter Tryd.func39, Tryd.ntmps39
    go_wp2
    go_ret
    exact ⟨rfl, 0, rfl⟩

set_option maxHeartbeats 2000000 in
theorem Has_any (a : Av) (z : Al) (s : ByteArray) (creds : Bool) (w : World) (ha : AvIs w a z) (hs : s.size ≤ maxLen) (he : MEnv w) :
    Calls Tryd.prog 13 #[a.v, .string s, .bool creds] w fun e w' => e = .returned (.bool (hasA z.ms s.data.toList creds)) ∧ Below w.heap.size w w' := by
  obtain ⟨A1, n1, c1, A2, n2, c2, g⟩ := a
  obtain ⟨W, hW⟩ : ∃ W, W = w.alloc (.cells #[.slice A1 n1 c1, .slice A2 n2 c2, .int .u64 g] 26) := ⟨_, rfl⟩
  have hb0 : Below w.heap.size w W := by rw [hW]; exact (Below.refl _ _).alloc (Nat.le_refl _) _
  have HB := Lib.hid hb0
  have HA := Lib.hid (ha.below hb0)
  have HE := Lib.hid (he.below hb0)
  have HC : Hid (AlAt W w.heap.size ⟨A1, n1, c1, A2, n2, c2, g⟩) := by rw [hW]; exact AlAt.new w ⟨A1, n1, c1, A2, n2, c2, g⟩ _
  have HS := Lib.hid hs
  have HN : Hid (n1 = (z.ms.map mk).length) := by show _ = _; rw [List.length_map]; exact ha.e1
  have HN0 : Hid (n1 = z.ms.length) := ha.e1
  have HL : Hid ((z.ms.map mk).length ≤ maxLen) := by show _ ≤ _; rw [List.length_map]; exact ha.l1
  have HL0 : Hid (z.ms.length ≤ maxLen) := ha.l1
  clear hb0 ha he hs
  unfold Av.v
  dsimp only
  go_enter Tryd.func13, Tryd.ntmps13
  go_wp2_with fail
  rw [← hW]
  clear hW
  refine (needsNone_any s _ HS.out HE.out).mono ?_
  rintro e w1 ⟨rfl, n, hw⟩
  have hC := HC.out.c0
  rw [show W.cell? ⟨w.heap.size, 0, none⟩ = w1.cell? ⟨w.heap.size, 0, none⟩ by rw [hw]; rfl] at hC
  have HX : Hid (SRow w1 W.heap.size A1 (z.ms.map mk)) := by rw [hw]; exact HA.out.r1
  have HB1 : Hid (Below w.heap.size w w1) := by rw [hw]; exact below_drewN HB.out n
  clear hw HB HA HE HC
  dsimp only at hC
  cases k1 : Lk.safeL s.data.toList
  · have K1 := Lib.hid k1
    clear k1
    go_wp2_with fail
    refine (SContains_any A1 n1 c1 _ (z.ms.map mk) s _ HN.out HL.out HX.out).mono ?_
    rintro e w2 ⟨rfl, m, hw⟩
    rw [datB_mk]
    have hC2 : w2.cell? ⟨w.heap.size, 0, none⟩ = some (.slice A1 n1 c1) := by rw [hw]; exact hC
    have HX2 : Hid (SRow w2 W.heap.size A1 (z.ms.map mk)) := by rw [hw]; exact HX.out
    have HB2 : Hid (Below w.heap.size w w2) := by rw [hw]; exact below_drewN HB1.out m
    clear hw HX HB1 hC
    cases k2 : memT z.ms s.data.toList
    · have K2 := Lib.hid k2
      clear k2
      go_wp2_with fail
      refine (isWild_any A1 n1 c1 _ z.ms creds _ HN0.out HL0.out HX2.out).mono ?_
      rintro e w3 ⟨rfl, m3, hw⟩
      have HB3 : Hid (Below w.heap.size w w3) := by rw [hw]; exact below_drewN HB2.out m3
      clear hw HX2 HB2 hC2
      go_wp2
      go_ret
      exact ⟨ret_bool (by unfold hasA; rw [K1.out, K2.out]; rfl), HB3.out⟩
    · have K2 := Lib.hid k2
      clear k2
      go_wp2
      go_ret
      exact ⟨ret_bool (by unfold hasA; rw [K1.out, K2.out]; rfl), HB2.out⟩
  · have K1 := Lib.hid k1
    clear k1
    go_wp2
    go_ret
    exact ⟨ret_bool (by unfold hasA; rw [K1.out]; rfl), HB1.out⟩

theorem auth_beq (t : ByteArray) : (t.toList == [97, 117, 116, 104, 111, 114, 105, 122, 97, 116, 105, 111, 110]) = (t.data.toList == authN) := by rw [ByteArray.toList_eq]; rfl

set_option maxHeartbeats 2000000 in
theorem Covers_any (a : Av) (z : Al) (s : ByteArray) (creds : Bool) (w : World) (ha : AvIs w a z) (hs : s.size ≤ maxLen) :
    Calls Tryd.prog 15 #[a.v, .string s, .bool creds] w fun e w' => e = .returned (.bool (covA z.hs s.data.toList creds)) ∧ Below w.heap.size w w' := by
  obtain ⟨A1, n1, c1, A2, n2, c2, g⟩ := a
  obtain ⟨t, ht⟩ := lower_ba s
  have HT := Lib.hid ht
  clear ht
  obtain ⟨W, hW⟩ : ∃ W, W = w.alloc (.cells #[.slice A1 n1 c1, .slice A2 n2 c2, .int .u64 g] 26) := ⟨_, rfl⟩
  have hb0 : Below w.heap.size w W := by rw [hW]; exact (Below.refl _ _).alloc (Nat.le_refl _) _
  have HB := Lib.hid hb0
  have HA := Lib.hid (ha.below hb0)
  have HC : Hid (AlAt W w.heap.size ⟨A1, n1, c1, A2, n2, c2, g⟩) := by rw [hW]; exact AlAt.new w ⟨A1, n1, c1, A2, n2, c2, g⟩ _
  have HS := Lib.hid hs
  have HN : Hid (n2 = (z.hs.map mk).length) := by show _ = _; rw [List.length_map]; exact ha.e2
  have HN0 : Hid (n2 = z.hs.length) := ha.e2
  have HL : Hid ((z.hs.map mk).length ≤ maxLen) := by show _ ≤ _; rw [List.length_map]; exact ha.l2
  have HL0 : Hid (z.hs.length ≤ maxLen) := ha.l2
  clear hb0 ha hs
  unfold Av.v
  dsimp only
  go_enter Tryd.func15, Tryd.ntmps15
  go_wp2_with fail
  rw [← hW]
  clear hW
  refine (ELower_as s t _ HS.out HT.out).mono ?_
  rintro e w1 ⟨rfl, hb1⟩
  have hC := (HC.out.up hb1).c1
  have HX : Hid (SRow w1 w1.heap.size A2 (z.hs.map mk)) := (HA.out.below hb1).r2
  have HB1 : Hid (Below w.heap.size w w1) := HB.out.trans (hb1.mono HB.out.size)
  clear hb1 HB HA HC
  dsimp only at hC
  go_wp2_with fail
  refine (SContains_any A2 n2 c2 _ (z.hs.map mk) t _ HN.out HL.out HX.out).mono ?_
  rintro e w2 ⟨rfl, m, hw⟩
  rw [datB_mk]
  have hC2 : w2.cell? ⟨w.heap.size, 1, none⟩ = some (.slice A2 n2 c2) := by rw [hw]; exact hC
  have HX2 : Hid (SRow w2 w1.heap.size A2 (z.hs.map mk)) := by rw [hw]; exact HX.out
  have HB2 : Hid (Below w.heap.size w w2) := by rw [hw]; exact below_drewN HB1.out m
  clear hw HX HB1 hC
  cases k2 : memT z.hs t.data.toList
  · have K2 := Lib.hid k2
    clear k2
    cases k3 : t.toList == [97, 117, 116, 104, 111, 114, 105, 122, 97, 116, 105, 111, 110]
    · have K3 : Hid ((t.data.toList == authN) = false) := by show _ = _; rw [← auth_beq]; exact k3
      go_wp2_with fail
      refine (isWild_any A2 n2 c2 _ z.hs creds _ HN0.out HL0.out HX2.out).mono ?_
      rintro e w3 ⟨rfl, m3, hw⟩
      have HB3 : Hid (Below w.heap.size w w3) := by rw [hw]; exact below_drewN HB2.out m3
      clear hw HX2 HB2 hC2
      go_wp2
      go_ret
      exact ⟨ret_bool (by unfold covA; rw [← HT.out, K2.out, K3.out]; rfl), HB3.out⟩
    · have K3 : Hid ((t.data.toList == authN) = true) := by show _ = _; rw [← auth_beq]; exact k3
      go_wp2
      go_ret
      exact ⟨ret_bool (by unfold covA; rw [← HT.out, K2.out, K3.out]; rfl), HB2.out⟩
  · have K2 := Lib.hid k2
    clear k2
    go_wp2
    go_ret
    exact ⟨ret_bool (by unfold covA; rw [← HT.out, K2.out]; rfl), HB2.out⟩

set_option maxHeartbeats 2000000 in
theorem refHas_any (a : Av) (z : Al) (s : ByteArray) (creds : Bool) (w : World) (ha : AvIs w a z) (hs : s.size ≤ maxLen) :
    Calls Tryd.prog 14 #[a.v, .string s, .bool creds] w fun e w' => e = .returned (.bool (hasA z.ms s.data.toList creds)) ∧ Below w.heap.size w w' := by
  obtain ⟨A1, n1, c1, A2, n2, c2, g⟩ := a
  obtain ⟨W, hW⟩ : ∃ W, W = w.alloc (.cells #[.slice A1 n1 c1, .slice A2 n2 c2, .int .u64 g] 26) := ⟨_, rfl⟩
  have hb0 : Below w.heap.size w W := by rw [hW]; exact (Below.refl _ _).alloc (Nat.le_refl _) _
  have HB := Lib.hid hb0
  have HA := Lib.hid (ha.below hb0)
  have HC : Hid (AlAt W w.heap.size ⟨A1, n1, c1, A2, n2, c2, g⟩) := by rw [hW]; exact AlAt.new w ⟨A1, n1, c1, A2, n2, c2, g⟩ _
  have HS := Lib.hid hs
  have HN : Hid (n1 = (z.ms.map mk).length) := by show _ = _; rw [List.length_map]; exact ha.e1
  have HL : Hid ((z.ms.map mk).length ≤ maxLen) := by show _ ≤ _; rw [List.length_map]; exact ha.l1
  clear hb0 ha hs
  unfold Av.v
  dsimp only
  go_enter Tryd.func14, Tryd.ntmps14
  go_wp2_with fail
  rw [← hW]
  clear hW
  refine (refSafe_any s _ HS.out).mono ?_
  rintro e w1 ⟨rfl, hb1⟩
  have hC := (HC.out.up hb1).c0
  have HX : Hid (SRow w1 w1.heap.size A1 (z.ms.map mk)) := (HA.out.below hb1).r1
  have HB1 : Hid (Below w.heap.size w w1) := HB.out.trans (hb1.mono HB.out.size)
  clear hb1 HB HA HC
  dsimp only at hC
  cases k1 : Lk.safeL s.data.toList
  · have K1 := Lib.hid k1
    clear k1
    go_wp2_with fail
    refine (among_any A1 n1 c1 _ (z.ms.map mk) s _ HN.out HL.out HX.out).mono ?_
    rintro e w2 ⟨rfl, m, hw⟩
    rw [datB_mk]
    have hC2 : w2.cell? ⟨w.heap.size, 0, none⟩ = some (.slice A1 n1 c1) := by rw [hw]; exact hC
    have HX2 : Hid (SRow w2 w1.heap.size A1 (z.ms.map mk)) := by rw [hw]; exact HX.out
    have HB2 : Hid (Below w.heap.size w w2) := by rw [hw]; exact below_drewN HB1.out m
    clear hw HX HB1 hC
    cases k2 : memT z.ms s.data.toList
    · have K2 := Lib.hid k2
      clear k2
      cases creds
      · go_wp2_with fail
        refine (among_any A1 n1 c1 _ (z.ms.map mk) _ _ HN.out HL.out HX2.out).mono ?_
        rintro e w3 ⟨rfl, m3, hw⟩
        rw [datB_mk]
        have HB3 : Hid (Below w.heap.size w w3) := by rw [hw]; exact below_drewN HB2.out m3
        clear hw HX2 HB2 hC2
        go_wp2
        go_ret
        exact ⟨ret_bool (by unfold hasA; rw [K1.out, K2.out]; rfl), HB3.out⟩
      · go_wp2
        go_ret
        exact ⟨ret_bool (by unfold hasA; rw [K1.out, K2.out]; rfl), HB2.out⟩
    · have K2 := Lib.hid k2
      clear k2
      go_wp2
      go_ret
      exact ⟨ret_bool (by unfold hasA; rw [K1.out, K2.out]; rfl), HB2.out⟩
  · have K1 := Lib.hid k1
    clear k1
    go_wp2
    go_ret
    exact ⟨ret_bool (by unfold hasA; rw [K1.out]; rfl), HB1.out⟩

set_option maxHeartbeats 2000000 in
theorem refCovers_any (a : Av) (z : Al) (s : ByteArray) (creds : Bool) (w : World) (ha : AvIs w a z) (hs : s.size ≤ maxLen) :
    Calls Tryd.prog 16 #[a.v, .string s, .bool creds] w fun e w' => e = .returned (.bool (covA z.hs s.data.toList creds)) ∧ Below w.heap.size w w' := by
  obtain ⟨A1, n1, c1, A2, n2, c2, g⟩ := a
  obtain ⟨t, ht⟩ := lower_ba s
  have HT := Lib.hid ht
  clear ht
  obtain ⟨W, hW⟩ : ∃ W, W = w.alloc (.cells #[.slice A1 n1 c1, .slice A2 n2 c2, .int .u64 g] 26) := ⟨_, rfl⟩
  have hb0 : Below w.heap.size w W := by rw [hW]; exact (Below.refl _ _).alloc (Nat.le_refl _) _
  have HB := Lib.hid hb0
  have HA := Lib.hid (ha.below hb0)
  have HC : Hid (AlAt W w.heap.size ⟨A1, n1, c1, A2, n2, c2, g⟩) := by rw [hW]; exact AlAt.new w ⟨A1, n1, c1, A2, n2, c2, g⟩ _
  have HS := Lib.hid hs
  have HN : Hid (n2 = (z.hs.map mk).length) := by show _ = _; rw [List.length_map]; exact ha.e2
  have HL : Hid ((z.hs.map mk).length ≤ maxLen) := by show _ ≤ _; rw [List.length_map]; exact ha.l2
  clear hb0 ha hs
  unfold Av.v
  dsimp only
  go_enter Tryd.func16, Tryd.ntmps16
  go_wp2_with fail
  rw [← hW]
  clear hW
  refine (erefLower_as s t _ HS.out HT.out).mono ?_
  rintro e w1 ⟨rfl, hb1⟩
  have hC := (HC.out.up hb1).c1
  have HX : Hid (SRow w1 w1.heap.size A2 (z.hs.map mk)) := (HA.out.below hb1).r2
  have HB1 : Hid (Below w.heap.size w w1) := HB.out.trans (hb1.mono HB.out.size)
  clear hb1 HB HA HC
  dsimp only at hC
  go_wp2_with fail
  refine (among_any A2 n2 c2 _ (z.hs.map mk) t _ HN.out HL.out HX.out).mono ?_
  rintro e w2 ⟨rfl, m, hw⟩
  rw [datB_mk]
  have hC2 : w2.cell? ⟨w.heap.size, 1, none⟩ = some (.slice A2 n2 c2) := by rw [hw]; exact hC
  have HX2 : Hid (SRow w2 w1.heap.size A2 (z.hs.map mk)) := by rw [hw]; exact HX.out
  have HB2 : Hid (Below w.heap.size w w2) := by rw [hw]; exact below_drewN HB1.out m
  clear hw HX HB1 hC
  cases k2 : memT z.hs t.data.toList
  · have K2 := Lib.hid k2
    clear k2
    cases creds
    · go_wp2_with fail
      refine (among_any A2 n2 c2 _ (z.hs.map mk) _ _ HN.out HL.out HX2.out).mono ?_
      rintro e w3 ⟨rfl, m3, hw⟩
      rw [datB_mk]
      have HB3 : Hid (Below w.heap.size w w3) := by rw [hw]; exact below_drewN HB2.out m3
      clear hw HX2 HB2 hC2
      have KW : Hid (wildT z.hs false = memT z.hs (ByteArray.mk #[42]).data.toList) := rfl
      cases k4 : memT z.hs (ByteArray.mk #[42]).data.toList
      · rw [k4] at KW
        clear k4
        go_wp2
        go_ret
        exact ⟨ret_bool (by unfold covA; rw [← HT.out, K2.out, KW.out, Bool.and_false]; rfl), HB3.out⟩
      · rw [k4] at KW
        clear k4
        cases k3 : t.toList == [97, 117, 116, 104, 111, 114, 105, 122, 97, 116, 105, 111, 110]
        · have K3 : Hid ((t.data.toList == authN) = false) := by show _ = _; rw [← auth_beq]; exact k3
          go_wp2
          go_ret
          exact ⟨ret_bool (by unfold covA; rw [← HT.out, K2.out, K3.out, KW.out]; rfl), HB3.out⟩
        · have K3 : Hid ((t.data.toList == authN) = true) := by show _ = _; rw [← auth_beq]; exact k3
          go_wp2
          go_ret
          exact ⟨ret_bool (by unfold covA; rw [← HT.out, K2.out, K3.out]; rfl), HB3.out⟩
    · go_wp2
      go_ret
      exact ⟨ret_bool (by unfold covA; rw [← HT.out, K2.out, show wildT z.hs true = false from rfl, Bool.and_false]; rfl), HB2.out⟩
  · have K2 := Lib.hid k2
    clear k2
    go_wp2
    go_ret
    exact ⟨ret_bool (by unfold covA; rw [← HT.out, K2.out]; rfl), HB2.out⟩
end Go.Proofs.YtnoiciakbbkngaaDoor
