/-
  The walk of the law CorsAll: whatever the input, it returns true, and nothing that was there has turned. Conditions: the arguments are such as any that come in.
-/
import Derived.Test.YtpfbkcibpmndoaaCAwake
namespace Go.Proofs.Ytpfbkcibpmndoaa
open Go.RowKit

theorem rchk_as (o : ByteArray) (cr : Bool) (A : Option Addr) (len c B : Nat) (xs : List (ByteArray × ByteArray)) (w : World) (k : Int) (hlen : len = xs.length) (hB : B ≤ w.heap.size) (hx : PRow w B A xs) (hsm : Sm (xs.map hd)) (hk : chkH o.data.toList cr (xs.map hd) = k) :
    Calls Try.prog 11 #[.string o, .bool cr, .slice A len c] w fun e w' => e = .returned (.int .i64 k) ∧ Below w.heap.size w w' := by
  rw [← hk]; exact refCCheck_any o cr A len c B xs w hlen hB hx hsm
theorem seen_len (cr : Bool) (l : List Hd) : (seenH cr l).length ≤ l.length := by
  unfold seenH
  exact Nat.le_trans (List.length_filter_le _ _) (by simp [normL])

set_option maxRecDepth 100000 in
set_option maxHeartbeats 4000000 in
theorem walk_CorsAll (s : ByteArray) (cr : Bool) (a2 : Option Addr) (c2 : Nat) (xs : List (ByteArray × ByteArray)) (w : World) (h0 : s.size ≤ maxLen) (h2 : HArg w a2 c2 xs) :
    Calls Try.prog 3 #[.string s, .bool cr, .slice a2 xs.length c2] w fun e w' => e = .returned (.bool true) ∧ Below w.heap.size w w' := by
  have HL0 : Hid (xs.length ≤ maxLen) := Nat.le_trans h2.2.2.1 h2.2.2.2.1
  have HX0 := Lib.hid h2.1
  have HS0 := Lib.hid h2.2.1
  have HS := Lib.hid h0
  clear h0 h2
  obtain ⟨W0, hW0⟩ : ∃ W0, W0 = w.alloc (.cells #[.string s] 9) := ⟨_, rfl⟩
  have hb0 : Below w.heap.size w W0 := by rw [hW0]; exact (Below.refl _ _).alloc (Nat.le_refl _) _
  have HB0 := Lib.hid hb0
  have HO : Hid (SRow W0 (w.heap.size + 1) (some ⟨w.heap.size, 0, none⟩) [s]) := by show SRow _ _ _ _; rw [hW0]; exact SRow.one w s _
  have HP0 : Hid (PRow W0 w.heap.size a2 xs) := HX0.out.below hb0
  clear hb0
  cases hk : Lk.longL (Int.toNat 700) ([s].map ByteArray.size)
  case true =>
    have HK := Lib.hid hk
    clear hk
    go_enter Try.func3, Try.ntmps3
    go_wp2_with fail
    rw [← hW0]
    clear hW0
    refine (Long_any 700 _ 1 1 [s] W0 (w.heap.size + 1) (by decide) (by decide) rfl HO.out (by simp [maxLen]) (by intro x hx; simp at hx; subst hx; exact HS.out)).mono ?_
    rintro e w' ⟨rfl, rfl⟩
    rw [show Lk.longL (Int.toNat 700) ([s].map ByteArray.size) = true from HK.out]
    go_wp2_with fail
    refine (awake15_any _).mono ?_
    rintro e w1 ⟨rfl, hb⟩
    have HBZ : Hid (Below w.heap.size w w1) := HB0.out.trans (hb.mono HB0.out.size)
    clear hb
    go_wp2
    go_ret
    exact ⟨rfl, HBZ.out⟩
  have HK := Lib.hid hk
  clear hk
  cases hg : greatB xs
  case true =>
    have HG := Lib.hid hg
    clear hg
    go_enter Try.func3, Try.ntmps3
    go_wp2_with fail
    rw [← hW0]
    clear hW0
    refine (Long_any 700 _ 1 1 [s] W0 (w.heap.size + 1) (by decide) (by decide) rfl HO.out (by simp [maxLen]) (by intro x hx; simp at hx; subst hx; exact HS.out)).mono ?_
    rintro e w' ⟨rfl, rfl⟩
    rw [show Lk.longL (Int.toNat 700) ([s].map ByteArray.size) = false from HK.out]
    go_wp2_with fail
    refine (Great_any a2 _ c2 w.heap.size xs _ rfl HP0.out HL0.out (fun x hx => HS0.out x hx)).mono ?_
    rintro e w' ⟨rfl, rfl⟩
    rw [show (decide (40 < xs.length) || greatGo 0 xs) = true from HG.out]
    go_wp2_with fail
    refine (awake15_any _).mono ?_
    rintro e w1 ⟨rfl, hb⟩
    have HBZ : Hid (Below w.heap.size w w1) := HB0.out.trans (hb.mono HB0.out.size)
    clear hb
    go_wp2
    go_ret
    exact ⟨rfl, HBZ.out⟩
  have HG := Lib.hid hg
  have HSM : Hid (Sm (xs.map hd)) := (great_bd hg).sm (by omega) (by omega) (by omega)
  clear hg
  obtain ⟨k, hk⟩ : ∃ k, chkH s.data.toList cr (xs.map hd) = k := ⟨_, rfl⟩
  have HKK := Lib.hid hk
  clear hk
  go_enter Try.func3, Try.ntmps3
  go_wp2_with fail
  rw [← hW0]
  clear hW0
  refine (Long_any 700 _ 1 1 [s] W0 (w.heap.size + 1) (by decide) (by decide) rfl HO.out (by simp [maxLen]) (by intro x hx; simp at hx; subst hx; exact HS.out)).mono ?_
  rintro e w' ⟨rfl, rfl⟩
  rw [show Lk.longL (Int.toNat 700) ([s].map ByteArray.size) = false from HK.out]
  go_wp2_with fail
  refine (Great_any a2 _ c2 w.heap.size xs _ rfl HP0.out HL0.out (fun x hx => HS0.out x hx)).mono ?_
  rintro e w' ⟨rfl, rfl⟩
  rw [show (decide (40 < xs.length) || greatGo 0 xs) = false from HG.out]
  go_wp2_with fail
  refine (chk_as s cr a2 _ c2 w.heap.size xs _ k rfl HB0.out.size HP0.out HSM.out HKK.out).mono ?_
  rintro e w1 ⟨rfl, hb⟩
  have HB1 : Hid (Below w.heap.size w w1) := HB0.out.trans (hb.mono HB0.out.size)
  have HP1 : Hid (PRow w1 w.heap.size a2 xs) := HP0.out.below (hb.mono HB0.out.size)
  clear hb
  go_wp2_with fail
  refine (rchk_as s cr a2 _ c2 w.heap.size xs _ k rfl HB1.out.size HP1.out HSM.out HKK.out).mono ?_
  rintro e w2 ⟨rfl, hb⟩
  have HB2 : Hid (Below w.heap.size w w2) := HB1.out.trans (hb.mono HB1.out.size)
  have HP2 : Hid (PRow w2 w.heap.size a2 xs) := HP1.out.below (hb.mono HB1.out.size)
  clear hb
  go_wp2_with fail
  refine (Seen_any cr a2 _ c2 w.heap.size xs _ rfl HB2.out.size HP2.out HSM.out).mono ?_
  rintro e w3 ⟨v3, rfl, hr3, hb⟩
  have HB3 : Hid (Below w.heap.size w w3) := HB2.out.trans (hb.mono HB2.out.size)
  have HP3 : Hid (PRow w3 w.heap.size a2 xs) := HP2.out.below (hb.mono HB2.out.size)
  have HR3 := Lib.hid hr3
  clear hb hr3
  go_wp2_with fail
  refine (refSeen_any cr a2 _ c2 w.heap.size xs _ rfl HB3.out.size HP3.out HSM.out).mono ?_
  rintro e w4 ⟨v4, rfl, hr4, hb⟩
  have HB4 : Hid (Below w.heap.size w w4) := HB3.out.trans (hb.mono HB3.out.size)
  have HR4 := Lib.hid (HdRow.below HR3.out hb)
  obtain ⟨A5, n5, c5, ys, rfl, hn5, hys, _, hp5⟩ := HR4.out.row
  obtain ⟨A6, n6, c6, zs, rfl, hn6, hzs, _, hp6⟩ := hr4.row
  have hyz : ys = zs := row_alike (by rw [hys, hzs])
  subst hyz
  subst hn5
  subst hn6
  have HP5 := Lib.hid hp5
  have HP6 := Lib.hid hp6
  have HYL : Hid (ys.length ≤ maxLen) := by
    show _ ≤ _
    have h1 := congrArg List.length hys
    have h2 := seen_len cr (xs.map hd)
    have h3 := HL0.out
    simp at h1 h2; omega
  clear hb hr4 hys hzs hp5 hp6 HR3 HR4 HP3
  go_wp2_with fail
  refine (Headers_same A5 A6 _ _ c5 c6 _ _ ys _ rfl rfl HYL.out HP5.out HP6.out).mono ?_
  rintro e w5 ⟨rfl, n, hw5⟩
  have HB5 : Hid (Below w.heap.size w w5) := by show Below _ _ _; rw [hw5]; exact below_drewN HB4.out n
  clear hw5
  go_wp2_with fail
  refine (awake15_any _).mono ?_
  rintro e w6 ⟨rfl, hb⟩
  have HB6 : Hid (Below w.heap.size w w6) := HB5.out.trans (hb.mono HB5.out.size)
  clear hb
  go_wp2
  go_ret
  exact ⟨rfl, HB6.out⟩
end Go.Proofs.Ytpfbkcibpmndoaa
