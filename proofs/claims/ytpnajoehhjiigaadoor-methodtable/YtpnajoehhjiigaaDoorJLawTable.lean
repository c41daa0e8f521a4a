/-
  The walk of the law MethodTable: whatever the number, it returns true, and nothing that was there has turned. Conditions: the argument is such as any that comes in; the tables are as the program's text lays them.
-/
import Derived.Test.YtpnajoehhjiigaaDoorJAwake
import Derived.Test.YtpnajoehhjiigaaDoorJRef
namespace Go.Proofs.YtpnajoehhjiigaaDoor
open Go.RowKit

/-- what the four functions tell of a text, whenever they are asked in an order that is open -/
structure Told4 (W : World) (s m : ByteArray) (c : Int) (b d : Bool) : Prop where
  norm : ∀ n, Calls Tryd.prog 9 #[.string s] (W.drewN n) fun e w' => e = .returned (.string m) ∧ ∃ j, w' = (W.drewN n).drewN j
  check : ∀ n, Calls Tryd.prog 13 #[.string s] (W.drewN n) fun e w' => e = .returned (.int .i64 c) ∧ ∃ j, w' = (W.drewN n).drewN j
  bars : ∀ n, Calls Tryd.prog 11 #[.string s] (W.drewN n) fun e w' => e = .returned (.bool b) ∧ ∃ j, w' = (W.drewN n).drewN j
  safe : ∀ n, Calls Tryd.prog 15 #[.string s] (W.drewN n) fun e w' => e = .returned (.bool d) ∧ ∃ j, w' = (W.drewN n).drewN j
theorem told4_of {W : World} {s m : ByteArray} {c : Int} {b d : Bool} (he : MEnv W) (hs : s.size ≤ maxLen) (h1 : mk (Lk.normL s.data.toList) = m) (h2 : Lk.methI s.data.toList = c) (h3 : Lk.barsL s.data.toList = b) (h4 : Lk.safeL s.data.toList = d) : Told4 W s m c b d := by
  subst h1 h2 h3 h4
  exact ⟨fun n => Norm_any s _ hs (he.drewN n), fun n => Check_any s _ hs (he.drewN n), fun n => Bars_any s _ hs (he.drewN n), fun n => Safe_any s _ hs (he.drewN n)⟩

/-- one of the six, its letters turned -/
theorem tab_view (bits : Int) (k : Nat) (h : k < 6) : ∃ m s : ByteArray, Lk.usL[k]? = some m.data.toList ∧ m.size ≤ 7 ∧ s = mk (flipL bits m.data.toList) ∧ s.size ≤ maxLen ∧ mk (Lk.normL s.data.toList) = m ∧ Lk.methI s.data.toList = 0 ∧
    Lk.barsL s.data.toList = false ∧ Lk.safeL s.data.toList = (k == 1 || k == 2 || k == 4) := by
  obtain ⟨m, h1, h2⟩ := us_at k h
  have hlow : Lk.lower (flipL bits m.data.toList) = Lk.lower m.data.toList := flip_low bits _
  have hmem : m.data.toList ∈ Lk.usL := List.mem_of_getElem? h1
  have hn := Lk.norm_of hlow hmem
  refine ⟨m, mk (flipL bits m.data.toList), h1, h2, rfl, ?_, ?_, ?_, ?_, ?_⟩
  · rw [mk_size, flip_len]; simp; unfold maxLen; omega
  · rw [mk_data, hn]; exact mk_eq m
  · rw [mk_data, Lk.meth_case hlow]
    have : ∀ x ∈ Lk.usL, Lk.methI x = 0 := by decide
    exact this _ hmem
  · rw [mk_data, Lk.bars_case hlow]
    have : ∀ x ∈ Lk.usL, Lk.barsL x = false := by decide
    exact this _ hmem
  · rw [mk_data]
    refine Lk.safe_of _ hn ?_
    match k, h1 with
    | 0, h1 => rw [← Option.some.inj h1]; rfl
    | 1, h1 => rw [← Option.some.inj h1]; rfl
    | 2, h1 => rw [← Option.some.inj h1]; rfl
    | 3, h1 => rw [← Option.some.inj h1]; rfl
    | 4, h1 => rw [← Option.some.inj h1]; rfl
    | 5, h1 => rw [← Option.some.inj h1]; rfl
    | k + 6, h1 => cases h1
theorem ba_at (k : Nat) (h : k < 3) : ∃ m : ByteArray, Lk.baL[k]? = some m.data.toList ∧ m.size ≤ 7 := by
  obtain ⟨m, h1, h2, _⟩ := ba_view k h
  exact ⟨m, h1, h2⟩
/-- one of the three, its letters turned -/
theorem no_view (bits : Int) (k : Nat) (h : k < 3) : ∃ m s : ByteArray, Lk.baL[k]? = some m.data.toList ∧ m.size ≤ 7 ∧ s = mk (flipL bits m.data.toList) ∧ s.size ≤ maxLen ∧ mk (Lk.normL s.data.toList) = s ∧ Lk.methI s.data.toList = 5 ∧
    Lk.barsL s.data.toList = true ∧ Lk.safeL s.data.toList = false := by
  obtain ⟨m, h1, h2⟩ := ba_at k h
  have hlow : Lk.lower (flipL bits m.data.toList) = Lk.lower m.data.toList := flip_low bits _
  have hmem : m.data.toList ∈ Lk.baL := List.mem_of_getElem? h1
  have hno : Lk.usL.find? (fun x => Lk.foldL x m.data.toList) = none := by
    have : ∀ y ∈ Lk.baL, Lk.usL.find? (fun x => Lk.foldL x y) = none := by decide
    exact this _ hmem
  refine ⟨m, mk (flipL bits m.data.toList), h1, h2, rfl, ?_, ?_, ?_, ?_, ?_⟩
  · rw [mk_size, flip_len]; simp; unfold maxLen; omega
  · rw [mk_data, Lk.norm_other hlow hno]
  · rw [mk_data, Lk.meth_case hlow]
    have : ∀ x ∈ Lk.baL, Lk.methI x = 5 := by decide
    exact this _ hmem
  · rw [mk_data, Lk.bars_case hlow]
    have : ∀ x ∈ Lk.baL, Lk.barsL x = true := by decide
    exact this _ hmem
  · rw [mk_data]
    exact Lk.safe_case hlow hno
/-- patch, its letters turned -/
theorem patch_view (bits : Int) : ∃ s : ByteArray, mk (flipL bits (ByteArray.mk #[112, 97, 116, 99, 104]).data.toList) = s ∧ s.size ≤ maxLen ∧ mk (Lk.normL s.data.toList) = s ∧ Lk.methI s.data.toList = 0 ∧ Lk.safeL s.data.toList = false := by
  have hlow : Lk.lower (flipL bits (ByteArray.mk #[112, 97, 116, 99, 104]).data.toList) = Lk.lower [112, 97, 116, 99, 104] := flip_low bits _
  have hno : Lk.usL.find? (fun x => Lk.foldL x [112, 97, 116, 99, 104]) = none := by decide
  refine ⟨_, rfl, ?_, ?_, ?_, ?_⟩
  · rw [mk_size, flip_len]; decide
  · rw [mk_data, Lk.norm_other hlow hno]
  · rw [mk_data, Lk.meth_case hlow]; decide
  · rw [mk_data]
    exact Lk.safe_case hlow hno
/-- a box that holds the three -/
def BaAt (W : World) (g : Nat) : Prop := ∀ (k : Nat) (m : ByteArray), Lk.baL[k]? = some m.data.toList → W.cell? ⟨g, k, none⟩ = some (.string m)
theorem BaAt.new (w : World) (t : TypeId) : BaAt (w.alloc (.cells baA t)) w.heap.size := by
  intro k m h
  have e : ∀ l : List UInt8, l = m.data.toList → (⟨l.toArray⟩ : ByteArray) = m := by intro l h; subst h; exact mk_eq m
  match k, h with
  | 0, h => have h' := e _ (Option.some.inj h); simp [baA, ← h']
  | 1, h => have h' := e _ (Option.some.inj h); simp [baA, ← h']
  | 2, h => have h' := e _ (Option.some.inj h); simp [baA, ← h']
  | k + 3, h => cases h
theorem BaAt.below {W W' : World} {g : Nat} (o : BaAt W g) (hb : Below W.heap.size W W') : BaAt W' g := by
  intro k m h
  have := o k m h
  exact (hb.cell (block_of_cell this)).trans this
theorem lt6 {k : Nat} (h : k < 6) : k = 0 ∨ k = 1 ∨ k = 2 ∨ k = 3 ∨ k = 4 ∨ k = 5 := by omega
theorem lt3 {k : Nat} (h : k < 3) : k = 0 ∨ k = 1 ∨ k = 2 := by omega

set_option maxHeartbeats 4000000 in
theorem walk_MethodTable (bits : Int) (w : World) (hbits : (Lit.int .u64 bits).wf = true) (he : MEnv w) :
    Calls Tryd.prog 4 #[.int .u64 bits] w fun e w' => e = .returned (.bool true) ∧ Below w.heap.size w w' := by
  have HE := Lib.hid he
  clear he
  have HBt := Lib.hid (wfU hbits)
  clear hbits
  have HU := Lib.hid (UsAt.new w 29)
  go_enter Tryd.func4, Tryd.ntmps4
  go_wp2
  go_loopw [4] (fun i wr => ∃ k : Nat, k ≤ 6 ∧ i = .int .i64 k ∧ Below w.heap.size w wr ∧ UsAt wr w.heap.size) (fun i _ => 6 - (intOf i).toNat)
  case atStart => exact ⟨0, Nat.zero_le _, rfl, (Below.refl _ _).alloc (Nat.le_refl _) _, HU.out⟩
  case round =>
    obtain ⟨k, hk, rfl, hb, hu⟩ := hrel
    have HB := Lib.hid hb
    have HV := Lib.hid hu
    clear hb hu
    by_cases hlt : k < 6
    · obtain ⟨m, s, hm, hz, hs, hsz, h1, h2, h3, h4⟩ := tab_view bits k hlt
      have hc := HV.out k m hm
      have HS := Lib.hid hs
      have HZ := Lib.hid hsz
      have H1 := Lib.hid h1
      have H2 := Lib.hid h2
      have H3 := Lib.hid h3
      have H4 := Lib.hid h4
      clear hm hs hsz h1 h2 h3 h4
      have hle := HB.out.size
      rcases lt6 hlt with rfl | rfl | rfl | rfl | rfl | rfl
      all_goals
        clear hlt hk
        go_wp2_with fail
        refine (FlipF_any m bits _ (by unfold maxLen; omega) HBt.out.1 HBt.out.2).mono ?_
        rintro e w1 ⟨rfl, hb1⟩
        rw [← HS.out]
        have HB1 : Hid (Below w.heap.size w w1) := HB.out.trans (hb1.mono HB.out.size)
        have HV1 : Hid (UsAt w1 w.heap.size) := HV.out.below hb1
        have hc1 := (hb1.cell (block_of_cell hc)).trans hc
        have K := Lib.hid (told4_of (HE.out.below HB1.out) HZ.out H1.out H2.out H3.out H4.out)
        clear hb1 hc
        go_wp2_with fail
        go_quiet (first
          | (go_at_call 9; exact Calls.quiet_of (K.out.norm _))
          | (go_at_call 13; exact Calls.quiet_of (K.out.check _))
          | (go_at_call 11; exact Calls.quiet_of (K.out.bars _))
          | (go_at_call 15; exact Calls.quiet_of (K.out.safe _)))
        go_wp2
        go_roundw
        case rel => exact ⟨_, by decide, rfl, below_drewN HB1.out _, HV1.out.below (below_drewN (Below.refl _ _) _)⟩
        case measure => simp [intOf]
    · obtain rfl : k = 6 := by omega
      obtain ⟨W0, rfl⟩ : ∃ W0, W0 = wr := ⟨_, rfl⟩
      have HA := Lib.hid (BaAt.new W0 31)
      have HB0 : Hid (Below w.heap.size w (W0.alloc (.cells baA 31))) := HB.out.alloc HB.out.size _
      have hle := HB.out.size
      clear HU HV
      go_wp2
      go_loopw [7] (fun i w2 => ∃ k : Nat, k ≤ 3 ∧ i = .int .i64 k ∧ Below w.heap.size w w2 ∧ BaAt w2 W0.heap.size) (fun i _ => 3 - (intOf i).toNat)
      case atStart => exact ⟨0, Nat.zero_le _, rfl, HB0.out, HA.out⟩
      case round =>
        obtain ⟨k, hk, rfl, hb, hu⟩ := hrel
        have HB2 := Lib.hid hb
        have HV := Lib.hid hu
        clear hb hu HB HB0 HA
        by_cases hlt : k < 3
        · obtain ⟨m, s, hm, hz, hs, hsz, h1, h2, h3, h4⟩ := no_view bits k hlt
          have hc := HV.out k m hm
          have HS := Lib.hid hs
          have HZ := Lib.hid hsz
          have H1 := Lib.hid h1
          have H2 := Lib.hid h2
          have H3 := Lib.hid h3
          have H4 := Lib.hid h4
          clear hm hs hsz h1 h2 h3 h4
          go_wp2_with fail
          refine (FlipF_any m bits _ (by unfold maxLen; omega) HBt.out.1 HBt.out.2).mono ?_
          rintro e w3 ⟨rfl, hb3⟩
          rw [← HS.out]
          have HB3 : Hid (Below w.heap.size w w3) := HB2.out.trans (hb3.mono HB2.out.size)
          have HV3 : Hid (BaAt w3 W0.heap.size) := HV.out.below hb3
          clear hb3 hc
          go_wp2_with fail
          refine (Bars_any s _ HZ.out (HE.out.below HB3.out)).mono ?_
          rintro e w4 ⟨rfl, n4, hw4⟩
          rw [H3.out]
          have HB4 : Hid (Below w.heap.size w w4) := by rw [hw4]; exact below_drewN HB3.out n4
          have HV4 : Hid (BaAt w4 W0.heap.size) := by rw [hw4]; exact HV3.out
          clear hw4
          go_wp2_with fail
          refine (Check_any s _ HZ.out (HE.out.below HB4.out)).mono ?_
          rintro e w5 ⟨rfl, n5, hw5⟩
          rw [H2.out]
          have HB5 : Hid (Below w.heap.size w w5) := by rw [hw5]; exact below_drewN HB4.out n5
          have HV5 : Hid (BaAt w5 W0.heap.size) := by rw [hw5]; exact HV4.out
          clear hw5
          go_wp2_with fail
          refine (Safe_any s _ HZ.out (HE.out.below HB5.out)).mono ?_
          rintro e w6 ⟨rfl, n6, hw6⟩
          rw [H4.out]
          have HB6 : Hid (Below w.heap.size w w6) := by rw [hw6]; exact below_drewN HB5.out n6
          have HV6 : Hid (BaAt w6 W0.heap.size) := by rw [hw6]; exact HV5.out
          clear hw6
          go_wp2_with fail
          refine (Norm_any s _ HZ.out (HE.out.below HB6.out)).mono ?_
          rintro e w7 ⟨rfl, n7, hw7⟩
          rw [H1.out]
          have HB7 : Hid (Below w.heap.size w w7) := by rw [hw7]; exact below_drewN HB6.out n7
          have HV7 : Hid (BaAt w7 W0.heap.size) := by rw [hw7]; exact HV6.out
          clear hw7
          go_wp2
          go_roundw
          case rel =>
            repeat apply Exists.intro
            refine ⟨⟨k + 1, by omega, ?_, HB7.out, HV7.out⟩, rfl⟩
            go_num
          case measure => simp [intOf]; omega
        · obtain rfl : k = 3 := by omega
          obtain ⟨s, hs, hsz, h1, h2, h4⟩ := patch_view bits
          have HS := Lib.hid hs
          have HZ := Lib.hid hsz
          have H1 := Lib.hid h1
          have H2 := Lib.hid h2
          have H4 := Lib.hid h4
          clear hs hsz h1 h2 h4
          go_wp2_with fail
          refine (FlipF_any _ bits _ (by decide) HBt.out.1 HBt.out.2).mono ?_
          rintro e w3 ⟨rfl, hb3⟩
          rw [HS.out]
          have HB3 : Hid (Below w.heap.size w w3) := HB2.out.trans (hb3.mono HB2.out.size)
          clear hb3
          go_wp2_with fail
          refine (Norm_any s _ HZ.out (HE.out.below HB3.out)).mono ?_
          rintro e w4 ⟨rfl, n4, hw4⟩
          rw [H1.out]
          have HB4 : Hid (Below w.heap.size w w4) := by rw [hw4]; exact below_drewN HB3.out n4
          clear hw4
          go_wp2_with fail
          refine (Check_any s _ HZ.out (HE.out.below HB4.out)).mono ?_
          rintro e w5 ⟨rfl, n5, hw5⟩
          rw [H2.out]
          have HB5 : Hid (Below w.heap.size w w5) := by rw [hw5]; exact below_drewN HB4.out n5
          clear hw5
          go_wp2_with fail
          refine (Safe_any s _ HZ.out (HE.out.below HB5.out)).mono ?_
          rintro e w6 ⟨rfl, n6, hw6⟩
          rw [H4.out]
          have HB6 : Hid (Below w.heap.size w w6) := by rw [hw6]; exact below_drewN HB5.out n6
          clear hw6
          go_wp2_with fail
          refine (awake5_from HE.out HB6.out).mono ?_
          rintro e w7 ⟨rfl, hb⟩
          go_wp2
          go_ret
          exact ⟨rfl, hb⟩
end Go.Proofs.YtpnajoehhjiigaaDoor
