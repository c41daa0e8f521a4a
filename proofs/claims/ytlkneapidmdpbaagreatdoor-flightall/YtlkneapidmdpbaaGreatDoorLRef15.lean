/-
  Contracts of the document's own answer of layer 15 over this seat's program. Conditions: those of each statement.
-/
import Derived.Test.YtlkneapidmdpbaaGreatDoorLCors
import Derived.Test.YtlkneapidmdpbaaGreatDoorLRef6
namespace Go.Proofs.YtlkneapidmdpbaaGreatDoor
open Go.RowKit

set_option maxHeartbeats 2000000 in
theorem refCCheck_any (o : ByteArray) (cr : Bool) (A : Option Addr) (len c B : Nat) (xs : List (ByteArray × ByteArray)) (w : World) (hlen : len = xs.length) (hB : B ≤ w.heap.size) (hx : PRow w B A xs) (hsm : Sm (xs.map hd)) :
    Calls Tryz.prog 43 #[.string o, .bool cr, .slice A len c] w fun e w' => e = .returned (.int .i64 (chkH o.data.toList cr (xs.map hd))) ∧ Below w.heap.size w w' := by
  have HX := Lib.hid hx
  have HS := Lib.hid hsm
  have HLen := Lib.hid hlen
  have HBB := Lib.hid hB
  obtain ⟨v, hv⟩ : ∃ v, v = mk (getH (xs.map hd) orgN) := ⟨_, rfl⟩
  have HV := Lib.hid hv
  obtain ⟨g, hg⟩ : ∃ g, g = gotH (xs.map hd) orgN := ⟨_, rfl⟩
  have HG := Lib.hid hg
  obtain ⟨u, hu⟩ : ∃ u, u = mk (getH (xs.map hd) crdN) := ⟨_, rfl⟩
  have HU := Lib.hid hu
  have hvl : v.data.toList = getH (xs.map hd) orgN := by rw [hv, mk_data]
  have hul : u.data.toList = getH (xs.map hd) crdN := by rw [hu, mk_data]
  have hres : chkH o.data.toList cr (xs.map hd) = chk g (v.toList == [42]) cr (v.toList == o.toList) (u.toList == [116, 114, 117, 101]) := by
    rw [beq_l hvl, beq_l hul, ByteArray.toList_eq, hvl, ByteArray.toList_eq, hg]; rfl
  rw [hres]
  generalize hb1 : (v.toList == [42]) = b1
  generalize hb2 : (v.toList == o.toList) = b2
  generalize hb3 : (u.toList == [116, 114, 117, 101]) = b3
  clear hx hsm hlen hB hv hg hu hvl hul hres
  go_enter Tryz.func43, Tryz.ntmps43
  go_wp2_with fail
  refine (refGet_any A len c B xs _ _ HLen.out HBB.out HX.out HS.out (by unfold maxLen; decide)).mono ?_
  rintro e w1 ⟨rfl, hq1⟩
  rw [show (ByteArray.mk #[97, 99, 99, 101, 115, 115, 45, 99, 111, 110, 116, 114, 111, 108, 45, 97, 108, 108, 111, 119, 45, 111, 114, 105, 103, 105, 110]).data.toList = orgN from rfl, ← HV.out, ← HG.out]
  have HB1 := Lib.hid hq1
  have HX1 : Hid (PRow w1 B A xs) := HX.out.below (hq1.mono HBB.out)
  have HBB1 : Hid (B ≤ w1.heap.size) := Nat.le_trans HBB.out hq1.size
  clear hq1
  cases g
  · go_wp2
    go_ret
    exact ⟨rfl, HB1.out⟩
  cases b1 <;> cases cr
  case true.false =>
    go_wp2
    go_ret
    exact ⟨rfl, HB1.out⟩
  case false.false =>
    cases b2
    · go_wp2
      go_ret
      exact ⟨rfl, HB1.out⟩
    · go_wp2
      go_ret
      exact ⟨rfl, HB1.out⟩
  case false.true =>
    cases b2
    · go_wp2
      go_ret
      exact ⟨rfl, HB1.out⟩
    · go_wp2_with fail
      refine (refGet_any A len c B xs _ _ HLen.out HBB1.out HX1.out HS.out (by unfold maxLen; decide)).mono ?_
      rintro e w2 ⟨rfl, hq2⟩
      rw [show (ByteArray.mk #[97, 99, 99, 101, 115, 115, 45, 99, 111, 110, 116, 114, 111, 108, 45, 97, 108, 108, 111, 119, 45, 99, 114, 101, 100, 101, 110, 116, 105, 97, 108, 115]).data.toList = crdN from rfl, ← HU.out]
      have HB2 : Hid (Below w.heap.size w w2) := HB1.out.trans (hq2.mono HB1.out.size)
      clear hq2
      cases b3 <;>
      · go_wp2
        go_ret
        exact ⟨rfl, HB2.out⟩
  case true.true =>
    cases b2
    · go_wp2
      go_ret
      exact ⟨rfl, HB1.out⟩
    · go_wp2_with fail
      refine (refGet_any A len c B xs _ _ HLen.out HBB1.out HX1.out HS.out (by unfold maxLen; decide)).mono ?_
      rintro e w2 ⟨rfl, hq2⟩
      rw [show (ByteArray.mk #[97, 99, 99, 101, 115, 115, 45, 99, 111, 110, 116, 114, 111, 108, 45, 97, 108, 108, 111, 119, 45, 99, 114, 101, 100, 101, 110, 116, 105, 97, 108, 115]).data.toList = crdN from rfl, ← HU.out]
      have HB2 : Hid (Below w.heap.size w w2) := HB1.out.trans (hq2.mono HB1.out.size)
      clear hq2
      cases b3 <;>
      · go_wp2
        go_ret
        exact ⟨rfl, HB2.out⟩

theorem cells_lit (w : World) (l : List Value) (t : TypeId) : ∀ j u, l[j]? = some u → (w.alloc (.cells l.toArray t)).cell? ((⟨w.heap.size, 0, none⟩ : Addr).add j) = some u := by
  intro j u hj
  rw [add_own]
  simp [hj]
def plainV : List Value := [.string ⟨#[99, 97, 99, 104, 101, 45, 99, 111, 110, 116, 114, 111, 108]⟩, .string ⟨#[99, 111, 110, 116, 101, 110, 116, 45, 108, 97, 110, 103, 117, 97, 103, 101]⟩, .string ⟨#[99, 111, 110, 116, 101, 110, 116, 45, 108, 101, 110, 103, 116, 104]⟩, .string ⟨#[99, 111, 110, 116, 101, 110, 116, 45, 116, 121, 112, 101]⟩, .string ⟨#[101, 120, 112, 105, 114, 101, 115]⟩, .string ⟨#[108, 97, 115, 116, 45, 109, 111, 100, 105, 102, 105, 101, 100]⟩, .string ⟨#[112, 114, 97, 103, 109, 97]⟩]
theorem plainV_eq : plainV = plainL.map sv := rfl
def CNmAt (W : World) (p q : Addr) (y x : ByteArray) : Prop := W.cell? p = some (.string y) ∧ W.cell? q = some (.string x)
theorem CNmAt.below {W W' : World} {p q : Addr} {y x : ByteArray} (h : CNmAt W p q y x) (hb : Below W.heap.size W W') : CNmAt W' p q y x :=
  ⟨(hb.cell (World.block_lt_of_cell? W p h.1)).trans h.1, (hb.cell (World.block_lt_of_cell? W q h.2)).trans h.2⟩

end Go.Proofs.YtlkneapidmdpbaaGreatDoor
