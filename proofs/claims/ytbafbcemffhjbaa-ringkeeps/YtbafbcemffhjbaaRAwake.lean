/-
  The contract of layer 10's own awake over this seat's program: it returns true, and nothing that was there has turned. No conditions.
-/
import Derived.Test.YtbafbcemffhjbaaRPut
namespace Go.Proofs.Ytbafbcemffhjbaa
open Go.RowKit

theorem bytes_new {w : World} {cs : Array Value} {b : List UInt8} {t : TypeId} (h : cs = (b.map bv).toArray) {g : Nat} (hg : g = w.heap.size) {f : List Nat} (hf : ∀ x ∈ f, x < g) : BArg (w.alloc (.cells cs t)) f (some ⟨g, 0, none⟩) b := by
  subst h hg
  intro j hj
  refine ⟨_, rfl, by simp, fun hm => by have := hf _ hm; simp at this, ?_⟩
  rw [add_at]
  simp [hj]

set_option maxHeartbeats 1600000 in
theorem awake10_any (w : World) : Calls Try.prog 6 #[] w fun e w' => e = .returned (.bool true) ∧ Below w.heap.size w w' := by
  go_enter Try.func6, Try.ntmps6
  go_wp2_with fail
  refine (ringNew_any 3 w).mono ?_
  rintro e w1 ⟨g, gd, rfl, hr1, ho1, hg, hgd⟩
  have HR1 : Hid (RgAt w1 g gd 3 []) := hr1
  have HO1 := Lib.hid ho1
  have HG : Hid (w.heap.size ≤ g ∧ w.heap.size ≤ gd) := ⟨hg, hgd⟩
  clear hr1 ho1 hg hgd
  go_wp2_with fail
  obtain ⟨gb, hgb⟩ : ∃ gb, gb = w1.heap.size := ⟨_, rfl⟩
  rw [← hgb]
  obtain ⟨W1, hW1⟩ : ∃ W1, W1 = w1.alloc (.cells #[.int .u8 1, .int .u8 2, .int .u8 3, .int .u8 4] 5) := ⟨_, rfl⟩
  rw [← hW1]
  have HOa : Hid (Only [] w1 W1) := by show Only _ _ _; rw [hW1]; exact (Only.refl _ _).alloc _
  have HBa : Hid (BArg W1 [gd] (some ⟨gb, 0, none⟩) [1, 2, 3, 4]) := by
    show BArg _ _ _ _
    rw [hW1]
    exact bytes_new rfl hgb (by intro x hx; simp at hx; subst hx; have := HR1.out.lt.2.1; omega)
  have HRa := Lib.hid (HR1.out.old HOa.out)
  clear hW1 hgb
  refine (ringPut_any g gd 3 [] (some ⟨gb, 0, none⟩) 4 4 [1, 2, 3, 4] W1 HRa.out rfl HBa.out (by decide) (by decide)).mono ?_
  rintro e w2 ⟨rfl, hr2, ho2⟩
  rw [show roomed 3 [] [1, 2, 3, 4] = 3 from rfl] at hr2 ⊢
  have HR2 : Hid (RgAt w2 g gd 3 [1, 2, 3]) := hr2
  have HO2 : Hid (Only [g, gd] w w2) := ((HO1.out.trans HOa.out).mono (by simp)).trans ho2
  clear hr2 ho2
  go_wp2_with fail
  refine (ringTake_any g gd 3 [1, 2, 3] 2 w2 HR2.out).mono ?_
  rintro e w3 ⟨v3, rfl, hk3, hr3, ho3⟩
  rw [show upto 2 [1, 2, 3] = 2 from rfl] at hr3 hk3
  have HR3 : Hid (RgAt w3 g gd 3 [3]) := hr3
  have HK3 : Hid (KeptAt w3 w2.heap.size v3 [1, 2]) := hk3
  have HO3 : Hid (Only [g, gd] w w3) := HO2.out.trans (ho3.mono (by simp))
  have HL3 : Hid (∀ x ∈ ownL v3, x ∉ [g, gd]) := by
    show ∀ x ∈ _, _
    intro x hx
    have h1 := (HK3.out.own hx).1
    have h2 := HR2.out.lt
    simp
    omega
  clear hr3 ho3 hk3
  go_wp2_with fail
  obtain ⟨gb2, hgb⟩ : ∃ gb, gb = w3.heap.size := ⟨_, rfl⟩
  rw [← hgb]
  obtain ⟨W3, hW3⟩ : ∃ W3, W3 = w3.alloc (.cells #[.int .u8 5] 5) := ⟨_, rfl⟩
  rw [← hW3]
  have HOb : Hid (Only [] w3 W3) := by show Only _ _ _; rw [hW3]; exact (Only.refl _ _).alloc _
  have HBb : Hid (BArg W3 [gd] (some ⟨gb2, 0, none⟩) [5]) := by
    show BArg _ _ _ _
    rw [hW3]
    exact bytes_new rfl hgb (by intro x hx; simp at hx; subst hx; have := HR3.out.lt.2.1; omega)
  have HRb := Lib.hid (HR3.out.old HOb.out)
  clear hW3 hgb
  refine (ringPut_any g gd 3 [3] (some ⟨gb2, 0, none⟩) 1 1 [5] W3 HRb.out rfl HBb.out (by decide) (by decide)).mono ?_
  rintro e w4 ⟨rfl, hr4, ho4⟩
  rw [show roomed 3 [3] [5] = 1 from rfl] at hr4 ⊢
  have HR4 : Hid (RgAt w4 g gd 3 [3, 5]) := hr4
  have HO4 : Hid (Only [g, gd] w w4) := (HO3.out.trans (HOb.out.mono (by simp))).trans ho4
  have HK4 : Hid (KeptAt w4 w2.heap.size v3 [1, 2]) := (HK3.out.old HOb.out).only ho4 HL3.out
  have hcv4 := HK4.out.conv
  clear hr4 ho4
  go_wp2_with fail
  refine (ringPeek_any g gd 3 [3, 5] w4 HR4.out).mono ?_
  rintro e w5 ⟨v5, rfl, hk5, ho5⟩
  have HR5 := Lib.hid (HR4.out.old ho5)
  have HO5 : Hid (Only [g, gd] w w5) := HO4.out.trans (ho5.mono (by simp))
  have hcv5 := hk5.conv
  clear hk5 ho5 hcv4
  go_wp2_with fail
  refine (ringLen_any g gd 3 [3, 5] w5 HR5.out).mono ?_
  rintro e w' ⟨rfl, rfl⟩
  clear hcv5
  go_wp2_with fail
  refine (ringRoom_any g gd 3 [3, 5] w5 HR5.out).mono ?_
  rintro e w6 ⟨rfl, n6, hn6⟩
  have HB : Hid (Below w.heap.size w w6) := by
    show Below _ _ _
    rw [hn6]
    exact (HO5.out.drewN n6).to_below (by have := HG.out; simp; omega)
  clear hn6
  go_wp2
  go_ret
  exact ⟨rfl, HB.out⟩
end Go.Proofs.Ytbafbcemffhjbaa
