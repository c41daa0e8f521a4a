/-
  The contract of origin's Parse, over this seat's program: it returns what the plain mathematics says, and nothing that was there has turned. Conditions: as Key's.
-/
import Derived.Test.YtfamllkmmiajoaaDoorGShow
import Derived.Test.YtfamllkmmiajoaaDoorOLower
namespace Go.Proofs.YtfamllkmmiajoaaDoor
open Go.RowKit

def orgV (sc h : List UInt8) (p : Int) : Value := .agg #[.string (mk sc), .string (mk h), .int .i64 p]
def parseV (l : List UInt8) : Value :=
  if 512 < l.length then .tuple #[orgV [] [] 0, .int .i64 4]
  else match parseL l with
    | some (a, b, p) => .tuple #[orgV a b p, .int .i64 0]
    | none => .tuple #[orgV [] [] 0, .int .i64 3]

/-- none of the three cells of block g is frozen -/
structure Own3 (W : World) (g : Nat) : Prop where
  f0 : W.frozen? ⟨g, 0, none⟩ = false
  f1 : W.frozen? ⟨g, 1, none⟩ = false
  f2 : W.frozen? ⟨g, 2, none⟩ = false
theorem Own3.below {W W' : World} {g B : Nat} (o : Own3 W g) (hb : Below B W W') (hg : g < B) : Own3 W' g :=
  ⟨(hb.frozen hg).trans o.f0, (hb.frozen hg).trans o.f1, (hb.frozen hg).trans o.f2⟩
theorem Own3.new (w : World) (cs : Array Value) (t : TypeId) : Own3 (w.alloc (.cells cs t)) w.heap.size := ⟨by simp, by simp, by simp⟩

theorem set3_org {W : World} {g : Nat} {u v x : Value} (h0 : W.cell? ⟨g, 0, none⟩ = some u) (h1 : W.cell? ⟨g, 1, none⟩ = some v) (h2 : W.cell? ⟨g, 2, none⟩ = some x) (a b : ByteArray) (p : Int) :
    OrgAt (((W.setCell ⟨g, 0, none⟩ (.string a)).setCell ⟨g, 1, none⟩ (.string b)).setCell ⟨g, 2, none⟩ (.int .i64 p)) g a b p := by
  have d1 : (W.setCell ⟨g, 0, none⟩ (.string a)).cell? ⟨g, 1, none⟩ = some v := by rw [World.cell?_setCell_other _ _ _ _ (by simp)]; exact h1
  have d2 : ((W.setCell ⟨g, 0, none⟩ (.string a)).setCell ⟨g, 1, none⟩ (.string b)).cell? ⟨g, 2, none⟩ = some x := by
    rw [World.cell?_setCell_other _ _ _ _ (by simp), World.cell?_setCell_other _ _ _ _ (by simp)]; exact h2
  refine ⟨?_, ?_, ?_⟩
  · rw [World.cell?_setCell_other _ _ _ _ (by simp), World.cell?_setCell_other _ _ _ _ (by simp), World.cell?_setCell_same _ _ _ h0]
  · rw [World.cell?_setCell_other _ _ _ _ (by simp), World.cell?_setCell_same _ _ _ d1]
  · rw [World.cell?_setCell_same _ _ _ d2]
theorem set3_below {B : Nat} {w W : World} {g : Nat} (h : Below B w W) (hg : B ≤ g) (a b c : Value) :
    Below B w (((W.setCell ⟨g, 0, none⟩ a).setCell ⟨g, 1, none⟩ b).setCell ⟨g, 2, none⟩ c) := ((h.setCell hg a).setCell hg b).setCell hg c
theorem OrgAt.put {W : World} {g : Nat} {s h : ByteArray} {p : Int} (o : OrgAt W g s h p) (k : Int) : OrgAt (W.setCell ⟨g, 2, none⟩ (.int .i64 k)) g s h k :=
  ⟨by rw [World.cell?_setCell_other _ _ _ _ (by simp)]; exact o.c0, by rw [World.cell?_setCell_other _ _ _ _ (by simp)]; exact o.c1, by rw [World.cell?_setCell_same _ _ _ o.c2]⟩

theorem CutSch_none (s : ByteArray) (w : World) (hs : s.size ≤ 512) (he : Env w) (h : seek s.data.toList = none) :
    Calls Tryd.prog 26 #[.string s, .string ⟨#[58, 47, 47]⟩] w fun e w' => e = .returned (.tuple #[.string s, .string ⟨#[]⟩, .bool false]) ∧ ∃ n, w' = w.drewN n := by
  obtain ⟨m, hm⟩ := he.len
  refine (Tryd.strings_Cut s ⟨#[58, 47, 47]⟩ m w (by omega) hm).mono ?_
  rintro e w' ⟨rfl, n, rfl⟩
  have e : Lib.cut s.data.toList (ByteArray.mk #[58, 47, 47]).data.toList = (s.data.toList, [], false) := by
    show Lib.cut s.data.toList [58, 47, 47] = _
    rw [cut_seek, h]
  rw [e]
  exact ⟨by rw [show (⟨s.data.toList.toArray⟩ : ByteArray) = s from Lib.mk_data s], n, rfl⟩
theorem CutSch_some (s : ByteArray) (w : World) (a b : ByteArray) (hs : s.size ≤ 512) (he : Env w) (h : seek s.data.toList = some (a.data.toList, b.data.toList)) :
    Calls Tryd.prog 26 #[.string s, .string ⟨#[58, 47, 47]⟩] w fun e w' => e = .returned (.tuple #[.string a, .string b, .bool true]) ∧ ∃ n, w' = w.drewN n := by
  obtain ⟨m, hm⟩ := he.len
  refine (Tryd.strings_Cut s ⟨#[58, 47, 47]⟩ m w (by omega) hm).mono ?_
  rintro e w' ⟨rfl, n, rfl⟩
  have e : Lib.cut s.data.toList (ByteArray.mk #[58, 47, 47]).data.toList = (a.data.toList, b.data.toList, true) := by
    show Lib.cut s.data.toList [58, 47, 47] = _
    rw [cut_seek, h]
  rw [e]
  exact ⟨by rw [show (⟨a.data.toList.toArray⟩ : ByteArray) = a from Lib.mk_data a, show (⟨b.data.toList.toArray⟩ : ByteArray) = b from Lib.mk_data b], n, rfl⟩
theorem Lower_as (s t : ByteArray) (w : World) (hs : s.size ≤ maxLen) (ht : t = mk (Lk.lower s.data.toList)) :
    Calls Tryd.prog 46 #[.string s] w fun e w' => e = .returned (.string t) ∧ Below w.heap.size w w' := by rw [ht]; exact Lower_any s w hs

set_option maxHeartbeats 2000000 in
theorem Parse_any (s : ByteArray) (w : World) (hs : s.size ≤ maxLen) (he : Env w) :
    Calls Tryd.prog 25 #[.string s] w fun e w' => e = .returned (parseV s.data.toList) ∧ Below w.heap.size w w' := by
  have hs0 := hs
  unfold maxLen at hs
  have hl : s.data.toList.length = s.size := by simp
  have HE := Lib.hid he
  clear he
  by_cases h512 : 512 < s.size
  · have HV : Hid (parseV s.data.toList = .tuple #[orgV [] [] 0, .int .i64 4]) := by show _ = _; rw [parseV, if_pos (by rw [hl]; exact h512)]
    clear hl
    go_enter Tryd.func25, Tryd.ntmps25
    go_wp2
    refine bodyPost_ret (v := .tuple #[.agg #[.string ⟨#[]⟩, .string ⟨#[]⟩, .int .i64 0], .int .i64 4]) (by simp [results, Tryd.results25, go_sem]) rfl ?_
    exact ⟨by rw [HV.out]; rfl, (Below.refl _ _).alloc (Nat.le_refl _) _⟩
  obtain ⟨t, ht⟩ : ∃ t : ByteArray, t = mk (Lk.lower s.data.toList) := ⟨_, rfl⟩
  have htl : t.data.toList = Lk.lower s.data.toList := by rw [ht, mk_data]
  have htz : t.size ≤ 512 := by
    have : t.data.toList.length = s.size := by rw [htl, Lk.lower_len, hl]
    simp at this; omega
  have HT := Lib.hid ht
  have HTL := Lib.hid htl
  have HV : Hid (parseV s.data.toList = match parseL s.data.toList with
    | some (a, b, p) => .tuple #[orgV a b p, .int .i64 0]
    | none => .tuple #[orgV [] [] 0, .int .i64 3]) := by show _ = _; rw [parseV, if_neg (by rw [hl]; exact h512)]
  clear ht htl hl
  have hb0 : Below w.heap.size w (w.alloc (.cells #[.string ⟨#[]⟩, .string ⟨#[]⟩, .int .i64 0] 25)) := (Below.refl _ _).alloc (Nat.le_refl _) _
  have ho0 := OrgAt.new w ⟨#[]⟩ ⟨#[]⟩ 0 25
  have hf0 := Own3.new w #[.string ⟨#[]⟩, .string ⟨#[]⟩, .int .i64 0] 25
  have HB0 := Lib.hid hb0
  have HE0 : Hid (Env (w.alloc (.cells #[.string ⟨#[]⟩, .string ⟨#[]⟩, .int .i64 0] 25))) := HE.out.below hb0
  have hsz0 : w.heap.size < (w.alloc (.cells #[.string ⟨#[]⟩, .string ⟨#[]⟩, .int .i64 0] 25)).heap.size := by simp
  clear hb0
  have HO0 := Lib.hid ho0
  have HF0 := Lib.hid hf0
  have HZ0 := Lib.hid hsz0
  clear ho0 hf0 hsz0
  go_enter Tryd.func25, Tryd.ntmps25
  go_wp2_with fail
  refine (Lower_as s t _ hs0 HT.out).mono ?_
  rintro e w1 ⟨rfl, hb⟩
  have ho1 : OrgAt w1 w.heap.size ⟨#[]⟩ ⟨#[]⟩ 0 := HO0.out.below hb HZ0.out
  have hf1 : Own3 w1 w.heap.size := HF0.out.below hb HZ0.out
  have HB1 : Hid (Below w.heap.size w w1) := HB0.out.trans (hb.mono HB0.out.size)
  have HE1 : Hid (Env w1) := HE0.out.below hb
  clear hb
  obtain ⟨c0, c1, c2⟩ := ho1
  obtain ⟨f0, f1, f2⟩ := hf1
  cases hsk : seek t.data.toList with
  | none =>
    have HN : Hid (parseL s.data.toList = none) := by show _ = _; unfold parseL; rw [← HTL.out, hsk]
    have HS := Lib.hid hsk
    clear hsk
    go_wp2_with fail
    refine (CutSch_none t _ htz HE1.out HS.out).mono ?_
    rintro e w' ⟨rfl, n, rfl⟩
    go_wp2
    obtain ⟨q0, q1, q2⟩ := set3_org (W := w1.drewN n) (g := w.heap.size) c0 c1 c2 ⟨#[]⟩ ⟨#[]⟩ 0
    refine bodyPost_ret (v := .tuple #[.agg #[.string ⟨#[]⟩, .string ⟨#[]⟩, .int .i64 0], .int .i64 3]) (by simp [results, Tryd.results25, go_sem, q0, q1, q2]) rfl ?_
    exact ⟨by rw [HV.out, HN.out]; rfl, set3_below (below_drewN HB1.out n) (Nat.le_refl _) _ _ _⟩
  | some q =>
    obtain ⟨la, lb⟩ := q
    obtain ⟨a, ea⟩ : ∃ a : ByteArray, a.data.toList = la := ⟨mk la, mk_data la⟩
    obtain ⟨b, eb⟩ : ∃ b : ByteArray, b.data.toList = lb := ⟨mk lb, mk_data lb⟩
    subst ea eb
    have hlen := congrArg List.length (seek_eq _ _ _ hsk)
    simp only [List.length_append, List.length_cons, List.length_nil, Array.length_toList, ByteArray.size_data] at hlen
    have HL : Hid (parseL s.data.toList = if checkL a.data.toList (split1 58 b.data.toList).1 (portAt a.data.toList (split1 58 b.data.toList).2) then some (a.data.toList, (split1 58 b.data.toList).1, portAt a.data.toList (split1 58 b.data.toList).2) else none) := by
      show _ = _; unfold parseL; rw [← HTL.out, hsk]
    have HS := Lib.hid hsk
    clear hsk
    obtain ⟨d, hd⟩ : ∃ d, d = defL a.data.toList := ⟨_, rfl⟩
    have HD := Lib.hid hd
    clear hd
    rcases at_cases 58 b.data.toList with hn | ⟨lx, ly, em, hn⟩
    · have HP : Hid (parseL s.data.toList = if checkL a.data.toList b.data.toList d then some (a.data.toList, b.data.toList, d) else none) := by
        show _ = _; rw [HL.out, split1_none 58 _ hn]; rw [HD.out]; rfl
      have HN := Lib.hid hn
      clear hn
      go_wp2_with fail
      refine (CutSch_some t _ a b htz HE1.out HS.out).mono ?_
      rintro e w' ⟨rfl, n, rfl⟩
      go_wp2_with fail
      refine (Cut_no b 58 _ (by unfold maxLen; omega) HN.out).mono ?_
      rintro e wc ⟨rfl, n2, hwc⟩
      have hs2 : w.heap.size < wc.heap.size := by rw [hwc]; exact block_of_cell c0
      have hz2 : OrgAt wc w.heap.size ⟨#[]⟩ ⟨#[]⟩ 0 := by rw [hwc]; exact ⟨c0, c1, c2⟩
      have hf2 : Own3 wc w.heap.size := by rw [hwc]; exact ⟨f0, f1, f2⟩
      have HBc : Hid (Below w.heap.size w wc) := by rw [hwc]; exact below_drewN (below_drewN HB1.out n) n2
      clear hwc c0 c1 c2 f0 f1 f2
      have HZ := Lib.hid hz2
      have HF := Lib.hid hf2
      clear hz2 hf2
      go_wp2_with fail
      refine (Default_any _ _).mono ?_
      rintro e w' ⟨rfl, rfl⟩
      rw [← HD.out]
      go_wp2_with fail
      refine (Check_any a b d _ (by unfold maxLen; omega)).mono ?_
      rintro e w2 ⟨rfl, hb⟩
      have ho1 : OrgAt w2 wc.heap.size a b d := OrgAt.below (OrgAt.new wc a b d 25) hb (by simp)
      have hz2 : OrgAt w2 w.heap.size ⟨#[]⟩ ⟨#[]⟩ 0 := OrgAt.below (OrgAt.below (B := wc.heap.size) (W := wc) HZ.out ((Below.refl _ _).alloc (Nat.le_refl _) _) hs2) hb (by simp; omega)
      have hf2 : Own3 w2 w.heap.size := Own3.below (Own3.below (B := wc.heap.size) (W := wc) HF.out ((Below.refl _ _).alloc (Nat.le_refl _) _) hs2) hb (by simp; omega)
      have HB2 : Hid (Below w.heap.size w w2) := (HBc.out.alloc HBc.out.size _).trans (hb.mono (by simp; omega))
      clear hb
      obtain ⟨c0, c1, c2⟩ := hz2
      obtain ⟨f0, f1, f2⟩ := hf2
      obtain ⟨k0, k1, k2⟩ := ho1
      cases hc : checkL a.data.toList b.data.toList d
      · have HC := Lib.hid hc
        clear hc
        go_wp2
        obtain ⟨q0, q1, q2⟩ := set3_org (W := w2) (g := w.heap.size) c0 c1 c2 ⟨#[]⟩ ⟨#[]⟩ 0
        refine bodyPost_ret (v := .tuple #[.agg #[.string ⟨#[]⟩, .string ⟨#[]⟩, .int .i64 0], .int .i64 3]) (by simp [results, Tryd.results25, go_sem, q0, q1, q2]) rfl ?_
        exact ⟨by rw [HV.out, HP.out, HC.out]; rfl, set3_below HB2.out (Nat.le_refl _) _ _ _⟩
      · have HC := Lib.hid hc
        clear hc
        go_wp2
        obtain ⟨q0, q1, q2⟩ := set3_org (W := w2) (g := w.heap.size) c0 c1 c2 a b d
        refine bodyPost_ret (v := .tuple #[.agg #[.string a, .string b, .int .i64 d], .int .i64 0]) (by simp [results, Tryd.results25, go_sem, q0, q1, q2]) rfl ?_
        exact ⟨by rw [HV.out, HP.out, HC.out]; simp only [if_true, orgV, mk_eq], set3_below HB2.out (Nat.le_refl _) _ _ _⟩
    · obtain ⟨x, ex⟩ : ∃ x : ByteArray, x.data.toList = lx := ⟨mk lx, mk_data lx⟩
      obtain ⟨y, ey⟩ : ∃ y : ByteArray, y.data.toList = ly := ⟨mk ly, mk_data ly⟩
      subst ex ey
      have hlen2 := congrArg List.length em
      simp only [List.length_append, List.length_cons, Array.length_toList, ByteArray.size_data] at hlen2
      obtain ⟨pt, hpt⟩ : ∃ pt : Int, pt = (portL y.data.toList : Int) := ⟨_, rfl⟩
      have HPT := Lib.hid hpt
      have HP : Hid (parseL s.data.toList = if checkL a.data.toList x.data.toList pt then some (a.data.toList, x.data.toList, pt) else none) := by
        show _ = _; rw [HL.out, em, split1_at 58 _ _ hn, hpt]; rfl
      clear hpt
      have HN := Lib.hid hn
      have HM := Lib.hid em
      clear hn em
      go_wp2_with fail
      refine (CutSch_some t _ a b htz HE1.out HS.out).mono ?_
      rintro e w' ⟨rfl, n, rfl⟩
      go_wp2_with fail
      refine (Cut_yes b x.data.toList y.data.toList 58 _ (by unfold maxLen; omega) HM.out HN.out).mono ?_
      rintro e wc ⟨rfl, n2, hwc⟩
      have hs2 : w.heap.size < wc.heap.size := by rw [hwc]; exact block_of_cell c0
      have hz2 : OrgAt wc w.heap.size ⟨#[]⟩ ⟨#[]⟩ 0 := by rw [hwc]; exact ⟨c0, c1, c2⟩
      have hf2 : Own3 wc w.heap.size := by rw [hwc]; exact ⟨f0, f1, f2⟩
      have HBc : Hid (Below w.heap.size w wc) := by rw [hwc]; exact below_drewN (below_drewN HB1.out n) n2
      clear hwc c0 c1 c2 f0 f1 f2
      have HZ := Lib.hid hz2
      have HF := Lib.hid hf2
      clear hz2 hf2
      rw [show (⟨x.data.toList.toArray⟩ : ByteArray) = x from Lib.mk_data x, show (⟨y.data.toList.toArray⟩ : ByteArray) = y from Lib.mk_data y]
      go_wp2_with fail
      refine (Default_any _ _).mono ?_
      rintro e w' ⟨rfl, rfl⟩
      rw [← HD.out]
      go_wp2_with fail
      refine (portOf_any y _ (by unfold maxLen; omega)).mono ?_
      rintro e w' ⟨rfl, rfl⟩
      rw [← HPT.out]
      go_wp2_with fail
      refine (Check_any a x pt _ (by unfold maxLen; omega)).mono ?_
      rintro e w2 ⟨rfl, hb⟩
      have ho1 : OrgAt w2 wc.heap.size a x pt := OrgAt.below (OrgAt.new wc a x pt 25) hb (by simp)
      have hz2 : OrgAt w2 w.heap.size ⟨#[]⟩ ⟨#[]⟩ 0 := OrgAt.below (OrgAt.below (B := wc.heap.size) (W := wc) HZ.out ((Below.refl _ _).alloc (Nat.le_refl _) _) hs2) hb (by simp; omega)
      have hf2 : Own3 w2 w.heap.size := Own3.below (Own3.below (B := wc.heap.size) (W := wc) HF.out ((Below.refl _ _).alloc (Nat.le_refl _) _) hs2) hb (by simp; omega)
      have HB2 : Hid (Below w.heap.size w w2) := (HBc.out.alloc HBc.out.size _).trans (hb.mono (by simp; omega))
      clear hb
      obtain ⟨c0, c1, c2⟩ := hz2
      obtain ⟨f0, f1, f2⟩ := hf2
      obtain ⟨k0, k1, k2⟩ := ho1
      cases hc : checkL a.data.toList x.data.toList pt
      · have HC := Lib.hid hc
        clear hc
        go_wp2
        obtain ⟨q0, q1, q2⟩ := set3_org (W := w2) (g := w.heap.size) c0 c1 c2 ⟨#[]⟩ ⟨#[]⟩ 0
        refine bodyPost_ret (v := .tuple #[.agg #[.string ⟨#[]⟩, .string ⟨#[]⟩, .int .i64 0], .int .i64 3]) (by simp [results, Tryd.results25, go_sem, q0, q1, q2]) rfl ?_
        exact ⟨by rw [HV.out, HP.out, HC.out]; rfl, set3_below HB2.out (Nat.le_refl _) _ _ _⟩
      · have HC := Lib.hid hc
        clear hc
        go_wp2
        obtain ⟨q0, q1, q2⟩ := set3_org (W := w2) (g := w.heap.size) c0 c1 c2 a x pt
        refine bodyPost_ret (v := .tuple #[.agg #[.string a, .string x, .int .i64 pt], .int .i64 0]) (by simp [results, Tryd.results25, go_sem, q0, q1, q2]) rfl ?_
        exact ⟨by rw [HV.out, HP.out, HC.out]; simp only [if_true, orgV, mk_eq], set3_below HB2.out (Nat.le_refl _) _ _ _⟩
end Go.Proofs.YtfamllkmmiajoaaDoor
