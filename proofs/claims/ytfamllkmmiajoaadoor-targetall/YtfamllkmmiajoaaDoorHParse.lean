/-
  The contract of target's Parse, over this seat's program: it returns what the plain mathematics says, and nothing that was there has turned. Conditions: the library's variables are as they are laid.
-/
import Derived.Test.YtfamllkmmiajoaaDoorHUrl
namespace Go.Proofs.YtfamllkmmiajoaaDoor
open Go.RowKit

def urlVal (u : Url) : Value := urlV (mk u.sc) (mk u.h) u.p (mk u.pa) (mk u.q)
def tgtV (l : List UInt8) : Value := .tuple #[urlVal (tgtL l).1, .int .i64 (tgtL l).2]
theorem tgtV_err {l : List UInt8} {k : Int} (h : tgtL l = (Url.zero, k)) : tgtV l = .tuple #[.agg #[.string ⟨#[]⟩, .string ⟨#[]⟩, .int .i64 0, .string ⟨#[]⟩, .string ⟨#[]⟩], .int .i64 k] := by rw [tgtV, h]; rfl

/-- none of the five cells of block g is frozen -/
structure Own5 (W : World) (g : Nat) : Prop where
  f0 : W.frozen? ⟨g, 0, none⟩ = false
  f1 : W.frozen? ⟨g, 1, none⟩ = false
  f2 : W.frozen? ⟨g, 2, none⟩ = false
  f3 : W.frozen? ⟨g, 3, none⟩ = false
  f4 : W.frozen? ⟨g, 4, none⟩ = false
theorem Own5.below {W W' : World} {g B : Nat} (o : Own5 W g) (hb : Below B W W') (hg : g < B) : Own5 W' g :=
  ⟨(hb.frozen hg).trans o.f0, (hb.frozen hg).trans o.f1, (hb.frozen hg).trans o.f2, (hb.frozen hg).trans o.f3, (hb.frozen hg).trans o.f4⟩
theorem Own5.new (w : World) (cs : Array Value) (t : TypeId) : Own5 (w.alloc (.cells cs t)) w.heap.size := ⟨by simp, by simp, by simp, by simp, by simp⟩

def set5 (W : World) (g : Nat) (a b : ByteArray) (p : Int) (c d : ByteArray) : World :=
  ((((W.setCell ⟨g, 0, none⟩ (.string a)).setCell ⟨g, 1, none⟩ (.string b)).setCell ⟨g, 2, none⟩ (.int .i64 p)).setCell ⟨g, 3, none⟩ (.string c)).setCell ⟨g, 4, none⟩ (.string d)
theorem cell_keep {W : World} {g i j : Nat} {u v : Value} (h : W.cell? ⟨g, i, none⟩ = some u) (hij : j ≠ i) : (W.setCell ⟨g, j, none⟩ v).cell? ⟨g, i, none⟩ = some u := by
  rw [World.cell?_setCell_other _ _ _ _ (by intro h; injection h with _ h2; exact hij h2)]; exact h
theorem set5_url {W : World} {g : Nat} {s h : ByteArray} {n : Int} {x y : ByteArray} (o : UrlAt W g s h n x y) (a b : ByteArray) (p : Int) (c d : ByteArray) : UrlAt (set5 W g a b p c d) g a b p c d := by
  obtain ⟨c0, c1, c2, c3, c4⟩ := o
  have d1 := cell_keep (v := .string a) c1 (j := 0) (by decide)
  have d2 := cell_keep (v := .string b) (cell_keep (v := .string a) c2 (j := 0) (by decide)) (j := 1) (by decide)
  have d3 := cell_keep (v := .int .i64 p) (cell_keep (v := .string b) (cell_keep (v := .string a) c3 (j := 0) (by decide)) (j := 1) (by decide)) (j := 2) (by decide)
  have d4 := cell_keep (v := .string c) (cell_keep (v := .int .i64 p) (cell_keep (v := .string b) (cell_keep (v := .string a) c4 (j := 0) (by decide)) (j := 1) (by decide)) (j := 2) (by decide)) (j := 3) (by decide)
  refine ⟨?_, ?_, ?_, ?_, ?_⟩
  · exact cell_keep (cell_keep (cell_keep (cell_keep (World.cell?_setCell_same _ _ _ c0) (by decide)) (by decide)) (by decide)) (by decide)
  · exact cell_keep (cell_keep (cell_keep (World.cell?_setCell_same _ _ _ d1) (by decide)) (by decide)) (by decide)
  · exact cell_keep (cell_keep (World.cell?_setCell_same _ _ _ d2) (by decide)) (by decide)
  · exact cell_keep (World.cell?_setCell_same _ _ _ d3) (by decide)
  · exact World.cell?_setCell_same _ _ _ d4
theorem set5_below {B : Nat} {w W : World} {g : Nat} (h : Below B w W) (hg : B ≤ g) (a b : ByteArray) (p : Int) (c d : ByteArray) : Below B w (set5 W g a b p c d) :=
  ((((h.setCell hg _).setCell hg _).setCell hg _).setCell hg _).setCell hg _

/-- what holds all through the reading: block w.heap.size is the result's -/
structure PAt (w W : World) : Prop where
  bel : Below w.heap.size w W
  env0 : Env w
  res : UrlAt W w.heap.size ⟨#[]⟩ ⟨#[]⟩ 0 ⟨#[]⟩ ⟨#[]⟩
  own : Own5 W w.heap.size
theorem PAt.env {w W : World} (h : PAt w W) : Env W := h.env0.below h.bel
theorem PAt.next {w W W' : World} (h : PAt w W) (hb : Below W.heap.size W W') : PAt w W' :=
  ⟨h.bel.trans (hb.mono h.bel.size), h.env0, h.res.below hb h.res.lt, h.own.below hb h.res.lt⟩
theorem PAt.drewN {w W : World} (h : PAt w W) (n : Nat) : PAt w (W.drewN n) := h.next (below_drewN (Below.refl _ _) n)
theorem PAt.alloc {w W : World} (h : PAt w W) (o : Obj) : PAt w (W.alloc o) := h.next ((Below.refl _ _).alloc (Nat.le_refl _) o)
theorem PAt.new {w : World} (he : Env w) (t : TypeId) : PAt w (w.alloc (.cells #[.string ⟨#[]⟩, .string ⟨#[]⟩, .int .i64 0, .string ⟨#[]⟩, .string ⟨#[]⟩] t)) :=
  ⟨(Below.refl _ _).alloc (Nat.le_refl _) _, he, UrlAt.new _ _ _ _ _ _ _, Own5.new _ _ _⟩

theorem cell_other {W : World} {g g' i j : Nat} {v : Value} (hg : g ≠ g') : (W.setCell ⟨g', j, none⟩ v).cell? ⟨g, i, none⟩ = W.cell? ⟨g, i, none⟩ :=
  World.cell?_setCell_other _ _ _ _ (by intro h; injection h with h1 _; exact hg h1.symm)
theorem UrlAt.other {W : World} {g g' j : Nat} {s h pa q : ByteArray} {p : Int} {v : Value} (o : UrlAt W g s h p pa q) (hg : g ≠ g') : UrlAt (W.setCell ⟨g', j, none⟩ v) g s h p pa q :=
  ⟨(cell_other hg).trans o.c0, (cell_other hg).trans o.c1, (cell_other hg).trans o.c2, (cell_other hg).trans o.c3, (cell_other hg).trans o.c4⟩
theorem OrgAt.other {W : World} {g g' j : Nat} {s h : ByteArray} {p : Int} {v : Value} (o : OrgAt W g s h p) (hg : g ≠ g') : OrgAt (W.setCell ⟨g', j, none⟩ v) g s h p :=
  ⟨(cell_other hg).trans o.c0, (cell_other hg).trans o.c1, (cell_other hg).trans o.c2⟩
theorem Own5.set {W : World} {g : Nat} (o : Own5 W g) (a : Addr) (v : Value) : Own5 (W.setCell a v) g :=
  ⟨by rw [World.frozen?_setCell]; exact o.f0, by rw [World.frozen?_setCell]; exact o.f1, by rw [World.frozen?_setCell]; exact o.f2, by rw [World.frozen?_setCell]; exact o.f3, by rw [World.frozen?_setCell]; exact o.f4⟩
theorem PAt.set {w W : World} {g j : Nat} {v : Value} (h : PAt w W) (hg : w.heap.size < g) : PAt w (W.setCell ⟨g, j, none⟩ v) :=
  ⟨h.bel.setCell (by show w.heap.size ≤ g; omega) _, h.env0, h.res.other (by omega), h.own.set _ _⟩
theorem PAt.set5 {w W : World} {g : Nat} (h : PAt w W) (hg : w.heap.size < g) (a b : ByteArray) (p : Int) (c d : ByteArray) : PAt w (set5 W g a b p c d) := ((((h.set hg).set hg).set hg).set hg).set hg
theorem OrgAt.set5 {W : World} {g g' : Nat} {s h : ByteArray} {n : Int} (o : OrgAt W g s h n) (hg : g ≠ g') (a b : ByteArray) (p : Int) (c d : ByteArray) : OrgAt (set5 W g' a b p c d) g s h n := ((((o.other hg).other hg).other hg).other hg).other hg
theorem urlVal_of (s h : ByteArray) (p : Int) (pa q : ByteArray) : urlVal (urlOf s h p pa q) = urlV s h p pa q := by
  unfold urlVal urlOf urlV
  simp only [mk_eq]

theorem CutHash_any (s : ByteArray) (w : World) (hs : s.size ≤ maxLen) : ∃ (t q : ByteArray) (f : Bool),
    (Calls Tryd.prog 26 #[.string s, .string ⟨#[35]⟩] w fun e w' => e = .returned (.tuple #[.string t, .string q, .bool f]) ∧ ∃ n, w' = w.drewN n) ∧
    t.size ≤ s.size ∧ t.data.toList = (split1 35 s.data.toList).1 := by
  rcases at_cases 35 s.data.toList with h | ⟨a, b, e, h⟩
  · exact ⟨s, ⟨#[]⟩, false, Cut_no s 35 w hs h, Nat.le_refl _, by rw [split1_none 35 _ h]⟩
  · have hl : s.size = a.length + (b.length + 1) := by have := congrArg List.length e; simpa using this
    have ha : (⟨a.toArray⟩ : ByteArray).size = a.length := by show a.toArray.size = _; simp
    exact ⟨⟨a.toArray⟩, ⟨b.toArray⟩, true, Cut_yes s a b 35 w hs e h, by omega, by rw [e, split1_at 35 a b h]⟩

theorem head_sub {l a b : List UInt8} (h : seek l = some (a, b)) : (headL a b).length ≤ l.length ∧ (b.dropWhile nsq).length ≤ l.length := by
  have e := congrArg List.length (seek_eq _ _ _ h)
  have h1 := congrArg List.length (List.takeWhile_append_dropWhile (p := nsq) (l := b))
  rw [headL]
  simp only [List.length_append, List.length_cons, List.length_nil] at e h1 ⊢
  omega

set_option maxHeartbeats 4000000 in
theorem tParse_any (s : ByteArray) (w : World) (hs : s.size ≤ maxLen) (he : Env w) :
    Calls Tryd.prog 13 #[.string s] w fun e w' => e = .returned (tgtV s.data.toList) ∧ Below w.heap.size w w' := by
  have hs0 := hs
  unfold maxLen at hs
  have hl : s.data.toList.length = s.size := by simp
  by_cases h512 : 512 < s.size
  · have HV := Lib.hid (tgtV_err (k := 4) (l := s.data.toList) (by rw [tgtL, if_pos (by rw [hl]; exact h512)]))
    clear hl
    go_enter Tryd.func13, Tryd.ntmps13
    go_wp2
    refine bodyPost_ret (v := .tuple #[.agg #[.string ⟨#[]⟩, .string ⟨#[]⟩, .int .i64 0, .string ⟨#[]⟩, .string ⟨#[]⟩], .int .i64 4]) (by simp [results, Tryd.results13, go_sem]) rfl ?_
    exact ⟨by rw [HV.out], (Below.refl _ _).alloc (Nat.le_refl _) _⟩
  have HTG : Hid (tgtL s.data.toList = textL (split1 35 s.data.toList).1) := by show _ = _; rw [tgtL, if_neg (by rw [hl]; exact h512)]
  clear hl
  have HP0 := Lib.hid (PAt.new he 27)
  obtain ⟨t, x1, x2, hcut, htz, htl⟩ := CutHash_any s (w.alloc (.cells #[.string ⟨#[]⟩, .string ⟨#[]⟩, .int .i64 0, .string ⟨#[]⟩, .string ⟨#[]⟩] 27)) hs0
  have HC := Lib.hid hcut
  have HT : Hid (tgtL s.data.toList = textL t.data.toList) := by show _ = _; rw [HTG.out, htl]
  clear hcut htl he HTG
  go_enter Tryd.func13, Tryd.ntmps13
  go_wp2_with fail
  refine HC.out.mono ?_
  rintro e w1 ⟨rfl, n1, hw1⟩
  have HP1 : Hid (PAt w w1) := by rw [hw1]; exact HP0.out.drewN n1
  clear hw1 HP0 HC
  go_wp2_with fail
  refine (cutOrigin_any t _ (by omega) HP1.out.env).mono ?_
  rintro e w2 ⟨rfl, hb2⟩
  have HP2 : Hid (PAt w w2) := HP1.out.next hb2
  clear hb2
  unfold cutOV
  cases hsk : seek t.data.toList with
  | none =>
    have HV := Lib.hid (tgtV_err (k := 3) (l := s.data.toList) (by rw [HT.out]; unfold textL; rw [hsk]))
    clear hsk
    obtain ⟨c0, c1, c2, c3, c4⟩ := HP2.out.res
    obtain ⟨f0, f1, f2, f3, f4⟩ := HP2.out.own
    go_wp2
    obtain ⟨q0, q1, q2, q3, q4⟩ := set5_url HP2.out.res ⟨#[]⟩ ⟨#[]⟩ 0 ⟨#[]⟩ ⟨#[]⟩
    unfold set5 at q0 q1 q2 q3 q4
    refine bodyPost_ret (v := .tuple #[.agg #[.string ⟨#[]⟩, .string ⟨#[]⟩, .int .i64 0, .string ⟨#[]⟩, .string ⟨#[]⟩], .int .i64 3]) (by simp [results, Tryd.results13, go_sem, q0, q1, q2, q3, q4]) rfl ?_
    exact ⟨by rw [HV.out], set5_below HP2.out.bel (Nat.le_refl _) _ _ _ _ _⟩
  | some qq =>
    obtain ⟨la, lb⟩ := qq
    have ⟨hz1, hz2⟩ := head_sub hsk
    have htl2 : t.data.toList.length = t.size := by simp
    obtain ⟨hd, ehd⟩ : ∃ hd, hd = mk (headL la lb) := ⟨_, rfl⟩
    obtain ⟨rs, ers⟩ : ∃ rs, rs = mk (lb.dropWhile nsq) := ⟨_, rfl⟩
    have hhz : hd.size ≤ 512 := by rw [ehd, mk_size]; omega
    have hrz : rs.size ≤ 512 := by rw [ers, mk_size]; omega
    have hhl : hd.data.toList = headL la lb := by rw [ehd, mk_data]
    have hrl : rs.data.toList = lb.dropWhile nsq := by rw [ers, mk_data]
    have HTX : Hid (tgtL s.data.toList = match parseL hd.data.toList with
        | none => (Url.zero, 3)
        | some (sc, h, p) => restL sc h p rs.data.toList) := by show _ = _; rw [HT.out, hhl, hrl]; unfold textL; rw [hsk]; rfl
    have HEH := Lib.hid ehd
    have HER := Lib.hid ers
    clear hsk hz1 hz2 htl2 ehd ers hhl hrl HT
    simp only
    rw [← HEH.out, ← HER.out]
    go_wp2_with fail
    refine (Parse_any hd _ (by unfold maxLen; omega) HP2.out.env).mono ?_
    rintro e w3 ⟨rfl, hb3⟩
    have HP3 : Hid (PAt w w3) := HP2.out.next hb3
    clear hb3
    have HPV : Hid (parseV hd.data.toList = match parseL hd.data.toList with
      | some (a, b, p) => .tuple #[orgV a b p, .int .i64 0]
      | none => .tuple #[orgV [] [] 0, .int .i64 3]) := by show _ = _; rw [parseV, if_neg (by simp; omega)]; cases parseL hd.data.toList <;> rfl
    cases hpl : parseL hd.data.toList with
    | none =>
      rw [HPV.out, hpl]
      have HV := Lib.hid (tgtV_err (k := 3) (l := s.data.toList) (by rw [HTX.out, hpl]))
      clear hpl HPV
      simp only [orgV]
      have HP4 := Lib.hid (HP3.out.alloc (.cells #[.string (mk []), .string (mk []), .int .i64 0] 25))
      obtain ⟨c0, c1, c2, c3, c4⟩ := HP4.out.res
      obtain ⟨f0, f1, f2, f3, f4⟩ := HP4.out.own
      go_wp2
      obtain ⟨q0, q1, q2, q3, q4⟩ := set5_url HP4.out.res ⟨#[]⟩ ⟨#[]⟩ 0 ⟨#[]⟩ ⟨#[]⟩
      unfold set5 at q0 q1 q2 q3 q4
      refine bodyPost_ret (v := .tuple #[.agg #[.string ⟨#[]⟩, .string ⟨#[]⟩, .int .i64 0, .string ⟨#[]⟩, .string ⟨#[]⟩], .int .i64 3]) (by simp [results, Tryd.results13, go_sem, q0, q1, q2, q3, q4]) rfl ?_
      exact ⟨by rw [HV.out], set5_below HP4.out.bel (Nat.le_refl _) _ _ _ _ _⟩
    | some oo =>
      obtain ⟨sc, ho, po⟩ := oo
      rw [HPV.out, hpl]
      have HTR : Hid (tgtL s.data.toList = restL sc ho po rs.data.toList) := by show _ = _; rw [HTX.out, hpl]
      have hck := parse_check hpl
      clear HPV HTX hpl
      simp only [orgV]
      obtain ⟨A, eA⟩ : ∃ A, A = mk sc := ⟨_, rfl⟩
      obtain ⟨H, eH⟩ : ∃ H, H = mk ho := ⟨_, rfl⟩
      rw [← eA, ← eH]
      have hHz : H.size ≤ 253 := by rw [eH, mk_size]; exact host_len (check_parts hck).2.1
      have HA : Hid (A.data.toList = sc) := by show _ = _; rw [eA, mk_data]
      have HH : Hid (H.data.toList = ho) := by show _ = _; rw [eH, mk_data]
      clear eA eH hck
      have HP4 := Lib.hid (HP3.out.alloc (.cells #[.string A, .string H, .int .i64 po] 25))
      have HO4 := Lib.hid (OrgAt.new w3 A H po 25)
      obtain ⟨pa, epa⟩ : ∃ pa, pa = mk (rs.data.toList.takeWhile nq) := ⟨_, rfl⟩
      obtain ⟨qr, eqr⟩ : ∃ qr, qr = mk (rs.data.toList.dropWhile nq) := ⟨_, rfl⟩
      have hpl : pa.data.toList = rs.data.toList.takeWhile nq := by rw [epa, mk_data]
      have hql : qr.data.toList = rs.data.toList.dropWhile nq := by rw [eqr, mk_data]
      have hsum : pa.size + qr.size = rs.size := by
        have := congrArg List.length (List.takeWhile_append_dropWhile (p := nq) (l := rs.data.toList))
        rw [List.length_append, ← hpl, ← hql] at this
        simpa using this
      have hpz : pa.size ≤ 512 := by omega
      have hqz : qr.size ≤ 512 := by omega
      obtain ⟨cl, ecl⟩ : ∃ cl, cl = mk (cleanL pa.data.toList) := ⟨_, rfl⟩
      have hcz : cl.size ≤ 513 := by rw [ecl, mk_size]; have := clean_len pa.data.toList; rw [show pa.data.toList.length = pa.size by simp] at this; omega
      have HR : Hid (restL sc ho po rs.data.toList = if (freeL noPathL pa.data.toList && freeL noQueryL qr.data.toList) = false then (Url.zero, 3)
          else if 512 < (urlOf A H po cl qr).len then (Url.zero, 4) else (urlOf A H po cl qr, 0)) := by
        show _ = _
        have e : (⟨sc, ho, po, cleanL (rs.data.toList.takeWhile nq), rs.data.toList.dropWhile nq⟩ : Url) = urlOf A H po cl qr := by
          unfold urlOf; rw [HA.out, HH.out, hql, ecl, mk_data, hpl]
        rw [hpl, hql]
        unfold restL
        rw [e]
      have HCL := Lib.hid ecl
      have HPE := Lib.hid epa
      have HQE := Lib.hid eqr
      clear hsum hpl hql epa eqr ecl
      go_wp2_with fail
      refine (cutQuery_any rs _).mono ?_
      rintro e w5 ⟨rfl, n5, hw5⟩
      rw [← HPE.out, ← HQE.out]
      obtain ⟨g1, hg1⟩ : ∃ g1, g1 = w3.heap.size := ⟨_, rfl⟩
      have HP5 : Hid (PAt w w5) := by rw [hw5]; exact HP4.out.drewN n5
      have HO5 : Hid (OrgAt w5 g1 A H po) := by rw [hw5, hg1]; exact ⟨HO4.out.c0, HO4.out.c1, HO4.out.c2⟩
      rw [← hg1]
      clear hw5 hg1 HP4 HO4
      go_wp2_with fail
      refine (isFree_any pa _ _ (by unfold maxLen; omega)).mono ?_
      rintro e w' ⟨rfl, rfl⟩
      cases hf1 : freeL noPathL pa.data.toList
      · have HF1 : Hid (freeL (ByteArray.mk #[34, 35, 60, 62, 63, 92, 94, 96, 123, 124, 125]).data.toList pa.data.toList = false) := hf1
        have HV := Lib.hid (tgtV_err (k := 3) (l := s.data.toList) (by rw [HTR.out, HR.out, hf1]; rfl))
        clear hf1
        rw [HF1.out]
        obtain ⟨c0, c1, c2, c3, c4⟩ := HP5.out.res
        obtain ⟨f0, f1, f2, f3, f4⟩ := HP5.out.own
        go_wp2
        obtain ⟨q0, q1, q2, q3, q4⟩ := set5_url HP5.out.res ⟨#[]⟩ ⟨#[]⟩ 0 ⟨#[]⟩ ⟨#[]⟩
        unfold set5 at q0 q1 q2 q3 q4
        refine bodyPost_ret (v := .tuple #[.agg #[.string ⟨#[]⟩, .string ⟨#[]⟩, .int .i64 0, .string ⟨#[]⟩, .string ⟨#[]⟩], .int .i64 3]) (by simp [results, Tryd.results13, go_sem, q0, q1, q2, q3, q4]) rfl ?_
        exact ⟨by rw [HV.out], set5_below HP5.out.bel (Nat.le_refl _) _ _ _ _ _⟩
      have HF1 : Hid (freeL (ByteArray.mk #[34, 35, 60, 62, 63, 92, 94, 96, 123, 124, 125]).data.toList pa.data.toList = true) := hf1
      have HF1' := Lib.hid hf1
      clear hf1
      rw [HF1.out]
      go_wp2_with fail
      refine (isFree_any qr _ _ (by unfold maxLen; omega)).mono ?_
      rintro e w' ⟨rfl, rfl⟩
      cases hf2 : freeL noQueryL qr.data.toList
      · have HF2 : Hid (freeL (ByteArray.mk #[34, 35, 60, 62]).data.toList qr.data.toList = false) := hf2
        have HV := Lib.hid (tgtV_err (k := 3) (l := s.data.toList) (by rw [HTR.out, HR.out, HF1'.out, hf2]; rfl))
        clear hf2
        rw [HF2.out]
        obtain ⟨c0, c1, c2, c3, c4⟩ := HP5.out.res
        obtain ⟨f0, f1, f2, f3, f4⟩ := HP5.out.own
        go_wp2
        obtain ⟨q0, q1, q2, q3, q4⟩ := set5_url HP5.out.res ⟨#[]⟩ ⟨#[]⟩ 0 ⟨#[]⟩ ⟨#[]⟩
        unfold set5 at q0 q1 q2 q3 q4
        refine bodyPost_ret (v := .tuple #[.agg #[.string ⟨#[]⟩, .string ⟨#[]⟩, .int .i64 0, .string ⟨#[]⟩, .string ⟨#[]⟩], .int .i64 3]) (by simp [results, Tryd.results13, go_sem, q0, q1, q2, q3, q4]) rfl ?_
        exact ⟨by rw [HV.out], set5_below HP5.out.bel (Nat.le_refl _) _ _ _ _ _⟩
      have HF2 : Hid (freeL (ByteArray.mk #[34, 35, 60, 62]).data.toList qr.data.toList = true) := hf2
      have HRR : Hid (tgtL s.data.toList = if 512 < (urlOf A H po cl qr).len then (Url.zero, 4) else (urlOf A H po cl qr, 0)) := by
        show _ = _; rw [HTR.out, HR.out, HF1'.out, hf2]; rfl
      clear hf2 HTR HR
      rw [HF2.out]
      go_wp2_with fail
      refine mix_start (fun W => OrgAt W g1 A H po) (by kernel_rfl) ?_
      have hne : Nonempty (Held (fun W => OrgAt W g1 A H po)) := ⟨⟨_, HO5.out⟩⟩
      have hx0 : ∀ z : Held (fun W => OrgAt W g1 A H po), z.w.cell? ⟨g1, 0, none⟩ = some (.string A) := fun z => z.h.c0
      have hx1 : ∀ z : Held (fun W => OrgAt W g1 A H po), z.w.cell? ⟨g1, 1, none⟩ = some (.string H) := fun z => z.h.c1
      have hx2 : ∀ z : Held (fun W => OrgAt W g1 A H po), z.w.cell? ⟨g1, 2, none⟩ = some (.int .i64 po) := fun z => z.h.c2
      refine mix_seg [0, 1, 3] (by kernel_rfl) HO5.out.drew ?_
      simp only [segOf, pickOps, pickOp]
      repeat (go_big_quiet_step (fail))
      refine wpQuiet_nil ?_
      obtain ⟨w6, hw6⟩ : ∃ w6, w6 = w5.drew := ⟨_, rfl⟩
      have HP6 : Hid (PAt w w6) := by rw [hw6]; exact HP5.out.drewN 1
      have HO6 : Hid (OrgAt w6 g1 A H po) := by rw [hw6]; exact HO5.out.drew
      rw [← hw6]
      clear hw6
      refine mix_several [2, 5] (by kernel_rfl) ?_
      intro i hi
      rcases List.mem_cons.1 hi with rfl | hi
      · simp only [segOf, pickOps, pickOp]
        go_wp2_with fail
        refine (Clean_as pa cl _ (by omega) HCL.out).mono ?_
        rintro e w7 ⟨rfl, hb7⟩
        have HP7 : Hid (PAt w w7) := HP6.out.next hb7
        have ho7 : OrgAt w7 g1 A H po := HO6.out.below hb7 HO6.out.lt
        clear hb7
        go_wp2_with fail
        refine MixPost.normal ho7 ?_
        refine mix_seg [4] (by kernel_rfl) ho7 ?_
        simp only [segOf, pickOps, pickOp]
        repeat (go_big_quiet_step (fail))
        refine wpQuiet_nil ?_
        refine mix_run 5 (by kernel_rfl) ?_
        simp only [segOf, pickOps, pickOp]
        go_wp2_with fail
        obtain ⟨g2, hg2⟩ : ∃ g2, g2 = w7.heap.size := ⟨_, rfl⟩
        obtain ⟨w8, hw8⟩ : ∃ w8, w8 = w7.alloc (.cells #[.string ⟨#[]⟩, .string ⟨#[]⟩, .int .i64 0, .string ⟨#[]⟩, .string ⟨#[]⟩] 27) := ⟨_, rfl⟩
        have HP8 : Hid (PAt w w8) := by rw [hw8]; exact HP7.out.alloc _
        have ho8 : OrgAt w8 g1 A H po := by rw [hw8]; exact OrgAt.below ho7 ((Below.refl _ _).alloc (Nat.le_refl _) _) (OrgAt.lt ho7)
        have HU8 : Hid (UrlAt w8 g2 ⟨#[]⟩ ⟨#[]⟩ 0 ⟨#[]⟩ ⟨#[]⟩) := by rw [hw8, hg2]; exact UrlAt.new _ _ _ _ _ _ _
        have HW8 : Hid (Own5 w8 g2) := by rw [hw8, hg2]; exact Own5.new _ _ _
        have hgl : w.heap.size < g2 := by rw [hg2]; exact HP7.out.res.lt
        have hgn : g1 ≠ g2 := by rw [hg2]; have := OrgAt.lt ho7; omega
        rw [← hw8, ← hg2]
        clear hw8 hg2
        refine MixPost.normal ho8 ?_
        refine mix_run 6 (by kernel_rfl) ?_
        simp only [segOf, pickOps, pickOp]
        obtain ⟨b0, b1, b2, b3, b4⟩ := HU8.out
        obtain ⟨e0, e1, e2, e3, e4⟩ := HW8.out
        go_wp2_with fail
        have ho9 : OrgAt (set5 w8 g2 A H po cl qr) g1 A H po := OrgAt.set5 ho8 hgn _ _ _ _ _
        have HP9' := Lib.hid (HP8.out.set5 hgl A H po cl qr)
        have HU9' := Lib.hid (set5_url HU8.out A H po cl qr)
        refine MixPost.normal ho9 ?_
        refine mix_done (by kernel_rfl) ?_
        obtain ⟨w9, hw9⟩ : ∃ w9, w9 = set5 w8 g2 A H po cl qr := ⟨_, rfl⟩
        have HP9 : Hid (PAt w w9) := by rw [hw9]; exact HP9'.out
        have HU9 : Hid (UrlAt w9 g2 A H po cl qr) := by rw [hw9]; exact HU9'.out
        unfold set5 at hw9
        rw [← hw9]
        clear hw9 ho9 HP9' HU9' b0 b1 b2 b3 b4 e0 e1 e2 e3 e4
        obtain ⟨b0, b1, b2, b3, b4⟩ := HU9.out
        go_wp2_with fail
        refine (fits_any A H po cl qr _ (by unfold maxLen; omega) (by omega) (by omega) HP9.out.env).mono ?_
        rintro e w10 ⟨rfl, hb10⟩
        have HP10 : Hid (PAt w w10) := HP9.out.next hb10
        have HU10 : Hid (UrlAt w10 g2 A H po cl qr) := HU9.out.below hb10 HU9.out.lt
        clear hb10 b0 b1 b2 b3 b4
        obtain ⟨c0, c1, c2, c3, c4⟩ := HP10.out.res
        obtain ⟨f0, f1, f2, f3, f4⟩ := HP10.out.own
        obtain ⟨b0, b1, b2, b3, b4⟩ := HU10.out
        cases hln : decide ((urlOf A H po cl qr).len ≤ 512)
        · have HV := Lib.hid (tgtV_err (k := 4) (l := s.data.toList) (by rw [HRR.out, if_pos (by have := of_decide_eq_false hln; omega)]))
          clear hln
          go_wp2
          obtain ⟨q0, q1, q2, q3, q4⟩ := set5_url HP10.out.res ⟨#[]⟩ ⟨#[]⟩ 0 ⟨#[]⟩ ⟨#[]⟩
          unfold set5 at q0 q1 q2 q3 q4
          refine bodyPost_ret (v := .tuple #[.agg #[.string ⟨#[]⟩, .string ⟨#[]⟩, .int .i64 0, .string ⟨#[]⟩, .string ⟨#[]⟩], .int .i64 4]) (by simp [results, Tryd.results13, go_sem, q0, q1, q2, q3, q4]) rfl ?_
          exact ⟨by rw [HV.out], set5_below HP10.out.bel (Nat.le_refl _) _ _ _ _ _⟩
        · have HV : Hid (tgtV s.data.toList = .tuple #[.agg #[.string A, .string H, .int .i64 po, .string cl, .string qr], .int .i64 0]) := by
            show _ = _
            rw [tgtV, HRR.out, if_neg (by have := of_decide_eq_true hln; omega)]
            show Value.tuple #[urlVal (urlOf A H po cl qr), _] = _
            rw [urlVal_of]; rfl
          clear hln
          go_wp2
          obtain ⟨q0, q1, q2, q3, q4⟩ := set5_url HP10.out.res A H po cl qr
          unfold set5 at q0 q1 q2 q3 q4
          refine bodyPost_ret (v := .tuple #[.agg #[.string A, .string H, .int .i64 po, .string cl, .string qr], .int .i64 0]) (by simp [results, Tryd.results13, go_sem, q0, q1, q2, q3, q4]) rfl ?_
          exact ⟨by rw [HV.out], set5_below HP10.out.bel (Nat.le_refl _) _ _ _ _ _⟩
      · obtain rfl : i = 5 := by simpa using hi
        simp only [segOf, pickOps, pickOp]
        go_wp2_with fail
        obtain ⟨g2, hg2⟩ : ∃ g2, g2 = w6.heap.size := ⟨_, rfl⟩
        obtain ⟨w7, hw7⟩ : ∃ w7, w7 = w6.alloc (.cells #[.string ⟨#[]⟩, .string ⟨#[]⟩, .int .i64 0, .string ⟨#[]⟩, .string ⟨#[]⟩] 27) := ⟨_, rfl⟩
        have HP7 : Hid (PAt w w7) := by rw [hw7]; exact HP6.out.alloc _
        have ho7 : OrgAt w7 g1 A H po := by rw [hw7]; exact OrgAt.below HO6.out ((Below.refl _ _).alloc (Nat.le_refl _) _) (OrgAt.lt HO6.out)
        have HU7 : Hid (UrlAt w7 g2 ⟨#[]⟩ ⟨#[]⟩ 0 ⟨#[]⟩ ⟨#[]⟩) := by rw [hw7, hg2]; exact UrlAt.new _ _ _ _ _ _ _
        have HW7 : Hid (Own5 w7 g2) := by rw [hw7, hg2]; exact Own5.new _ _ _
        have hgl : w.heap.size < g2 := by rw [hg2]; exact HP6.out.res.lt
        have hgn : g1 ≠ g2 := by rw [hg2]; have := OrgAt.lt HO6.out; omega
        rw [← hw7, ← hg2]
        clear hw7 hg2
        refine MixPost.normal ho7 ?_
        refine mix_run 2 (by kernel_rfl) ?_
        simp only [segOf, pickOps, pickOp]
        go_wp2_with fail
        refine (Clean_as pa cl _ (by omega) HCL.out).mono ?_
        rintro e w8 ⟨rfl, hb8⟩
        have HP8 : Hid (PAt w w8) := HP7.out.next hb8
        have HU8 : Hid (UrlAt w8 g2 ⟨#[]⟩ ⟨#[]⟩ 0 ⟨#[]⟩ ⟨#[]⟩) := HU7.out.below hb8 HU7.out.lt
        have HW8 : Hid (Own5 w8 g2) := HW7.out.below hb8 HU7.out.lt
        have ho8 : OrgAt w8 g1 A H po := OrgAt.below ho7 hb8 (OrgAt.lt ho7)
        clear hb8
        go_wp2_with fail
        refine MixPost.normal ho8 ?_
        refine mix_seg [4] (by kernel_rfl) ho8 ?_
        simp only [segOf, pickOps, pickOp]
        repeat (go_big_quiet_step (fail))
        refine wpQuiet_nil ?_
        refine mix_run 6 (by kernel_rfl) ?_
        simp only [segOf, pickOps, pickOp]
        obtain ⟨b0, b1, b2, b3, b4⟩ := HU8.out
        obtain ⟨e0, e1, e2, e3, e4⟩ := HW8.out
        go_wp2_with fail
        have ho9 : OrgAt (set5 w8 g2 A H po cl qr) g1 A H po := OrgAt.set5 ho8 hgn _ _ _ _ _
        have HP9' := Lib.hid (HP8.out.set5 hgl A H po cl qr)
        have HU9' := Lib.hid (set5_url HU8.out A H po cl qr)
        refine MixPost.normal ho9 ?_
        refine mix_done (by kernel_rfl) ?_
        obtain ⟨w9, hw9⟩ : ∃ w9, w9 = set5 w8 g2 A H po cl qr := ⟨_, rfl⟩
        have HP9 : Hid (PAt w w9) := by rw [hw9]; exact HP9'.out
        have HU9 : Hid (UrlAt w9 g2 A H po cl qr) := by rw [hw9]; exact HU9'.out
        unfold set5 at hw9
        rw [← hw9]
        clear hw9 ho9 HP9' HU9' b0 b1 b2 b3 b4 e0 e1 e2 e3 e4
        obtain ⟨b0, b1, b2, b3, b4⟩ := HU9.out
        go_wp2_with fail
        refine (fits_any A H po cl qr _ (by unfold maxLen; omega) (by omega) (by omega) HP9.out.env).mono ?_
        rintro e w10 ⟨rfl, hb10⟩
        have HP10 : Hid (PAt w w10) := HP9.out.next hb10
        have HU10 : Hid (UrlAt w10 g2 A H po cl qr) := HU9.out.below hb10 HU9.out.lt
        clear hb10 b0 b1 b2 b3 b4
        obtain ⟨c0, c1, c2, c3, c4⟩ := HP10.out.res
        obtain ⟨f0, f1, f2, f3, f4⟩ := HP10.out.own
        obtain ⟨b0, b1, b2, b3, b4⟩ := HU10.out
        cases hln : decide ((urlOf A H po cl qr).len ≤ 512)
        · have HV := Lib.hid (tgtV_err (k := 4) (l := s.data.toList) (by rw [HRR.out, if_pos (by have := of_decide_eq_false hln; omega)]))
          clear hln
          go_wp2
          obtain ⟨q0, q1, q2, q3, q4⟩ := set5_url HP10.out.res ⟨#[]⟩ ⟨#[]⟩ 0 ⟨#[]⟩ ⟨#[]⟩
          unfold set5 at q0 q1 q2 q3 q4
          refine bodyPost_ret (v := .tuple #[.agg #[.string ⟨#[]⟩, .string ⟨#[]⟩, .int .i64 0, .string ⟨#[]⟩, .string ⟨#[]⟩], .int .i64 4]) (by simp [results, Tryd.results13, go_sem, q0, q1, q2, q3, q4]) rfl ?_
          exact ⟨by rw [HV.out], set5_below HP10.out.bel (Nat.le_refl _) _ _ _ _ _⟩
        · have HV : Hid (tgtV s.data.toList = .tuple #[.agg #[.string A, .string H, .int .i64 po, .string cl, .string qr], .int .i64 0]) := by
            show _ = _
            rw [tgtV, HRR.out, if_neg (by have := of_decide_eq_true hln; omega)]
            show Value.tuple #[urlVal (urlOf A H po cl qr), _] = _
            rw [urlVal_of]; rfl
          clear hln
          go_wp2
          obtain ⟨q0, q1, q2, q3, q4⟩ := set5_url HP10.out.res A H po cl qr
          unfold set5 at q0 q1 q2 q3 q4
          refine bodyPost_ret (v := .tuple #[.agg #[.string A, .string H, .int .i64 po, .string cl, .string qr], .int .i64 0]) (by simp [results, Tryd.results13, go_sem, q0, q1, q2, q3, q4]) rfl ?_
          exact ⟨by rw [HV.out], set5_below HP10.out.bel (Nat.le_refl _) _ _ _ _ _⟩
end Go.Proofs.YtfamllkmmiajoaaDoor
