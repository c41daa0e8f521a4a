/-
  The contract of the document's own Parse (layer 4), over this seat's program, by the same plain mathematics as target's; nothing that was there has turned. Conditions: the library's variables are as they are laid.
-/
import Derived.Test.YtfamllkmmiajoaaDoorHRefUrl
import Derived.Test.YtfamllkmmiajoaaDoorHParse
import Derived.Test.YtfamllkmmiajoaaDoorGRef4
namespace Go.Proofs.YtfamllkmmiajoaaDoor
open Go.RowKit

theorem split_take : ∀ l : List UInt8, l.takeWhile (notIn [35]) = (split1 35 l).1
  | [] => rfl
  | b :: l => by
    rw [List.takeWhile_cons, split1]
    by_cases h : b = 35
    · subst h; simp [notIn]
    · have : notIn [35] b = true := by simp [notIn, h]
      rw [if_pos this, if_neg h, split_take l]
theorem notIn_sq : notIn [47, 63] = nsq := by
  funext b
  unfold notIn
  rw [nsq_contains]; simp
theorem notIn_q : notIn [63] = nq := by
  funext b
  by_cases h : b = 63 <;> simp [notIn, nq, h]
theorem take_tw (P : UInt8 → Bool) : ∀ l : List UInt8, l.take (l.takeWhile P).length = l.takeWhile P
  | [] => rfl
  | b :: l => by
    rw [List.takeWhile_cons]
    by_cases h : P b = true
    · rw [if_pos h]; simp [take_tw P l]
    · rw [if_neg h]; rfl
theorem drop_tw (P : UInt8 → Bool) : ∀ l : List UInt8, l.drop (l.takeWhile P).length = l.dropWhile P
  | [] => rfl
  | b :: l => by
    rw [List.takeWhile_cons, List.dropWhile_cons]
    by_cases h : P b = true
    · rw [if_pos h, if_pos h]; simp [drop_tw P l]
    · rw [if_neg h, if_neg h]; rfl
theorem firstN_hash (l : List UInt8) : l.take (firstN (notIn [35]) l 0) = (split1 35 l).1 ∧ firstN (notIn [35]) l 0 ≤ l.length := by
  have h : firstN (notIn [35]) l 0 = (split1 35 l).1.length := by unfold firstN; rw [List.drop_zero, split_take]; omega
  refine ⟨?_, (firstN_le (Nat.zero_le _)).1⟩
  rw [h, ← split_take]; exact take_tw _ _
theorem first_as (s bar : ByteArray) (f : Nat) (n : Nat) (w : World) (hs : s.size ≤ 140737488355328) (hb : bar.size ≤ maxLen) (hf : f ≤ s.size) (hn : n = firstN (notIn bar.data.toList) s.data.toList f) :
    Calls Tryd.prog 31 #[.string s, .int .i64 (f : Int), .string bar] w fun e w' => e = .returned (.int .i64 (n : Int)) ∧ w = w' := by rw [hn]; exact first_any s bar f w hs hb hf
theorem behind_as (s : ByteArray) (k : Int) (w : World) (hs : s.size ≤ 140737488355328) (hk : k = behindV s.data.toList) :
    Calls Tryd.prog 23 #[.string s] w fun e w' => e = .returned (.int .i64 k) ∧ w = w' := by rw [hk]; exact refBehind_any s w hs
theorem drop_sch {l a b : List UInt8} (h : l = a ++ [58, 47, 47] ++ b) : l.drop (a.length + 3) = b := by
  rw [h, List.drop_left' (by simp)]
/-- the parts of a text by their places -/
structure Cuts (T : ByteArray) (a b : List UInt8) (e q : Nat) : Prop where
  n1 : e = firstN (notIn [47, 63]) T.data.toList (a.length + 3)
  n2 : q = firstN (notIn [63]) T.data.toList e
  le1 : a.length + 3 ≤ T.size
  le2 : e ≤ T.size
  le3 : q ≤ T.size
  le4 : e ≤ q
  x1 : T.extract 0 e = mk (headL a b)
  x2 : T.extract e q = mk ((b.dropWhile nsq).takeWhile nq)
  x3 : T.extract q T.size = mk ((b.dropWhile nsq).dropWhile nq)
theorem cuts_of (T : ByteArray) {a b : List UInt8} (h : seek T.data.toList = some (a, b)) : ∃ e q, Cuts T a b e q := by
  have es := seek_eq _ _ _ h
  have hl : T.data.toList.length = T.size := by simp
  have hlen : T.size = a.length + 3 + b.length := by have := congrArg List.length es; simp at this; omega
  have hd := drop_sch es
  have e1 : firstN (notIn [47, 63]) T.data.toList (a.length + 3) = a.length + 3 + (b.takeWhile nsq).length := by unfold firstN; rw [hd, notIn_sq]
  have hb := List.takeWhile_append_dropWhile (p := nsq) (l := b)
  have hbl := congrArg List.length hb
  rw [List.length_append] at hbl
  obtain ⟨t1, h1⟩ : ∃ t1, t1 = b.takeWhile nsq := ⟨_, rfl⟩
  obtain ⟨r, h2⟩ : ∃ r, r = b.dropWhile nsq := ⟨_, rfl⟩
  rw [← h1, ← h2] at hbl hb
  rw [← h1] at e1
  have es2 : T.data.toList = (a ++ [58, 47, 47] ++ t1) ++ r := by rw [es, ← hb]; simp
  have hde : T.data.toList.drop (a.length + 3 + t1.length) = r := by rw [es2, List.drop_left' (by simp; omega)]
  have e2 : firstN (notIn [63]) T.data.toList (a.length + 3 + t1.length) = a.length + 3 + t1.length + (r.takeWhile nq).length := by unfold firstN; rw [hde, notIn_q]
  have hr := congrArg List.length (List.takeWhile_append_dropWhile (p := nq) (l := r))
  rw [List.length_append] at hr
  refine ⟨a.length + 3 + t1.length, a.length + 3 + t1.length + (r.takeWhile nq).length, e1.symm, e2.symm, by omega, by omega, by omega, by omega, ?_, ?_, ?_⟩
  · rw [Lib.extract_eq, es2, headL, ← h1]
    simp only [Nat.sub_zero, List.drop_zero]
    rw [List.take_left' (by simp; omega)]; rfl
  · rw [Lib.extract_eq, hde, ← h2, show a.length + 3 + t1.length + (r.takeWhile nq).length - (a.length + 3 + t1.length) = (r.takeWhile nq).length by omega, take_tw]; rfl
  · rw [Lib.extract_eq, ← List.drop_drop, hde, drop_tw, ← h2, List.take_of_length_le (by omega)]; rfl
theorem UrlAt.put3 {W : World} {g : Nat} {s h pa q : ByteArray} {p : Int} (o : UrlAt W g s h p pa q) (x : ByteArray) : UrlAt (W.setCell ⟨g, 3, none⟩ (.string x)) g s h p x q :=
  ⟨cell_keep o.c0 (by decide), cell_keep o.c1 (by decide), cell_keep o.c2 (by decide), World.cell?_setCell_same _ _ _ o.c3, cell_keep o.c4 (by decide)⟩

set_option maxRecDepth 100000 in
set_option maxHeartbeats 16000000 in
theorem refTParse_any (s : ByteArray) (w : World) (hs : s.size ≤ maxLen) (he : Env w) :
    Calls Tryd.prog 14 #[.string s] w fun e w' => e = .returned (tgtV s.data.toList) ∧ Below w.heap.size w w' := by
  unfold maxLen at hs
  have hl : s.data.toList.length = s.size := by simp
  by_cases h512 : 512 < s.size
  · have HV := Lib.hid (tgtV_err (k := 4) (l := s.data.toList) (by rw [tgtL, if_pos (by rw [hl]; exact h512)]))
    clear hl
    go_enter Tryd.func14, Tryd.ntmps14
    go_wp2
    refine bodyPost_ret (v := .tuple #[.agg #[.string ⟨#[]⟩, .string ⟨#[]⟩, .int .i64 0, .string ⟨#[]⟩, .string ⟨#[]⟩], .int .i64 4]) (by simp [results, Tryd.results14, go_sem]) rfl ?_
    exact ⟨by rw [HV.out], (Below.refl _ _).alloc (Nat.le_refl _) _⟩
  have HTG : Hid (tgtL s.data.toList = textL (split1 35 s.data.toList).1) := by show _ = _; rw [tgtL, if_neg (by rw [hl]; exact h512)]
  have HP0 := Lib.hid (PAt.new he 27)
  have ⟨hfh1, hfh2⟩ := firstN_hash s.data.toList
  obtain ⟨n1, hn1⟩ : ∃ n1, n1 = firstN (notIn [35]) s.data.toList 0 := ⟨_, rfl⟩
  rw [← hn1] at hfh1 hfh2
  have hn1z : n1 ≤ s.size := by omega
  obtain ⟨t, ht⟩ : ∃ t, t = s.extract 0 n1 := ⟨_, rfl⟩
  have htl : t.data.toList = (split1 35 s.data.toList).1 := by rw [ht, Lib.extract_eq, ← hfh1]; simp
  have htz : t.size ≤ 512 := by
    have := congrArg List.length htl
    rw [← hfh1, List.length_take, hl] at this
    simp at this; omega
  have HT : Hid (tgtL s.data.toList = textL t.data.toList) := by show _ = _; rw [HTG.out, htl]
  have HN1 : Hid (n1 = firstN (notIn (ByteArray.mk #[35]).data.toList) s.data.toList 0) := hn1
  have HTX : Hid (t = s.extract 0 n1) := ht
  obtain ⟨kb, hkb⟩ : ∃ k, k = behindV t.data.toList := ⟨_, rfl⟩
  have HKB := Lib.hid hkb
  clear hn1 hfh1 hfh2 hl ht htl HTG he
  go_enter Tryd.func14, Tryd.ntmps14
  go_wp2_with fail
  refine (first_as s ⟨#[35]⟩ 0 n1 _ (by omega) (by decide) (Nat.zero_le _) HN1.out).mono ?_
  rintro e w1 ⟨rfl, hw1⟩
  have HP1 : Hid (PAt w w1) := by rw [← hw1]; exact HP0.out
  clear hw1 HP0
  go_wp2_with fail
  rw [← HTX.out]
  refine (behind_as t kb _ (by omega) HKB.out).mono ?_
  rintro e w' ⟨rfl, rfl⟩
  cases hsk : seek t.data.toList with
  | none =>
    have HV := Lib.hid (tgtV_err (k := 3) (l := s.data.toList) (by rw [HT.out]; unfold textL; rw [hsk]))
    have hk0 : kb < 0 := by rw [hkb, behindV, hsk]; decide
    clear hsk hkb
    obtain ⟨c0, c1, c2, c3, c4⟩ := HP1.out.res
    obtain ⟨f0, f1, f2, f3, f4⟩ := HP1.out.own
    go_wp2
    obtain ⟨q0, q1, q2, q3, q4⟩ := set5_url HP1.out.res ⟨#[]⟩ ⟨#[]⟩ 0 ⟨#[]⟩ ⟨#[]⟩
    unfold set5 at q0 q1 q2 q3 q4
    refine bodyPost_ret (v := .tuple #[.agg #[.string ⟨#[]⟩, .string ⟨#[]⟩, .int .i64 0, .string ⟨#[]⟩, .string ⟨#[]⟩], .int .i64 3]) (by simp [results, Tryd.results14, go_sem, q0, q1, q2, q3, q4]) rfl ?_
    exact ⟨by rw [HV.out], set5_below HP1.out.bel (Nat.le_refl _) _ _ _ _ _⟩
  | some qq =>
    obtain ⟨la, lb⟩ := qq
    have ⟨hz1, hz2⟩ := head_sub hsk
    have htl2 : t.data.toList.length = t.size := by simp
    obtain ⟨en, qn, hcuts⟩ := cuts_of t hsk
    obtain ⟨hd, ehd⟩ : ∃ hd, hd = mk (headL la lb) := ⟨_, rfl⟩
    obtain ⟨rs, ers⟩ : ∃ rs : List UInt8, rs = lb.dropWhile nsq := ⟨_, rfl⟩
    have hhz : hd.size ≤ 512 := by rw [ehd, mk_size]; omega
    have hrz : rs.length ≤ 512 := by rw [ers]; omega
    have hhl : hd.data.toList = headL la lb := by rw [ehd, mk_data]
    have HTX2 : Hid (tgtL s.data.toList = match parseL hd.data.toList with
        | none => (Url.zero, 3)
        | some (sc, h, p) => restL sc h p rs) := by show _ = _; rw [HT.out, hhl, ers]; unfold textL; rw [hsk]; rfl
    have hka : kb = (la.length : Int) := by rw [hkb, behindV, hsk]
    subst hka
    obtain ⟨pa, epa⟩ : ∃ pa, pa = mk (rs.takeWhile nq) := ⟨_, rfl⟩
    obtain ⟨qr, eqr⟩ : ∃ qr, qr = mk (rs.dropWhile nq) := ⟨_, rfl⟩
    have hpl : pa.data.toList = rs.takeWhile nq := by rw [epa, mk_data]
    have hql : qr.data.toList = rs.dropWhile nq := by rw [eqr, mk_data]
    have hqh : qr.data.toList = [] ∨ qr.data.toList.head? = some 63 := by rw [hql]; exact drop_nq rs
    have hsum : pa.size + qr.size = rs.length := by
      have := congrArg List.length (List.takeWhile_append_dropWhile (p := nq) (l := rs))
      rw [List.length_append, ← hpl, ← hql] at this
      simpa using this
    have hpz : pa.size ≤ 512 := by omega
    have hqz : qr.size ≤ 512 := by omega
    obtain ⟨c1, c2, c3, c4, c5, c6, c7, c8, c9⟩ := hcuts
    rw [← ers] at c8 c9
    rw [← ehd] at c7
    rw [← epa] at c8
    rw [← eqr] at c9
    have HN2 : Hid (en = firstN (notIn (ByteArray.mk #[47, 63]).data.toList) t.data.toList (la.length + 3)) := c1
    have HN3 : Hid (qn = firstN (notIn (ByteArray.mk #[63]).data.toList) t.data.toList en) := c2
    have hw3 : IntKind.i64.wrap ((la.length : Int) + 3) = ((la.length + 3 : Nat) : Int) := by rw [IntWalk.i64_in _ (by omega)]; omega
    have X1 := Lib.hid c7
    have X2 := Lib.hid c8
    have X3 := Lib.hid c9
    clear hsk hz1 hz2 htl2 ehd ers hhl HT hkb HKB c1 c2 c7 c8 c9 hsum epa eqr
    go_wp2_with fail
    refine (first_as t ⟨#[47, 63]⟩ (la.length + 3) en _ (by omega) (by decide) c3 HN2.out).mono ?_
    rintro e w' ⟨rfl, rfl⟩
    go_wp2_with fail
    rw [X1.out]
    refine (refParse_any hd _ (by unfold maxLen; omega)).mono ?_
    rintro e w3 ⟨rfl, hb3⟩
    have HP3 : Hid (PAt w w3) := HP1.out.next hb3
    clear hb3 HP1
    have HPV : Hid (parseV hd.data.toList = match parseL hd.data.toList with
      | some (a, b, p) => .tuple #[orgV a b p, .int .i64 0]
      | none => .tuple #[orgV [] [] 0, .int .i64 3]) := by show _ = _; rw [parseV, if_neg (by simp; omega)]; cases parseL hd.data.toList <;> rfl
    cases hpl2 : parseL hd.data.toList with
    | none =>
      rw [HPV.out, hpl2]
      have HV := Lib.hid (tgtV_err (k := 3) (l := s.data.toList) (by rw [HTX2.out, hpl2]))
      clear hpl2 HPV
      simp only [orgV]
      have HP4 := Lib.hid (HP3.out.alloc (.cells #[.string (mk []), .string (mk []), .int .i64 0] 25))
      obtain ⟨c0, c1, c2, c3, c4⟩ := HP4.out.res
      obtain ⟨f0, f1, f2, f3, f4⟩ := HP4.out.own
      go_wp2
      obtain ⟨q0, q1, q2, q3, q4⟩ := set5_url HP4.out.res ⟨#[]⟩ ⟨#[]⟩ 0 ⟨#[]⟩ ⟨#[]⟩
      unfold set5 at q0 q1 q2 q3 q4
      refine bodyPost_ret (v := .tuple #[.agg #[.string ⟨#[]⟩, .string ⟨#[]⟩, .int .i64 0, .string ⟨#[]⟩, .string ⟨#[]⟩], .int .i64 3]) (by simp [results, Tryd.results14, go_sem, q0, q1, q2, q3, q4]) rfl ?_
      exact ⟨by rw [HV.out], set5_below HP4.out.bel (Nat.le_refl _) _ _ _ _ _⟩
    | some oo =>
      obtain ⟨sc, ho, po⟩ := oo
      rw [HPV.out, hpl2]
      have HTR : Hid (tgtL s.data.toList = restL sc ho po rs) := by show _ = _; rw [HTX2.out, hpl2]
      have hck := parse_check hpl2
      clear HPV HTX2 hpl2
      simp only [orgV]
      obtain ⟨A, eA⟩ : ∃ A, A = mk sc := ⟨_, rfl⟩
      obtain ⟨H, eH⟩ : ∃ H, H = mk ho := ⟨_, rfl⟩
      rw [← eA, ← eH]
      have hHz : H.size ≤ 253 := by rw [eH, mk_size]; exact host_len (check_parts hck).2.1
      have HA : Hid (A.data.toList = sc) := by show _ = _; rw [eA, mk_data]
      have HH : Hid (H.data.toList = ho) := by show _ = _; rw [eH, mk_data]
      clear eA eH hck
      obtain ⟨w4, hw4⟩ : ∃ w4, w4 = w3.alloc (.cells #[.string A, .string H, .int .i64 po] 25) := ⟨_, rfl⟩
      obtain ⟨g1, hg1⟩ : ∃ g1, g1 = w3.heap.size := ⟨_, rfl⟩
      have HP4 : Hid (PAt w w4) := by rw [hw4]; exact HP3.out.alloc _
      have HO4 : Hid (OrgAt w4 g1 A H po) := by rw [hw4, hg1]; exact OrgAt.new w3 A H po 25
      obtain ⟨cl, ecl⟩ : ∃ cl, cl = mk (cleanL pa.data.toList) := ⟨_, rfl⟩
      have hcz : cl.size ≤ 513 := by rw [ecl, mk_size]; have := clean_len pa.data.toList; rw [show pa.data.toList.length = pa.size by simp] at this; omega
      have HR : Hid (tgtL s.data.toList = if (freeL noPathL pa.data.toList && freeL noQueryL qr.data.toList) = false then (Url.zero, 3)
          else if 512 < (urlOf A H po cl qr).len then (Url.zero, 4) else (urlOf A H po cl qr, 0)) := by
        show _ = _
        have e : (⟨sc, ho, po, cleanL (rs.takeWhile nq), rs.dropWhile nq⟩ : Url) = urlOf A H po cl qr := by
          unfold urlOf; rw [HA.out, HH.out, hql, ecl, mk_data, hpl]
        rw [HTR.out, hpl, hql]
        unfold restL
        rw [e]
      have HCL := Lib.hid ecl
      have HQS : Hid ((qr.data.toList.take 1).all (freeB noQueryL) = true) := by
        show _ = _
        rcases hqh with h | h
        · rw [h]; rfl
        · cases hx : qr.data.toList with
          | nil => rfl
          | cons x r => rw [hx] at h; simp at h; subst h; rfl
      clear hpl hql ecl hqh HTR
      go_wp2_with fail
      refine (first_as t ⟨#[63]⟩ en qn _ (by omega) (by decide) c4 HN3.out).mono ?_
      rintro e wq ⟨rfl, hwq⟩
      have HP4q : Hid (PAt w wq) := by rw [← hwq]; have := HP4.out; rw [hw4] at this; exact this
      have HO4q : Hid (OrgAt wq g1 A H po) := by rw [← hwq]; have := HO4.out; rw [hw4] at this; exact this
      rw [← hg1]
      clear hwq hw4 hg1 HP4 HO4
      go_wp2_with fail
      have x2 := X2.out
      have x3 := X3.out
      refine mix_start (fun W => OrgAt W g1 A H po) (by kernel_rfl) ?_
      have hne : Nonempty (Held (fun W => OrgAt W g1 A H po)) := ⟨⟨_, HO4q.out⟩⟩
      have hx0 : ∀ z : Held (fun W => OrgAt W g1 A H po), z.w.cell? ⟨g1, 0, none⟩ = some (.string A) := fun z => z.h.c0
      have hx1 : ∀ z : Held (fun W => OrgAt W g1 A H po), z.w.cell? ⟨g1, 1, none⟩ = some (.string H) := fun z => z.h.c1
      have hx2 : ∀ z : Held (fun W => OrgAt W g1 A H po), z.w.cell? ⟨g1, 2, none⟩ = some (.int .i64 po) := fun z => z.h.c2
      refine mix_seg [0, 1, 2, 3, 4, 5, 6, 7, 8] (by kernel_rfl) HO4q.out.drew ?_
      simp only [segOf, pickOps, pickOp]
      repeat (go_big_quiet_step (fail))
      refine wpQuiet_nil ?_
      clear x2 x3
      obtain ⟨w6, hw6⟩ : ∃ w6, w6 = wq.drew := ⟨_, rfl⟩
      have HP6 : Hid (PAt w w6) := by rw [hw6]; exact HP4q.out.drewN 1
      have HO6 : Hid (OrgAt w6 g1 A H po) := by rw [hw6]; exact HO4q.out.drew
      rw [← hw6]
      clear hw6
      refine mix_run 9 (by kernel_rfl) ?_
      simp only [segOf, pickOps, pickOp]
      go_wp2_with fail
      obtain ⟨g2, hg2⟩ : ∃ g2, g2 = w6.heap.size := ⟨_, rfl⟩
      obtain ⟨w8, hw8⟩ : ∃ w8, w8 = w6.alloc (.cells #[.string ⟨#[]⟩, .string ⟨#[]⟩, .int .i64 0, .string ⟨#[]⟩, .string ⟨#[]⟩] 27) := ⟨_, rfl⟩
      have HP8 : Hid (PAt w w8) := by rw [hw8]; exact HP6.out.alloc _
      have ho8 : OrgAt w8 g1 A H po := by rw [hw8]; exact OrgAt.below HO6.out ((Below.refl _ _).alloc (Nat.le_refl _) _) (OrgAt.lt HO6.out)
      have HU8 : Hid (UrlAt w8 g2 ⟨#[]⟩ ⟨#[]⟩ 0 ⟨#[]⟩ ⟨#[]⟩) := by rw [hw8, hg2]; exact UrlAt.new _ _ _ _ _ _ _
      have HW8 : Hid (Own5 w8 g2) := by rw [hw8, hg2]; exact Own5.new _ _ _
      have hgl : w.heap.size < g2 := by rw [hg2]; exact HP6.out.res.lt
      have hgn : g1 ≠ g2 := by rw [hg2]; have := OrgAt.lt HO6.out; omega
      rw [← hw8, ← hg2]
      clear hw8 hg2
      refine MixPost.normal ho8 ?_
      refine mix_run 10 (by kernel_rfl) ?_
      simp only [segOf, pickOps, pickOp]
      obtain ⟨b0, b1, b2, b3, b4⟩ := HU8.out
      obtain ⟨e0, e1, e2, e3, e4⟩ := HW8.out
      go_wp2_with fail
      have ho9 : OrgAt (set5 w8 g2 A H po pa qr) g1 A H po := OrgAt.set5 ho8 hgn _ _ _ _ _
      have HP9' := Lib.hid (HP8.out.set5 hgl A H po pa qr)
      have HU9' := Lib.hid (set5_url HU8.out A H po pa qr)
      have HW9' : Hid (Own5 (set5 w8 g2 A H po pa qr) g2) := ((((HW8.out.set _ _).set _ _).set _ _).set _ _).set _ _
      refine MixPost.normal ho9 ?_
      refine mix_done (by kernel_rfl) ?_
      obtain ⟨w9, hw9⟩ : ∃ w9, w9 = set5 w8 g2 A H po pa qr := ⟨_, rfl⟩
      have HP9 : Hid (PAt w w9) := by rw [hw9]; exact HP9'.out
      have HU9 : Hid (UrlAt w9 g2 A H po pa qr) := by rw [hw9]; exact HU9'.out
      have HW9 : Hid (Own5 w9 g2) := by rw [hw9]; exact HW9'.out
      have HO9 : Hid (OrgAt w9 g1 A H po) := by rw [hw9]; exact ho9
      unfold set5 at hw9
      rw [← hw9]
      clear hw9 ho9 HP9' HU9' HW9' b0 b1 b2 b3 b4 e0 e1 e2 e3 e4
      obtain ⟨b0, b1, b2, b3, b4⟩ := HU9.out
      go_wp2
      go_loop [10] (fun i => ∃ k : Nat, k ≤ pa.size ∧ i = .int .i64 k ∧ (pa.data.toList.take k).all (freeB noPathL) = true) (fun i => pa.size - (intOf i).toNat)
      case atStart => exact ⟨0, Nat.zero_le _, rfl, rfl⟩
      case round =>
        obtain ⟨k, hk, rfl, ha⟩ := hrel
        have HA1 := Lib.hid ha
        clear ha
        by_cases hlt : k < pa.size
        · cases hc : freeB noPathL pa[k]
          · have HC := Lib.hid hc
            have HFF : Hid (freeL noPathL pa.data.toList = false) := Lk.all_no hlt hc
            clear hc
            go_wp2_with fail
            refine (pathByte_any _ _).mono ?_
            rintro e w' ⟨rfl, rfl⟩
            rw [HC.out]
            have HV := Lib.hid (tgtV_err (k := 3) (l := s.data.toList) (by rw [HR.out, if_pos (by rw [HFF.out]; rfl)]))
            obtain ⟨c0, c1, c2, c3, c4⟩ := HP9.out.res
            obtain ⟨f0, f1, f2, f3, f4⟩ := HP9.out.own
            go_wp2
            obtain ⟨q0, q1, q2, q3, q4⟩ := set5_url HP9.out.res ⟨#[]⟩ ⟨#[]⟩ 0 ⟨#[]⟩ ⟨#[]⟩
            unfold set5 at q0 q1 q2 q3 q4
            refine bodyPost_ret (v := .tuple #[.agg #[.string ⟨#[]⟩, .string ⟨#[]⟩, .int .i64 0, .string ⟨#[]⟩, .string ⟨#[]⟩], .int .i64 3]) (by simp [results, Tryd.results14, go_sem, q0, q1, q2, q3, q4]) rfl ?_
            exact ⟨by rw [HV.out], set5_below HP9.out.bel (Nat.le_refl _) _ _ _ _ _⟩
          · have HC := Lib.hid hc
            clear hc
            go_wp2_with fail
            refine (pathByte_any _ _).mono ?_
            rintro e w' ⟨rfl, rfl⟩
            rw [HC.out]
            go_wp2
            go_round
            case rel => exact ⟨k + 1, by omega, by go_num, Lk.all_step hlt HA1.out HC.out⟩
            case measure => simp [intOf]; omega
        · have HFP : Hid (freeL noPathL pa.data.toList = true) := by
            have := HA1.out
            rw [Lk.take_all pa k (by omega)] at this
            exact this
          go_wp2
          go_loop [11] (fun i => ∃ k : Nat, 1 ≤ k ∧ (k ≤ qr.size ∨ k = 1) ∧ i = .int .i64 k ∧ (qr.data.toList.take k).all (freeB noQueryL) = true) (fun i => qr.size - (intOf i).toNat)
          case atStart => exact ⟨1, Nat.le_refl _, .inr rfl, rfl, HQS.out⟩
          case round =>
            obtain ⟨k, hk1, hk2, rfl, ha⟩ := hrel
            have HA2 := Lib.hid ha
            clear ha
            by_cases hlt2 : k < qr.size
            · cases hc : freeB noQueryL qr[k]
              · have HC := Lib.hid hc
                have HFF : Hid (freeL noQueryL qr.data.toList = false) := Lk.all_no hlt2 hc
                clear hc
                go_wp2_with fail
                refine (queryByte_any _ _).mono ?_
                rintro e w' ⟨rfl, rfl⟩
                rw [HC.out]
                have HV := Lib.hid (tgtV_err (k := 3) (l := s.data.toList) (by rw [HR.out, if_pos (by rw [HFP.out, HFF.out]; simp)]))
                obtain ⟨c0, c1, c2, c3, c4⟩ := HP9.out.res
                obtain ⟨f0, f1, f2, f3, f4⟩ := HP9.out.own
                go_wp2
                obtain ⟨q0, q1, q2, q3, q4⟩ := set5_url HP9.out.res ⟨#[]⟩ ⟨#[]⟩ 0 ⟨#[]⟩ ⟨#[]⟩
                unfold set5 at q0 q1 q2 q3 q4
                refine bodyPost_ret (v := .tuple #[.agg #[.string ⟨#[]⟩, .string ⟨#[]⟩, .int .i64 0, .string ⟨#[]⟩, .string ⟨#[]⟩], .int .i64 3]) (by simp [results, Tryd.results14, go_sem, q0, q1, q2, q3, q4]) rfl ?_
                exact ⟨by rw [HV.out], set5_below HP9.out.bel (Nat.le_refl _) _ _ _ _ _⟩
              · have HC := Lib.hid hc
                clear hc
                go_wp2_with fail
                refine (queryByte_any _ _).mono ?_
                rintro e w' ⟨rfl, rfl⟩
                rw [HC.out]
                go_wp2
                go_round
                case rel => exact ⟨k + 1, by omega, .inl (by omega), by go_num, Lk.all_step hlt2 HA2.out HC.out⟩
                case measure => simp [intOf]; omega
            · have HFQ : Hid (freeL noQueryL qr.data.toList = true) := by
                have := HA2.out
                rw [Lk.take_all qr k (by omega)] at this
                exact this
              have HRR : Hid (tgtL s.data.toList = if 512 < (urlOf A H po cl qr).len then (Url.zero, 4) else (urlOf A H po cl qr, 0)) := by
                show _ = _; rw [HR.out, if_neg (by rw [HFP.out, HFQ.out]; simp)]
              obtain ⟨tt, htt⟩ : ∃ tt, tt = mk (showL A.data.toList H.data.toList po) := ⟨_, rfl⟩
              have httz : tt.size ≤ 270 := by rw [htt, mk_size]; exact show_len
              have HLN : Hid ((urlOf A H po cl qr).len = tt.size + cl.size + qr.size) := by
                show _ = _
                rw [htt, mk_size]
                unfold Url.len urlOf
                simp
              have HTT := Lib.hid htt
              clear htt HR HFP HFQ
              go_wp2_with fail
              refine (refClean_as pa cl _ (by omega) HCL.out).mono ?_
              rintro e wa ⟨rfl, hba⟩
              have HPa : Hid (PAt w wa) := HP9.out.next hba
              have HUa : Hid (UrlAt wa g2 A H po pa qr) := HU9.out.below hba HU9.out.lt
              have HWa : Hid (Own5 wa g2) := HW9.out.below hba HU9.out.lt
              have HOa : Hid (OrgAt wa g1 A H po) := HO9.out.below hba HO9.out.lt
              clear hba b0 b1 b2 b3 b4
              obtain ⟨b0, b1, b2, b3, b4⟩ := HUa.out
              obtain ⟨e0, e1, e2, e3, e4⟩ := HWa.out
              go_wp2_with fail
              obtain ⟨wb, hwb⟩ : ∃ wb, wb = wa.setCell ⟨g2, 3, none⟩ (.string cl) := ⟨_, rfl⟩
              have HPb : Hid (PAt w wb) := by rw [hwb]; exact HPa.out.set hgl
              have hFb : OrgAt wb g1 A H po ∧ UrlAt wb g2 A H po cl qr := by rw [hwb]; exact ⟨HOa.out.other hgn, HUa.out.put3 cl⟩
              rw [← hwb]
              clear hwb b0 b1 b2 b3 b4 e0 e1 e2 e3 e4
              refine mix_start (fun W => OrgAt W g1 A H po ∧ UrlAt W g2 A H po cl qr) (by kernel_rfl) ?_
              have hne2 : Nonempty (Held (fun W => OrgAt W g1 A H po ∧ UrlAt W g2 A H po cl qr)) := ⟨⟨_, hFb⟩⟩
              have hy0 : ∀ z : Held (fun W => OrgAt W g1 A H po ∧ UrlAt W g2 A H po cl qr), z.w.cell? ⟨g1, 0, none⟩ = some (.string A) := fun z => z.h.1.c0
              have hy1 : ∀ z : Held (fun W => OrgAt W g1 A H po ∧ UrlAt W g2 A H po cl qr), z.w.cell? ⟨g1, 1, none⟩ = some (.string H) := fun z => z.h.1.c1
              have hy2 : ∀ z : Held (fun W => OrgAt W g1 A H po ∧ UrlAt W g2 A H po cl qr), z.w.cell? ⟨g1, 2, none⟩ = some (.int .i64 po) := fun z => z.h.1.c2
              have hy3 : ∀ z : Held (fun W => OrgAt W g1 A H po ∧ UrlAt W g2 A H po cl qr), z.w.cell? ⟨g2, 3, none⟩ = some (.string cl) := fun z => z.h.2.c3
              have hy4 : ∀ z : Held (fun W => OrgAt W g1 A H po ∧ UrlAt W g2 A H po cl qr), z.w.cell? ⟨g2, 4, none⟩ = some (.string qr) := fun z => z.h.2.c4
              refine mix_seg [0, 3, 4, 5, 7, 8, 9] (by kernel_rfl) ⟨hFb.1.drew, hFb.2.drew⟩ ?_
              simp only [segOf, pickOps, pickOp]
              repeat (go_big_quiet_step (fail))
              refine wpQuiet_nil ?_
              refine mix_run 1 (by kernel_rfl) ?_
              simp only [segOf, pickOps, pickOp]
              go_wp2_with fail
              refine (refShow_as A H po tt _ (by unfold maxLen; omega) HTT.out).mono ?_
              rintro e wc ⟨rfl, hbc⟩
              have HPc : Hid (PAt w wc) := (HPb.out.drewN 1).next hbc
              have hFc : OrgAt wc g1 A H po ∧ UrlAt wc g2 A H po cl qr := ⟨hFb.1.drew.below hbc hFb.1.lt, hFb.2.drew.below hbc hFb.2.lt⟩
              clear hbc
              go_wp2_with fail
              refine MixPost.normal hFc ?_
              refine mix_seg [2, 6, 10, 11] (by kernel_rfl) hFc ?_
              simp only [segOf, pickOps, pickOp]
              repeat (go_big_quiet_step (fail))
              refine wpQuiet_nil ?_
              refine mix_done (by kernel_rfl) ?_
              obtain ⟨b0, b1, b2, b3, b4⟩ := hFc.2
              obtain ⟨c0, c1, c2, c3, c4⟩ := HPc.out.res
              obtain ⟨f0, f1, f2, f3, f4⟩ := HPc.out.own
              by_cases hln : 512 < tt.size + cl.size + qr.size
              · have HV := Lib.hid (tgtV_err (k := 4) (l := s.data.toList) (by rw [HRR.out, if_pos (by rw [HLN.out]; exact hln)]))
                have hdl : decide (512 < (tt.size : Int) + cl.size + qr.size) = true := by simp; omega
                go_wp2
                obtain ⟨q0, q1, q2, q3, q4⟩ := set5_url HPc.out.res ⟨#[]⟩ ⟨#[]⟩ 0 ⟨#[]⟩ ⟨#[]⟩
                unfold set5 at q0 q1 q2 q3 q4
                refine bodyPost_ret (v := .tuple #[.agg #[.string ⟨#[]⟩, .string ⟨#[]⟩, .int .i64 0, .string ⟨#[]⟩, .string ⟨#[]⟩], .int .i64 4]) (by simp [results, Tryd.results14, go_sem, q0, q1, q2, q3, q4]) rfl ?_
                exact ⟨by rw [HV.out], set5_below HPc.out.bel (Nat.le_refl _) _ _ _ _ _⟩
              · have HV : Hid (tgtV s.data.toList = .tuple #[.agg #[.string A, .string H, .int .i64 po, .string cl, .string qr], .int .i64 0]) := by
                  show _ = _
                  rw [tgtV, HRR.out, if_neg (by rw [HLN.out]; exact hln)]
                  show Value.tuple #[urlVal (urlOf A H po cl qr), _] = _
                  rw [urlVal_of]; rfl
                have hdl : decide (512 < (tt.size : Int) + cl.size + qr.size) = false := by simp; omega
                go_wp2
                obtain ⟨q0, q1, q2, q3, q4⟩ := set5_url HPc.out.res A H po cl qr
                unfold set5 at q0 q1 q2 q3 q4
                refine bodyPost_ret (v := .tuple #[.agg #[.string A, .string H, .int .i64 po, .string cl, .string qr], .int .i64 0]) (by simp [results, Tryd.results14, go_sem, q0, q1, q2, q3, q4]) rfl ?_
                exact ⟨by rw [HV.out], set5_below HPc.out.bel (Nat.le_refl _) _ _ _ _ _⟩
end Go.Proofs.YtfamllkmmiajoaaDoor
