/-
  The contract of target's Clean, over this seat's program: it returns the path without its dot segments, and nothing that was there has turned. Conditions: the path has at most 100,000 bytes.
-/
import Derived.Test.YtfamllkmmiajoaaDoorHRow
namespace Go.Proofs.YtfamllkmmiajoaaDoor
open Go.RowKit

theorem trim_strip (l : List UInt8) : Lib.trimPrefix l [47] = stripS l := by
  cases l with
  | nil => rfl
  | cons b r =>
    by_cases h : b = 47
    · subst h; simp [Lib.trimPrefix, Lib.hasPrefix, stripS]
    · have : ((47 : UInt8) == b) = false := by rw [beq_eq_false_iff_ne]; exact Ne.symm h
      simp [Lib.trimPrefix, Lib.hasPrefix, stripS, List.isPrefixOf, this, h]
theorem TrimSl_as (s t : ByteArray) (w : World) (ht : t = mk (stripS s.data.toList)) :
    Calls Tryd.prog 36 #[.string s, .string ⟨#[47]⟩] w fun e w' => e = .returned (.string t) ∧ w = w' := by
  refine (Tryd.strings_TrimPrefix s ⟨#[47]⟩ w).mono ?_
  rintro e w' ⟨rfl, rfl⟩
  exact ⟨by rw [ht, ← trim_strip]; rfl, rfl⟩

/-- one round's cut at a slash -/
theorem CutSl_any (r : ByteArray) (w : World) (hs : r.size ≤ maxLen) : ∃ (p q : ByteArray) (f : Bool),
    (Calls Tryd.prog 26 #[.string r, .string ⟨#[47]⟩] w fun e w' => e = .returned (.tuple #[.string p, .string q, .bool f]) ∧ ∃ n, w' = w.drewN n) ∧
    p.size + (if f then q.size + 1 else 0) = r.size ∧ q.size ≤ r.size ∧ (f = true → q.size < r.size) ∧ noSl p.data.toList ∧
    parts 47 r.data.toList = p.data.toList :: (if f then parts 47 q.data.toList else []) := by
  rcases at_cases 47 r.data.toList with h | ⟨a, b, e, h⟩
  · exact ⟨r, ⟨#[]⟩, false, Cut_no r 47 w hs h, rfl, Nat.zero_le _, by simp, h, by rw [parts_none 47 _ h]; rfl⟩
  · have hl : r.size = a.length + (b.length + 1) := by have := congrArg List.length e; simpa using this
    have ha : (⟨a.toArray⟩ : ByteArray).size = a.length := by show a.toArray.size = _; simp
    have hb : (⟨b.toArray⟩ : ByteArray).size = b.length := by show b.toArray.size = _; simp
    refine ⟨⟨a.toArray⟩, ⟨b.toArray⟩, true, Cut_yes r a b 47 w hs e h, by simp only [if_true]; omega, by omega, fun _ => by omega, h, ?_⟩
    rw [e, parts_at 47 a b h]; rfl

/-- one more slash, one more text, behind a row -/
theorem kept_slash {w : World} {base : Nat} {v : Value} {l : List UInt8} (h : w.ownsRow base 5 1 v (l.length + 1) (l.map bv ++ [.int .u8 47])) : KeptAt w base v (l ++ [47]) := by
  unfold KeptAt
  rw [List.length_append, List.map_append]
  exact h
theorem kept_text {w : World} {base : Nat} {v : Value} {l : List UInt8} {s : ByteArray} (h : w.ownsRow base 5 1 v (l.length + s.size) (l.map bv ++ Lib.strCells s)) : KeptAt w base v (l ++ s.data.toList) := by
  unfold KeptAt
  rw [List.length_append, List.map_append, ← bv_bytes, show s.data.toList.length = s.size by simp]
  exact h
theorem kept_both {w : World} {base : Nat} {v : Value} {l : List UInt8} {s : ByteArray} (h : w.ownsRow base 5 1 v (l.length + 1 + s.size) (l.map bv ++ bv 47 :: Lib.strCells s)) : KeptAt w base v (l ++ 47 :: s.data.toList) := by
  have := kept_text (l := l ++ [47]) (s := s) (w := w) (base := base) (v := v) (by rw [List.length_append, List.map_append, List.append_assoc]; exact h)
  rw [List.append_assoc] at this
  exact this
theorem kept_back {w : World} {base : Nat} {v : Value} {l : List UInt8} (h : KeptAt w base v l) (h0 : l ≠ []) : (convert 59 9 v).run Tryd.prog w = .ok (.string (mk l)) w := by
  obtain ⟨A, cap, rfl, _, _, hc, _⟩ := h.view
  obtain ⟨ad, rfl, _⟩ := hc 0 (List.length_pos_iff.2 h0)
  exact run_convert_bytes_back w 59 9 5 ad cap l Tryd.underlying59 Tryd.underlying5 Tryd.underlying9 (fun j hj => by
    obtain ⟨ad', e, hcell⟩ := hc j hj
    injection e with e
    subst e
    exact hcell)

/-- what holds at the head of a round -/
structure CleanAt (w wr : World) (p : ByteArray) (v : Value) (acc : List (List UInt8)) (mo : Bool) (r : ByteArray) : Prop where
  row : KeptAt wr w.heap.size v (joinS acc)
  bel : Below w.heap.size w wr
  nos : ∀ t ∈ acc, noSl t
  len : (joinS acc).length + (if mo then r.size + 1 else 0) ≤ p.size + 1
  eqn : cleanL p.data.toList = joinS (if mo then keepL acc (parts 47 r.data.toList) else acc)

theorem join_dropLast_noSl {acc : List (List UInt8)} (h : ∀ t ∈ acc, noSl t) : ∀ t ∈ acc.dropLast, noSl t := fun t ht => h t (List.dropLast_subset _ ht)
theorem snoc_noSl {acc : List (List UInt8)} {s : List UInt8} (h : ∀ t ∈ acc, noSl t) (hs : noSl s) : ∀ t ∈ acc ++ [s], noSl t := by
  intro t ht
  rcases List.mem_append.1 ht with ht | ht
  · exact h t ht
  · simp at ht; subst ht; exact hs
theorem nil_noSl : noSl [] := by intro b hb; simp at hb

set_option maxHeartbeats 4000000 in
theorem Clean_any (p : ByteArray) (w : World) (hp : p.size ≤ 100000) :
    Calls Tryd.prog 15 #[.string p] w fun e w' => e = .returned (.string (mk (cleanL p.data.toList))) ∧ Below w.heap.size w w' := by
  obtain ⟨i0, hi, hz0, hz1, hz2⟩ := info_parts infoU8
  obtain ⟨c, hc⟩ : ∃ c : Nat, c = p.size + 1 := ⟨_, rfl⟩
  obtain ⟨wm, hmake, hmown, hmgr⟩ := run_make_own (P := Tryd.prog) w w.heap.size 59 5 i0 (.int .u8 0) 1 Tryd.underlying59 hi hz0 hz1 .i64 .i64 c (by rw [hz2]; omega) (by unfold maxLen; omega) (Nat.le_refl _)
  obtain ⟨t, ht⟩ : ∃ t, t = mk (stripS p.data.toList) := ⟨_, rfl⟩
  have htl : t.data.toList = stripS p.data.toList := by rw [ht, mk_data]
  have htz : t.size ≤ p.size := by
    have := strip_len p.data.toList
    rw [← htl] at this
    simpa using this
  have HT := Lib.hid ht
  have HTL := Lib.hid htl
  have HMO := Lib.hid hmown
  have HMB : Hid (Below w.heap.size w wm) := Below.grown (Below.refl _ _) hmgr (Nat.le_refl _) (fun k hk => by cases hk)
  clear ht htl hmown hmgr
  have hw1 : IntKind.i64.wrap ((p.size : Int) + 1) = (c : Int) := by rw [IntWalk.i64_in _ (by omega)]; omega
  clear hc
  go_enter Tryd.func15, Tryd.ntmps15
  go_wp2_with fail
  refine (TrimSl_as p t _ HT.out).mono ?_
  rintro e w' ⟨rfl, rfl⟩
  go_wp2
  clear hmake hw1
  go_loopw [3, 4, 5, 6, 7] (fun v s0 m _ _ wr => ∃ (r : ByteArray) (mo : Bool) (acc : List (List UInt8)), s0 = .string r ∧ m = .bool mo ∧ r.size ≤ p.size ∧ CleanAt w wr p v acc mo r)
    (fun _ s0 m _ _ _ => boolN m * (strSize s0 + 1))
  case atStart => exact ⟨t, true, [], rfl, rfl, htz, HMO.out, HMB.out, by simp, by simp [joinS]; omega, by rw [if_pos rfl, HTL.out]; rfl⟩
  case round =>
    obtain ⟨r, mo, acc, rfl, rfl, hr, hca⟩ := hrel
    have HCA := Lib.hid hca
    have hbs := hca.bel.size
    clear hca
    cases mo
    · have heq : cleanL p.data.toList = joinS acc := HCA.out.eqn
      have hcv := kept_back HCA.out.row (by rw [← heq]; intro h; have := clean_head p.data.toList; rw [h] at this; cases this)
      have HEQ := Lib.hid heq
      clear heq
      go_wp2
      go_ret
      exact ⟨ret_string (by rw [HEQ.out]), HCA.out.bel⟩
    · obtain ⟨x, q, f, hcut, hsz, hq1, hq2, hxn, hparts⟩ := CutSl_any r wr (by unfold maxLen; omega)
      have hlen := HCA.out.len
      rw [if_pos rfl] at hlen
      have hx1 : x.size ≤ r.size := by cases f <;> simp at hsz <;> omega
      have HQ := Lib.hid hq2
      have HC := Lib.hid hcut
      have HSZ := Lib.hid hsz
      have HXN := Lib.hid hxn
      have HEQ : Hid (cleanL p.data.toList = joinS (if f then keepL (stepL acc x.data.toList false) (parts 47 q.data.toList) else stepL acc x.data.toList true)) := by
        show _ = _
        rw [HCA.out.eqn, if_pos rfl, hparts]
        cases f
        · simp [keepL]
        · simp only [if_true, keepL]
          rw [show (parts 47 q.data.toList).isEmpty = false by cases h : parts 47 q.data.toList; exact absurd h (parts_ne _ _); rfl]
      clear hcut hsz hxn hparts hq2
      rcases dots_cases x.data.toList with hd | hd | hd
      · have HD := Lib.hid hd
        have HST : Hid (∀ b, stepL acc x.data.toList b = acc ++ [x.data.toList]) := by intro b; unfold stepL; rw [if_pos hd]
        clear hd
        go_wp2_with fail
        refine HC.out.mono ?_
        rintro e w' ⟨rfl, n, hwn⟩
        obtain ⟨wa, hwa⟩ : ∃ wa, wa = w' := ⟨_, rfl⟩
        subst hwa
        have HRA : Hid (KeptAt wa w.heap.size u3 (joinS acc)) := by rw [hwn]; exact HCA.out.row.drewN n
        have HBA : Hid (Below w.heap.size w wa) := by rw [hwn]; exact below_drewN HCA.out.bel n
        clear hwn
        go_wp2_with fail
        refine (dotsOf_any x _ (by unfold maxLen; omega)).mono ?_
        rintro e wb ⟨rfl, hb⟩
        rw [HD.out]
        have HRB : Hid (KeptAt wb w.heap.size u3 (joinS acc)) := HRA.out.below hb
        have HBB : Hid (Below w.heap.size w wb) := HBA.out.trans (hb.mono HBA.out.size)
        have hbs2 := HBB.out.size
        clear hb
        go_wp2_with (at_builtin; refine wpList_append_own _ rfl (.tmp 26) (.tmp 27) 59 rfl w.heap.size 5 i0 (.int .u8 0) 1 1 Tryd.underlying59 hi hz0 hz1 hz2 rfl (by decide) _ _ _ rfl (World.ownsRow.alloc (w := wb) HRB.out _) ⟨wb.heap.size, 0, none⟩ 1 1 [.int .u8 47] rfl rfl ?c1 ?c2 ?c3 ?c4 ?c5 ?_)
        case c1 => exact cell_one_new _ _ _
        case c2 => intro u hu; simp at hu; subst hu; rfl
        case c3 => unfold maxLen; omega
        case c4 => omega
        case c5 => simp; omega
        intro v1 w1 hown hgrow _
        have HR1 : Hid (KeptAt w1 w.heap.size v1 (joinS acc ++ [47])) := kept_slash hown
        have HB1 : Hid (Below w.heap.size w w1) := Below.grown (HBB.out.alloc HBB.out.size _) hgrow (by simp; omega) (fun k hk => (World.ownsRow.lt HRB.out k hk).1)
        have hs1 := HB1.out.size
        clear hown hgrow
        have hl1 : (joinS acc ++ [47]).length = (joinS acc).length + 1 := by simp
        go_wp2_with (at_builtin; refine Lib.wpList_append_own_string _ rfl (.tmp 29) (.tmp 30) 59 9 rfl w.heap.size 5 i0 Tryd.underlying59 Tryd.underlying9 hi hz0 hz1 hz2 _ _ _ rfl HR1.out x rfl ?c3 ?c4 ?c5 ?_)
        case c3 => unfold maxLen; omega
        case c4 => omega
        case c5 => omega
        intro v2 w2 hown hgrow _
        have HR2 : Hid (KeptAt w2 w.heap.size v2 (joinS (acc ++ [x.data.toList]))) := by
          rw [joinS_snoc]; exact kept_both hown
        have HB2 : Hid (Below w.heap.size w w2) := Below.grown HB1.out hgrow (by omega) (fun k hk => (World.ownsRow.lt HR1.out k hk).1)
        clear hown hgrow hl1
        go_wp2
        go_roundw
        case rel =>
          refine ⟨q, f, acc ++ [x.data.toList], rfl, rfl, by omega, HR2.out, HB2.out, snoc_noSl HCA.out.nos HXN.out, ?_, ?_⟩
          · have h1 := HSZ.out
            have h2 : x.data.toList.length = x.size := by simp
            rw [joinS_snoc, List.length_append, List.length_cons, h2]
            omega
          · rw [HEQ.out, HST.out, HST.out]
        case measure =>
          cases f
          · simp [boolN]
          · simp [boolN, strSize]; exact HQ.out rfl
      · have HD := Lib.hid hd
        have HST : Hid (∀ b, stepL acc x.data.toList b = acc ++ (if b then [[]] else [])) := by intro b; unfold stepL; rw [if_neg (by rw [hd]; decide), if_neg (by rw [hd]; decide)]
        clear hd
        go_wp2_with fail
        refine HC.out.mono ?_
        rintro e w' ⟨rfl, n, hwn⟩
        obtain ⟨wa, hwa⟩ : ∃ wa, wa = w' := ⟨_, rfl⟩
        subst hwa
        have HRA : Hid (KeptAt wa w.heap.size u3 (joinS acc)) := by rw [hwn]; exact HCA.out.row.drewN n
        have HBA : Hid (Below w.heap.size w wa) := by rw [hwn]; exact below_drewN HCA.out.bel n
        clear hwn
        go_wp2_with fail
        refine (dotsOf_any x _ (by unfold maxLen; omega)).mono ?_
        rintro e wb ⟨rfl, hb⟩
        rw [HD.out]
        have HRB : Hid (KeptAt wb w.heap.size u3 (joinS acc)) := HRA.out.below hb
        have HBB : Hid (Below w.heap.size w wb) := HBA.out.trans (hb.mono HBA.out.size)
        have hbs2 := HBB.out.size
        clear hb
        have HNS : Hid (∀ t ∈ acc, noSl t) := HCA.out.nos
        have hl0 : (joinS acc).length + (r.size + 1) ≤ p.size + 1 := hlen
        cases f
        · go_wp2_with (at_builtin; refine wpList_append_own _ rfl (.tmp 42) (.tmp 43) 59 rfl w.heap.size 5 i0 (.int .u8 0) 1 1 Tryd.underlying59 hi hz0 hz1 hz2 rfl (by decide) _ _ _ rfl (World.ownsRow.alloc (w := wb) HRB.out _) ⟨wb.heap.size, 0, none⟩ 1 1 [.int .u8 47] rfl rfl ?c1 ?c2 ?c3 ?c4 ?c5 ?_)
          case c1 => exact cell_one_new _ _ _
          case c2 => intro u hu; simp at hu; subst hu; rfl
          case c3 => unfold maxLen; omega
          case c4 => omega
          case c5 => simp; omega
          intro v1 w1 hown hgrow _
          have HR1 : Hid (KeptAt w1 w.heap.size v1 (joinS acc ++ [47])) := kept_slash hown
          have HB1 : Hid (Below w.heap.size w w1) := Below.grown (HBB.out.alloc HBB.out.size _) hgrow (by simp; omega) (fun k hk => (World.ownsRow.lt HRB.out k hk).1)
          have hs1 := HB1.out.size
          clear hown hgrow
          go_wp2
          go_roundw
          case rel =>
            refine ⟨q, false, acc ++ [[]], rfl, rfl, by omega, by rw [joinS_snoc]; exact HR1.out, HB1.out, snoc_noSl HNS.out nil_noSl, ?_, ?_⟩
            · have h1 := HSZ.out
              rw [joinS_snoc, List.length_append, List.length_cons, List.length_nil]
              simp
              omega
            · rw [HEQ.out]; simp [HST.out]
          case measure => simp [boolN]
        · go_wp2
          go_roundw
          case rel =>
            refine ⟨q, true, acc, rfl, rfl, by omega, HRB.out, HBB.out, HNS.out, ?_, ?_⟩
            · have h1 := HSZ.out
              simp only [if_true] at h1 ⊢
              omega
            · rw [HEQ.out, HST.out]; simp
          case measure => simp [boolN, strSize]; exact HQ.out (by trivial)
      · have HD := Lib.hid hd
        have HST : Hid (∀ b, stepL acc x.data.toList b = acc.dropLast ++ (if b then [[]] else [])) := by intro b; unfold stepL; rw [if_neg (by rw [hd]; decide), if_pos hd]
        clear hd
        go_wp2_with fail
        refine HC.out.mono ?_
        rintro e w' ⟨rfl, n, hwn⟩
        obtain ⟨wa, hwa⟩ : ∃ wa, wa = w' := ⟨_, rfl⟩
        subst hwa
        have HRA : Hid (KeptAt wa w.heap.size u3 (joinS acc)) := by rw [hwn]; exact HCA.out.row.drewN n
        have HBA : Hid (Below w.heap.size w wa) := by rw [hwn]; exact below_drewN HCA.out.bel n
        clear hwn
        go_wp2_with fail
        refine (dotsOf_any x _ (by unfold maxLen; omega)).mono ?_
        rintro e wb ⟨rfl, hb⟩
        rw [HD.out]
        have HRB : Hid (KeptAt wb w.heap.size u3 (joinS acc)) := HRA.out.below hb
        have HBB : Hid (Below w.heap.size w wb) := HBA.out.trans (hb.mono HBA.out.size)
        have hbs2 := HBB.out.size
        clear hb
        go_wp2_with fail
        refine (withoutLast_any _ _ acc _ HRB.out HCA.out.nos).mono ?_
        rintro e wc ⟨v0, rfl, hk0, n0, hwc⟩
        have HRC : Hid (KeptAt wc w.heap.size v0 (joinS acc.dropLast)) := hk0
        have HBC : Hid (Below w.heap.size w wc) := by rw [hwc]; exact below_drewN HBB.out n0
        have hbs3 := HBC.out.size
        have HNS : Hid (∀ t ∈ acc.dropLast, noSl t) := join_dropLast_noSl HCA.out.nos
        have hl0 : (joinS acc.dropLast).length + (r.size + 1) ≤ p.size + 1 := by have := joinS_dropLast acc; omega
        clear hk0 hwc
        cases f
        · go_wp2_with (at_builtin; refine wpList_append_own _ rfl (.tmp 42) (.tmp 43) 59 rfl w.heap.size 5 i0 (.int .u8 0) 1 1 Tryd.underlying59 hi hz0 hz1 hz2 rfl (by decide) _ _ _ rfl (World.ownsRow.alloc (w := wc) HRC.out _) ⟨wc.heap.size, 0, none⟩ 1 1 [.int .u8 47] rfl rfl ?c1 ?c2 ?c3 ?c4 ?c5 ?_)
          case c1 => exact cell_one_new _ _ _
          case c2 => intro u hu; simp at hu; subst hu; rfl
          case c3 => unfold maxLen; omega
          case c4 => omega
          case c5 => simp; omega
          intro v1 w1 hown hgrow _
          have HR1 : Hid (KeptAt w1 w.heap.size v1 (joinS acc.dropLast ++ [47])) := kept_slash hown
          have HB1 : Hid (Below w.heap.size w w1) := Below.grown (HBC.out.alloc HBC.out.size _) hgrow (by simp; omega) (fun k hk => (World.ownsRow.lt HRC.out k hk).1)
          have hs1 := HB1.out.size
          clear hown hgrow
          go_wp2
          go_roundw
          case rel =>
            refine ⟨q, false, acc.dropLast ++ [[]], rfl, rfl, by omega, by rw [joinS_snoc]; exact HR1.out, HB1.out, snoc_noSl HNS.out nil_noSl, ?_, ?_⟩
            · have h1 := HSZ.out
              rw [joinS_snoc, List.length_append, List.length_cons, List.length_nil]
              simp
              omega
            · rw [HEQ.out]; simp [HST.out]
          case measure => simp [boolN]
        · go_wp2
          go_roundw
          case rel =>
            refine ⟨q, true, acc.dropLast, rfl, rfl, by omega, HRC.out, HBC.out, HNS.out, ?_, ?_⟩
            · have h1 := HSZ.out
              simp only [if_true] at h1 ⊢
              omega
            · rw [HEQ.out, HST.out]; simp
          case measure => simp [boolN, strSize]; exact HQ.out (by trivial)
end Go.Proofs.YtfamllkmmiajoaaDoor
