/-
  The contract of the document's own answer of layer 3: Parse. Conditions: the text's size is such as any text's.
-/
import Derived.Test.YtfamllkmmiajoaaDoorGRef3
namespace Go.Proofs.YtfamllkmmiajoaaDoor
open Go.RowKit

/-- the result's block lies empty, block g holds an origin -/
structure St (w W : World) (g : Nat) (A H : ByteArray) (p : Int) : Prop where
  z : OrgAt W w.heap.size ⟨#[]⟩ ⟨#[]⟩ 0
  zf : Own3 W w.heap.size
  o : OrgAt W g A H p
  of : Own3 W g
  b : Below w.heap.size w W
  lt : w.heap.size < g
theorem St.below {w W W' : World} {g : Nat} {A H : ByteArray} {p : Int} (h : St w W g A H p) (hb : Below W.heap.size W W') : St w W' g A H p :=
  ⟨h.z.below hb h.z.lt, h.zf.below hb h.z.lt, h.o.below hb h.o.lt, h.of.below hb h.o.lt, h.b.trans (hb.mono h.b.size), h.lt⟩
theorem Own3.set {W : World} {g : Nat} (h : Own3 W g) (a : Addr) (u : Value) : Own3 (W.setCell a u) g :=
  ⟨by rw [World.frozen?_setCell]; exact h.f0, by rw [World.frozen?_setCell]; exact h.f1, by rw [World.frozen?_setCell]; exact h.f2⟩
theorem OrgAt.set_other {W : World} {g g' i : Nat} {A H : ByteArray} {p : Int} (h : OrgAt W g A H p) (hg : g ≠ g') (u : Value) : OrgAt (W.setCell ⟨g', i, none⟩ u) g A H p :=
  ⟨by rw [World.cell?_setCell_other _ _ _ _ (by intro e; injection e with e _; exact hg e.symm)]; exact h.c0,
   by rw [World.cell?_setCell_other _ _ _ _ (by intro e; injection e with e _; exact hg e.symm)]; exact h.c1,
   by rw [World.cell?_setCell_other _ _ _ _ (by intro e; injection e with e _; exact hg e.symm)]; exact h.c2⟩
theorem OrgAt.putH {W : World} {g : Nat} {s h : ByteArray} {p : Int} (o : OrgAt W g s h p) (k : ByteArray) : OrgAt (W.setCell ⟨g, 1, none⟩ (.string k)) g s k p :=
  ⟨by rw [World.cell?_setCell_other _ _ _ _ (by simp)]; exact o.c0, by rw [World.cell?_setCell_same _ _ _ o.c1], by rw [World.cell?_setCell_other _ _ _ _ (by simp)]; exact o.c2⟩
theorem St.setP {w W : World} {g : Nat} {A H : ByteArray} {p : Int} (h : St w W g A H p) (k : Int) : St w (W.setCell ⟨g, 2, none⟩ (.int .i64 k)) g A H k :=
  ⟨h.z.set_other (Nat.ne_of_lt h.lt) _, h.zf.set _ _, h.o.put k, h.of.set _ _, h.b.setCell (Nat.le_of_lt h.lt) _, h.lt⟩
theorem St.setH {w W : World} {g : Nat} {A H : ByteArray} {p : Int} (h : St w W g A H p) (X : ByteArray) : St w (W.setCell ⟨g, 1, none⟩ (.string X)) g A X p :=
  ⟨h.z.set_other (Nat.ne_of_lt h.lt) _, h.zf.set _ _, h.o.putH X, h.of.set _ _, h.b.setCell (Nat.le_of_lt h.lt) _, h.lt⟩

theorem refLower_as (s t : ByteArray) (w : World) (hs : s.size ≤ maxLen) (ht : t = mk (Lk.lower s.data.toList)) :
    Calls Tryd.prog 53 #[.string s] w fun e w' => e = .returned (.string t) ∧ Below w.heap.size w w' := by rw [ht]; exact refLower_any s w hs
theorem low_at (l : List UInt8) (c : UInt8) (h : c = 58) (hn : ∀ b ∈ l, b ≠ c) : ∀ b ∈ Lk.lower l, b ≠ c := by
  intro b hb e
  obtain ⟨x, hx, rfl⟩ := List.mem_map.1 hb
  rw [h] at e hn
  exact hn x hx ((low_low58 x).1 e)

set_option maxHeartbeats 4000000 in
theorem refParse_any (s : ByteArray) (w : World) (hs : s.size ≤ maxLen) :
    Calls Tryd.prog 32 #[.string s] w fun e w' => e = .returned (parseV s.data.toList) ∧ Below w.heap.size w w' := by
  unfold maxLen at hs
  have hl : s.data.toList.length = s.size := by simp
  by_cases h512 : 512 < s.size
  · have HV : Hid (parseV s.data.toList = .tuple #[orgV [] [] 0, .int .i64 4]) := by show _ = _; rw [parseV, if_pos (by rw [hl]; exact h512)]
    clear hl
    go_enter Tryd.func32, Tryd.ntmps32
    go_wp2
    refine bodyPost_ret (v := .tuple #[.agg #[.string ⟨#[]⟩, .string ⟨#[]⟩, .int .i64 0], .int .i64 4]) (by simp [results, Tryd.results32, go_sem]) rfl ?_
    exact ⟨by rw [HV.out]; rfl, (Below.refl _ _).alloc (Nat.le_refl _) _⟩
  have HV : Hid (parseV s.data.toList = match parseL s.data.toList with
    | some (a, b, p) => .tuple #[orgV a b p, .int .i64 0]
    | none => .tuple #[orgV [] [] 0, .int .i64 3]) := by show _ = _; rw [parseV, if_neg (by rw [hl]; exact h512)]; rfl
  cases hsk : seek s.data.toList with
  | none =>
    have HN : Hid (parseL s.data.toList = none) := by show _ = _; unfold parseL; rw [seek_lower, hsk]; rfl
    have HK : Hid (behindV s.data.toList = -1) := by show _ = _; rw [behindV, hsk]
    clear hsk hl
    go_enter Tryd.func32, Tryd.ntmps32
    go_wp2_with fail
    refine (refBehind_any _ _ (by omega)).mono ?_
    rintro e w' ⟨rfl, rfl⟩
    rw [HK.out]
    go_wp2
    refine bodyPost_ret (v := .tuple #[.agg #[.string ⟨#[]⟩, .string ⟨#[]⟩, .int .i64 0], .int .i64 3]) (by simp [results, Tryd.results32, go_sem]) rfl ?_
    exact ⟨by rw [HV.out, HN.out]; rfl, (Below.refl _ _).alloc (Nat.le_refl _) _⟩
  | some q =>
    obtain ⟨la, lb⟩ := q
    have hse := seek_eq _ _ _ hsk
    have hlen := congrArg List.length hse
    simp only [List.length_append, List.length_cons, List.length_nil, hl] at hlen
    obtain ⟨a, ea⟩ : ∃ a : ByteArray, a = mk la := ⟨_, rfl⟩
    obtain ⟨b, eb⟩ : ∃ b : ByteArray, b = mk lb := ⟨_, rfl⟩
    have had : a.data.toList = la := by rw [ea, mk_data]
    have hbd : b.data.toList = lb := by rw [eb, mk_data]
    have haz : a.size = la.length := by rw [ea, mk_size]
    have hbz : b.size = lb.length := by rw [eb, mk_size]
    obtain ⟨k, hk⟩ : ∃ k : Nat, k = la.length := ⟨_, rfl⟩
    have X1 : Hid (s.extract 0 k = a) := by
      show _ = _; rw [Lib.extract_eq, hse, ea, hk]; simp [mk]
    have X2 : Hid (s.extract (k + 3) s.size = b) := by
      show _ = _
      have e : List.drop (k + 3) s.data.toList = lb := by rw [hse]; exact List.drop_left' (by simp [hk])
      rw [Lib.extract_eq, e, List.take_of_length_le (by omega), eb]; rfl
    have HK : Hid (behindV s.data.toList = (k : Int)) := by show _ = _; rw [behindV, hsk, hk]
    have hkz : k + 3 ≤ s.size := by omega
    have hw : IntKind.i64.wrap ((k : Int) + 3) = (k : Int) + 3 := IntWalk.i64_in _ (by omega)
    obtain ⟨A, eA⟩ : ∃ A : ByteArray, A = mk (Lk.lower a.data.toList) := ⟨_, rfl⟩
    have hAd : A.data.toList = Lk.lower la := by rw [eA, mk_data, had]
    have HA := Lib.hid eA
    obtain ⟨d, hd⟩ : ∃ d, d = defL A.data.toList := ⟨_, rfl⟩
    have HD := Lib.hid hd
    have HPL : Hid (parseL s.data.toList = if checkL A.data.toList (Lk.lower (split1 58 lb).1) (portAt A.data.toList ((split1 58 lb).2.map Lk.lower)) then some (A.data.toList, Lk.lower (split1 58 lb).1, portAt A.data.toList ((split1 58 lb).2.map Lk.lower)) else none) := by
      show _ = _
      unfold parseL
      rw [seek_lower, hsk, hAd]
      simp only [Option.map_some, split1_lower]
    have haz2 : a.size ≤ maxLen := by unfold maxLen; omega
    have hb512 : b.size ≤ 512 := by omega
    clear ea eb eA hd hk hse hlen hl hsk haz had hAd
    go_enter Tryd.func32, Tryd.ntmps32
    go_wp2_with fail
    refine (refBehind_any _ _ (by omega)).mono ?_
    rintro e w0 ⟨rfl, hw0⟩
    rw [HK.out]
    have hz0 : OrgAt w0 w.heap.size ⟨#[]⟩ ⟨#[]⟩ 0 := by rw [← hw0]; exact OrgAt.new w _ _ _ _
    have hf0 : Own3 w0 w.heap.size := by rw [← hw0]; exact Own3.new w _ _
    have HB0 : Hid (Below w.heap.size w w0) := by rw [← hw0]; exact (Below.refl _ _).alloc (Nat.le_refl _) _
    have HZ0 := Lib.hid hz0
    have HF0 := Lib.hid hf0
    clear hw0 hz0 hf0
    go_wp2_with fail
    rw [X1.out]
    refine (refLower_as a A _ haz2 HA.out).mono ?_
    rintro e w1 ⟨rfl, hb⟩
    have HZ1 := Lib.hid (HZ0.out.below hb HZ0.out.lt)
    have HF1 := Lib.hid (HF0.out.below hb HZ0.out.lt)
    have HB1 : Hid (Below w.heap.size w w1) := HB0.out.trans (hb.mono HB0.out.size)
    clear hb
    go_wp2_with fail
    refine (refDefault_any _ _).mono ?_
    rintro e w' ⟨rfl, rfl⟩
    rw [← HD.out]
    go_wp2_with fail
    rw [X2.out]
    have ST1 : Hid (St w (w1.alloc (.cells #[.string A, .string ⟨#[]⟩, .int .i64 d] 25)) w1.heap.size A ⟨#[]⟩ d) :=
      ⟨HZ1.out.below ((Below.refl _ _).alloc (Nat.le_refl _) _) HZ1.out.lt, HF1.out.below ((Below.refl _ _).alloc (Nat.le_refl _) _) HZ1.out.lt, OrgAt.new w1 _ _ _ _, Own3.new w1 _ _, HB1.out.alloc HB1.out.size _, HZ1.out.lt⟩
    clear HZ0 HF0 HB0 HZ1 HF1 HB1
    rcases at_cases 58 lb with hn | ⟨lx, ly, em, hn⟩
    · obtain ⟨X, hX⟩ : ∃ X : ByteArray, X = mk (Lk.lower b.data.toList) := ⟨_, rfl⟩
      have HX := Lib.hid hX
      have hXz : X.size = b.size := by rw [hX, mk_size, Lk.lower_len, hbd, hbz]
      have HP : Hid (parseL s.data.toList = if checkL A.data.toList X.data.toList d then some (A.data.toList, X.data.toList, d) else none) := by
        show _ = _; rw [HPL.out, split1_none 58 _ hn, HD.out, hX, mk_data, hbd]; rfl
      have HN : Hid (∀ j (h : j < b.size), ((b[j].toNat : Int) != 58) = true) := by
        intro j h
        rw [bne_iff_ne]
        intro e
        have hm : b[j] ∈ lb := by rw [← hbd]; exact List.getElem_mem (l := b.data.toList) (by simpa using h)
        exact hn _ hm (UInt8.toNat_inj.1 (show b[j].toNat = 58 by omega))
      clear hn hX hbd hbz
      go_loopw [6, 7, 8, 9] (fun r i _ _ wr => ∃ j : Nat, j ≤ b.size ∧ r = .string b ∧ i = .int .i64 j ∧ St w wr w1.heap.size A ⟨#[]⟩ d) (fun _ i _ _ _ => b.size - (intOf i).toNat)
      case atStart => exact ⟨0, Nat.zero_le _, rfl, rfl, ST1.out⟩
      case round =>
        obtain ⟨j, hj, rfl, rfl, hst⟩ := hrel
        have STr := Lib.hid hst
        clear hst
        by_cases hlt : j < b.size
        · have hne := HN.out j hlt
          go_wp2
          go_roundw
          case rel => exact ⟨j + 1, by omega, rfl, by go_num, STr.out⟩
          case measure => simp [intOf]; omega
        · go_wp2_with fail
          refine (refLower_as b X _ (by unfold maxLen; omega) HX.out).mono ?_
          rintro e w3 ⟨rfl, hb⟩
          have ST3 := Lib.hid (STr.out.below hb)
          clear hb
          obtain ⟨⟨z0, z1, z2⟩, ⟨y0, y1, y2⟩, ⟨o0, o1, o2⟩, ⟨v0, v1, v2⟩, _, ltg⟩ := ST3.out
          obtain ⟨⟨m0, m1, m2⟩, ⟨n0, n1, n2⟩, ⟨p0, p1, p2⟩, ⟨r0, r1, r2⟩, _, _⟩ := ST3.out.setH X
          have ST4 := Lib.hid (ST3.out.setH X)
          go_wp2_with fail
          refine (refCheck_any A X d _ (by unfold maxLen; omega)).mono ?_
          rintro e w5 ⟨rfl, hb⟩
          have ST5 := Lib.hid (ST4.out.below hb)
          clear hb z0 z1 z2 y0 y1 y2 o0 o1 o2 v0 v1 v2 m0 m1 m2 n0 n1 n2 p0 p1 p2 r0 r1 r2
          obtain ⟨⟨z0, z1, z2⟩, ⟨y0, y1, y2⟩, ⟨o0, o1, o2⟩, ⟨v0, v1, v2⟩, _, _⟩ := ST5.out
          cases hc : checkL A.data.toList X.data.toList d
          · have HC := Lib.hid hc
            clear hc
            go_wp2
            obtain ⟨q0, q1, q2⟩ := set3_org (W := w5) (g := w.heap.size) z0 z1 z2 ⟨#[]⟩ ⟨#[]⟩ 0
            refine bodyPost_ret (v := .tuple #[.agg #[.string ⟨#[]⟩, .string ⟨#[]⟩, .int .i64 0], .int .i64 3]) (by simp [results, Tryd.results32, go_sem, q0, q1, q2]) rfl ?_
            exact ⟨by rw [HV.out, HP.out, HC.out]; rfl, set3_below ST5.out.b (Nat.le_refl _) _ _ _⟩
          · have HC := Lib.hid hc
            clear hc
            go_wp2
            obtain ⟨q0, q1, q2⟩ := set3_org (W := w5) (g := w.heap.size) z0 z1 z2 A X d
            refine bodyPost_ret (v := .tuple #[.agg #[.string A, .string X, .int .i64 d], .int .i64 0]) (by simp [results, Tryd.results32, go_sem, q0, q1, q2]) rfl ?_
            exact ⟨by rw [HV.out, HP.out, HC.out]; simp only [if_true, orgV, mk_eq], set3_below ST5.out.b (Nat.le_refl _) _ _ _⟩
    · obtain ⟨x, ex⟩ : ∃ x : ByteArray, x = mk lx := ⟨_, rfl⟩
      obtain ⟨y, ey⟩ : ∃ y : ByteArray, y = mk ly := ⟨_, rfl⟩
      have hxd : x.data.toList = lx := by rw [ex, mk_data]
      have hyd : y.data.toList = ly := by rw [ey, mk_data]
      have hxz : x.size = lx.length := by rw [ex, mk_size]
      have hyz : y.size = ly.length := by rw [ey, mk_size]
      have hlen2 := congrArg List.length em
      simp only [List.length_append, List.length_cons] at hlen2
      obtain ⟨m, hm⟩ : ∃ m : Nat, m = lx.length := ⟨_, rfl⟩
      have X3 : Hid (b.extract 0 m = x) := by
        show _ = _; rw [Lib.extract_eq, hbd, em, ex, hm]; simp [mk]
      have X4 : Hid (b.extract (m + 1) b.size = y) := by
        show _ = _
        have e : List.drop (m + 1) b.data.toList = ly := by
          rw [hbd, em, show lx ++ 58 :: ly = (lx ++ [58]) ++ ly by simp]; exact List.drop_left' (by simp [hm])
        rw [Lib.extract_eq, e, List.take_of_length_le (by omega), ey]; rfl
      have hmz : m < b.size := by omega
      have h58 : ((b[m].toNat : Int) != 58) = false := by
        have e1 : b.data.toList[m]'(by simpa using hmz) = 58 := by
          simp only [hbd, em, hm, List.getElem_append_right (Nat.le_refl _), Nat.sub_self, List.getElem_cons_zero]
        have e2 : b[m] = 58 := e1
        rw [e2]; rfl
      have HN : Hid (∀ j (h : j < b.size), j < m → ((b[j].toNat : Int) != 58) = true) := by
        intro j h hjm
        rw [bne_iff_ne]
        intro e
        have h1 : j < lx.length := by omega
        have hmm : b[j] ∈ lx := by
          have e1 : b.data.toList[j]'(by simpa using h) = lx[j] := by
            simp only [hbd, em, List.getElem_append_left h1]
          have e2 : b[j] = lx[j] := e1
          rw [e2]; exact List.getElem_mem _
        exact hn _ hmm (UInt8.toNat_inj.1 (show b[j].toNat = 58 by omega))
      obtain ⟨X, hX⟩ : ∃ X : ByteArray, X = mk (Lk.lower x.data.toList) := ⟨_, rfl⟩
      have HX := Lib.hid hX
      have hXz : X.size = x.size := by rw [hX, mk_size, Lk.lower_len, hxd, hxz]
      have HPP : Hid (parseL s.data.toList = if checkL A.data.toList X.data.toList (portL (Lk.lower y.data.toList) : Int) then some (A.data.toList, X.data.toList, (portL (Lk.lower y.data.toList) : Int)) else none) := by
        show _ = _; rw [HPL.out, em, split1_at 58 _ _ hn, hX, mk_data, hxd, hyd]; rfl
      have hx512 : x.size ≤ 512 := by omega
      have hy512 : y.size ≤ maxLen := by unfold maxLen; omega
      have hw2 : IntKind.i64.wrap ((m : Int) + 1) = (m : Int) + 1 := IntWalk.i64_in _ (by omega)
      have hm1 : (m : Int) + 1 ≤ b.size := by omega
      clear hn hX em hbd hbz hxd hyd hlen2 hm ex ey hxz hyz
      go_loopw [6, 7, 8, 9] (fun r i _ _ wr => ∃ j : Nat, j ≤ m ∧ r = .string b ∧ i = .int .i64 j ∧ St w wr w1.heap.size A ⟨#[]⟩ d) (fun _ i _ _ _ => m - (intOf i).toNat)
      case atStart => exact ⟨0, Nat.zero_le _, rfl, rfl, ST1.out⟩
      case round =>
        obtain ⟨j, hj, rfl, rfl, hst⟩ := hrel
        have STr := Lib.hid hst
        clear hst
        by_cases hlt : j < m
        · have hlt2 : j < b.size := by omega
          have hne := HN.out j hlt2 hlt
          go_wp2
          go_roundw
          case rel => exact ⟨j + 1, by omega, rfl, by go_num, STr.out⟩
          case measure => simp [intOf]; omega
        · obtain rfl : j = m := by omega
          cases hok : okC y.data.toList 65535
          case false =>
            have HC := Lib.hid (countV_f hok)
            have HP : Hid (parseL s.data.toList = none) := by
              show _ = _; rw [HPP.out, check_port (okC_not (.inl hok))]; rfl
            clear hok
            obtain ⟨⟨z0, z1, z2⟩, ⟨y0, y1, y2⟩, ⟨o0, o1, o2⟩, ⟨v0, v1, v2⟩, _, ltg⟩ := STr.out
            go_wp2_with fail
            rw [X4.out]
            refine (refCount_any y 65535 _ hy512 (by decide)).mono ?_
            rintro e w' ⟨rfl, rfl⟩
            rw [HC.out]
            go_wp2
            obtain ⟨q0, q1, q2⟩ := set3_org (W := wr) (g := w.heap.size) z0 z1 z2 ⟨#[]⟩ ⟨#[]⟩ 0
            refine bodyPost_ret (v := .tuple #[.agg #[.string ⟨#[]⟩, .string ⟨#[]⟩, .int .i64 0], .int .i64 3]) (by simp [results, Tryd.results32, go_sem, q0, q1, q2]) rfl ?_
            exact ⟨by rw [HV.out, HP.out]; rfl, set3_below STr.out.b (Nat.le_refl _) _ _ _⟩
          have HC := Lib.hid (countV_t hok)
          by_cases h1 : Lk.sat (Lk.valL y.data.toList) < 1
          · have HP : Hid (parseL s.data.toList = none) := by
              show _ = _; rw [HPP.out, check_port (okC_not (.inr h1))]; rfl
            clear hok
            generalize Lk.sat (Lk.valL y.data.toList) = v at *
            obtain ⟨⟨z0, z1, z2⟩, ⟨y0, y1, y2⟩, ⟨o0, o1, o2⟩, ⟨v0, v1, v2⟩, _, ltg⟩ := STr.out
            go_wp2_with fail
            rw [X4.out]
            refine (refCount_any y 65535 _ hy512 (by decide)).mono ?_
            rintro e w' ⟨rfl, rfl⟩
            rw [HC.out]
            go_wp2
            obtain ⟨q0, q1, q2⟩ := set3_org (W := wr) (g := w.heap.size) z0 z1 z2 ⟨#[]⟩ ⟨#[]⟩ 0
            refine bodyPost_ret (v := .tuple #[.agg #[.string ⟨#[]⟩, .string ⟨#[]⟩, .int .i64 0], .int .i64 3]) (by simp [results, Tryd.results32, go_sem, q0, q1, q2]) rfl ?_
            exact ⟨by rw [HV.out, HP.out]; rfl, set3_below STr.out.b (Nat.le_refl _) _ _ _⟩
          have HP : Hid (parseL s.data.toList = if checkL A.data.toList X.data.toList (Lk.sat (Lk.valL y.data.toList) : Int) then some (A.data.toList, X.data.toList, (Lk.sat (Lk.valL y.data.toList) : Int)) else none) := by
            show _ = _; rw [HPP.out, okC_port hok (by omega)]
          have hv2 : Lk.sat (Lk.valL y.data.toList) ≤ 65535 := by
            unfold okC at hok
            simp only [Bool.and_eq_true, decide_eq_true_eq] at hok
            exact hok.2
          clear hok
          generalize Lk.sat (Lk.valL y.data.toList) = v at *
          obtain ⟨⟨z0, z1, z2⟩, ⟨y0, y1, y2⟩, ⟨o0, o1, o2⟩, ⟨v0, v1, v2⟩, _, ltg⟩ := STr.out
          have STp := Lib.hid (STr.out.setP (v : Int))
          go_wp2_with fail
          rw [X4.out]
          refine (refCount_any y 65535 _ hy512 (by decide)).mono ?_
          rintro e w' ⟨rfl, rfl⟩
          rw [HC.out]
          go_wp2_with fail
          rw [X3.out]
          clear z0 z1 z2 y0 y1 y2 o0 o1 o2 v0 v1 v2
          refine (refLower_as x X _ (by unfold maxLen; omega) HX.out).mono ?_
          rintro e w3 ⟨rfl, hb⟩
          have ST3 := Lib.hid (STp.out.below hb)
          clear hb
          obtain ⟨⟨z0, z1, z2⟩, ⟨y0, y1, y2⟩, ⟨o0, o1, o2⟩, ⟨v0, v1, v2⟩, _, ltg⟩ := ST3.out
          obtain ⟨⟨m0, m1, m2⟩, ⟨n0, n1, n2⟩, ⟨p0, p1, p2⟩, ⟨r0, r1, r2⟩, _, _⟩ := ST3.out.setH X
          have ST4 := Lib.hid (ST3.out.setH X)
          go_wp2_with fail
          refine (refCheck_any A X (v : Int) _ (by unfold maxLen; omega)).mono ?_
          rintro e w5 ⟨rfl, hb⟩
          have ST5 := Lib.hid (ST4.out.below hb)
          clear hb z0 z1 z2 y0 y1 y2 o0 o1 o2 v0 v1 v2 m0 m1 m2 n0 n1 n2 p0 p1 p2 r0 r1 r2
          obtain ⟨⟨z0, z1, z2⟩, ⟨y0, y1, y2⟩, ⟨o0, o1, o2⟩, ⟨v0, v1, v2⟩, _, _⟩ := ST5.out
          cases hc : checkL A.data.toList X.data.toList (v : Int)
          · have HC := Lib.hid hc
            clear hc
            go_wp2
            obtain ⟨q0, q1, q2⟩ := set3_org (W := w5) (g := w.heap.size) z0 z1 z2 ⟨#[]⟩ ⟨#[]⟩ 0
            refine bodyPost_ret (v := .tuple #[.agg #[.string ⟨#[]⟩, .string ⟨#[]⟩, .int .i64 0], .int .i64 3]) (by simp [results, Tryd.results32, go_sem, q0, q1, q2]) rfl ?_
            exact ⟨by rw [HV.out, HP.out, HC.out]; rfl, set3_below ST5.out.b (Nat.le_refl _) _ _ _⟩
          · have HC := Lib.hid hc
            clear hc
            go_wp2
            obtain ⟨q0, q1, q2⟩ := set3_org (W := w5) (g := w.heap.size) z0 z1 z2 A X (v : Int)
            refine bodyPost_ret (v := .tuple #[.agg #[.string A, .string X, .int .i64 (v : Int)], .int .i64 0]) (by simp [results, Tryd.results32, go_sem, q0, q1, q2]) rfl ?_
            exact ⟨by rw [HV.out, HP.out, HC.out]; simp only [if_true, orgV, mk_eq], set3_below ST5.out.b (Nat.le_refl _) _ _ _⟩
end Go.Proofs.YtfamllkmmiajoaaDoor
