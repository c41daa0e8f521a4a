/-
  The plain mathematics and the contracts of cors over this seat's program. Conditions: those of each statement.
-/
import Derived.Test.YtlkneapidmdpbaaGreatDoorLHdr
import Derived.Maps.Views
import Derived.Maps.OwnOps
import Derived.Deep.CutRange
namespace Go.Proofs.YtlkneapidmdpbaaGreatDoor

def orgN : List UInt8 := [97, 99, 99, 101, 115, 115, 45, 99, 111, 110, 116, 114, 111, 108, 45, 97, 108, 108, 111, 119, 45, 111, 114, 105, 103, 105, 110]
def crdN : List UInt8 := [97, 99, 99, 101, 115, 115, 45, 99, 111, 110, 116, 114, 111, 108, 45, 97, 108, 108, 111, 119, 45, 99, 114, 101, 100, 101, 110, 116, 105, 97, 108, 115]
def expN : List UInt8 := [97, 99, 99, 101, 115, 115, 45, 99, 111, 110, 116, 114, 111, 108, 45, 101, 120, 112, 111, 115, 101, 45, 104, 101, 97, 100, 101, 114, 115]
def truL : List UInt8 := [116, 114, 117, 101]
def cookL : List UInt8 := [115, 101, 116, 45, 99, 111, 111, 107, 105, 101]
def cook2L : List UInt8 := [115, 101, 116, 45, 99, 111, 111, 107, 105, 101, 50]
def plainL : List (List UInt8) := [[99, 97, 99, 104, 101, 45, 99, 111, 110, 116, 114, 111, 108], [99, 111, 110, 116, 101, 110, 116, 45, 108, 97, 110, 103, 117, 97, 103, 101], [99, 111, 110, 116, 101, 110, 116, 45, 108, 101, 110, 103, 116, 104], [99, 111, 110, 116, 101, 110, 116, 45, 116, 121, 112, 101], [101, 120, 112, 105, 114, 101, 115], [108, 97, 115, 116, 45, 109, 111, 100, 105, 102, 105, 101, 100], [112, 114, 97, 103, 109, 97]]
/-- is a text one of these? -/
def memS (l : List (List UInt8)) (s : List UInt8) : Bool := l.any (fun x => x == s)
def chk (got wild cr same tru : Bool) : Int := if !got then 15 else if wild && !cr then 0 else if !same then 15 else if cr && !tru then 15 else 0
def truH (l : List Hd) : Bool := getH l crdN == truL
def chkH (o : List UInt8) (cr : Bool) (l : List Hd) : Int := chk (gotH l orgN) (getH l orgN == [42]) cr (getH l orgN == o) (truH l)
def hidS (n : List UInt8) : Bool := n == cookL || n == cook2L
def shownH (l : List Hd) : List (List UInt8) := (Lk.splitL (getH l expN)).map Lk.lower
def seesH (cr : Bool) (S : List (List UInt8)) (n : List UInt8) : Bool := !hidS n && ((memS S [42] && !cr) || (memS plainL n || memS S n))
def seenH (cr : Bool) (l : List Hd) : List Hd := (normL l).filter (fun h => seesH cr (shownH l) h.1)
/-- the document's own answer to one name -/
def okS (cr : Bool) (N : List (List UInt8)) (n : List UInt8) : Bool := N.any (fun x => Lk.foldL x n || (x == [42] && !cr))
def namesE (l : List Hd) : List (List UInt8) := Lk.splitL (getH l expN) ++ plainL
def rseesH (cr : Bool) (N : List (List UInt8)) (n : List UInt8) : Bool := okS cr N n && (!(n == cookL) && !(n == cook2L))

theorem memS_nil (s : List UInt8) : memS [] s = false := rfl
theorem memS_snoc (l : List (List UInt8)) (x s : List UInt8) : memS (l ++ [x]) s = (memS l s || x == s) := by simp [memS]
theorem memS_append (l m : List (List UInt8)) (s : List UInt8) : memS (l ++ m) s = (memS l s || memS m s) := by simp [memS]
theorem memS_iff (l : List (List UInt8)) (s : List UInt8) : memS l s = true ↔ s ∈ l := by
  unfold memS
  rw [List.any_eq_true]
  constructor
  · rintro ⟨x, hx, e⟩
    rw [← eq_of_beq e]; exact hx
  · intro h
    exact ⟨s, h, by simp⟩
theorem okS_snoc (cr : Bool) (N : List (List UInt8)) (x n : List UInt8) : okS cr (N ++ [x]) n = (okS cr N n || (Lk.foldL x n || (x == [42] && !cr))) := by simp [okS]
theorem okS_append (cr : Bool) (N M : List (List UInt8)) (n : List UInt8) : okS cr (N ++ M) n = (okS cr N n || okS cr M n) := by simp [okS]
theorem lower_star {x : List UInt8} : (Lk.lower x == [42]) = (x == [42]) := by
  match x with
  | [] => rfl
  | [a] =>
    have h : (Lk.lowU a == 42) = (a == 42) := by
      have e : Lk.lowU 42 = 42 := by decide
      cases h1 : a == 42
      · cases h2 : Lk.lowU a == 42
        · rfl
        · exfalso
          have h3 := (Lk.lowU_inj a 42).1 (by rw [e]; exact eq_of_beq h2)
          have h4 : Lk.lowI (42 : UInt8).toNat = 42 := by decide
          rw [h4] at h3
          have h5 : (a.toNat : Int) = 42 := by
            unfold Lk.lowI at h3
            split at h3
            · rename_i hu
              unfold Lk.upB at hu
              simp at hu
              omega
            · exact h3
          have : a = 42 := UInt8.toNat_inj.1 (by simp; omega)
          rw [this] at h1
          cases h1
      · rw [eq_of_beq h1, e]; rfl
    simpa [Lk.lower] using h
  | a :: b :: r => simp [Lk.lower]
/-- the two ways to ask come to the same -/
theorem sees_same (cr : Bool) (l : List Hd) (n : List UInt8) (hn : Lk.lower n = n) : rseesH cr (namesE l) n = seesH cr (shownH l) n := by
  have h1 : okS cr (Lk.splitL (getH l expN)) n = (memS (shownH l) n || (memS (shownH l) [42] && !cr)) := by
    unfold okS memS shownH
    generalize Lk.splitL (getH l expN) = L
    induction L with
    | nil => rfl
    | cons x r ih =>
      rw [List.any_cons, ih, List.map_cons, List.any_cons, List.any_cons, lower_star]
      have : Lk.foldL x n = (Lk.lower x == n) := by unfold Lk.foldL; rw [hn]
      rw [this]
      cases Lk.lower x == n <;> cases x == [42] <;> cases cr <;> cases (r.map Lk.lower).any (fun x => x == n) <;> cases (r.map Lk.lower).any (fun x => x == [42]) <;> rfl
  have h2 : okS cr plainL n = memS plainL n := by
    have e : ∀ x ∈ plainL, Lk.lower x = x ∧ (x == [42]) = false := by decide
    revert e
    generalize plainL = L
    intro e
    unfold okS memS
    induction L with
    | nil => rfl
    | cons x r ih =>
      obtain ⟨e1, e2⟩ := e x (by simp)
      rw [List.any_cons, List.any_cons, ih (fun y hy => e y (List.mem_cons_of_mem _ hy)), e2]
      have : Lk.foldL x n = (x == n) := by unfold Lk.foldL; rw [hn, e1]
      rw [this]
      simp
  unfold rseesH namesE seesH hidS
  rw [okS_append, h1, h2]
  cases n == cookL <;> cases n == cook2L <;> cases memS (shownH l) n <;> cases memS (shownH l) [42] <;> cases cr <;> cases memS plainL n <;> rfl
theorem seen_same (cr : Bool) (l : List Hd) : (normL l).filter (fun h => rseesH cr (namesE l) h.1) = seenH cr l := by
  unfold seenH
  apply List.filter_congr
  intro h hh
  obtain ⟨x, _, rfl⟩ := List.mem_map.1 hh
  exact sees_same cr l _ (Lk.lower_lower x.1)
theorem filter_take {p : Hd → Bool} {l : List Hd} {k : Nat} (h : k < l.length) : (l.take (k + 1)).filter p = (l.take k).filter p ++ (if p l[k] then [l[k]] else []) := by
  rw [List.take_succ_eq_append_getElem h, List.filter_append]
  cases hp : p l[k] <;> simp [hp]
theorem okS_take {cr : Bool} {N : List (List UInt8)} {n : List UInt8} {k : Nat} (h : k < N.length) : okS cr (N.take (k + 1)) n = (okS cr (N.take k) n || (Lk.foldL N[k] n || (N[k] == [42] && !cr))) := by
  rw [List.take_succ_eq_append_getElem h, okS_snoc]
theorem beq_l {t : ByteArray} {L : List UInt8} (h : t.data.toList = L) (l : List UInt8) : (t.toList == l) = (L == l) := by rw [ByteArray.toList_eq, h]
end Go.Proofs.YtlkneapidmdpbaaGreatDoor

namespace Go.Proofs.YtlkneapidmdpbaaGreatDoor
open Go.RowKit Go.Maps Go.WideMaps

theorem keyS : Keyed Tryz.prog 9 := string_keyed Tryz.underlying9
theorem zeroBool (w : World) : (zeroValue 4).run Tryz.prog w = .ok (.bool false) w := by kernel_rfl
def tru : DataW Unit := .lit (.bool true)
/-- the set of these texts, as a map that is read -/
def setD (S : List (List UInt8)) : DataW Unit := setOf tru (S.map Lit.string)
/-- block b of w is the set of these texts, of at most n entries -/
def SetAt (w : World) (b n : Nat) (S : List (List UInt8)) : Prop := w.ownsMap Tryz.prog 9 (plainElem Tryz.prog 4) b n (setD S)
theorem SetAt.new (w : World) : SetAt (w.alloc (.map #[] 0)) w.heap.size 0 [] := World.ownsMap_made w _ _ _
theorem SetAt.lt {w : World} {b n : Nat} {S : List (List UInt8)} (h : SetAt w b n S) : b < w.heap.size := World.ownsMap.lt h
theorem SetAt.below {w w' : World} {b n B : Nat} {S : List (List UInt8)} (h : SetAt w b n S) (hb : Below B w w') (hB : b < B) : SetAt w' b n S := by
  obtain ⟨es, clock, h1, F, h2, h3⟩ := h
  exact ⟨es, clock, (hb.block b hB).trans h1, F, h2, h3⟩
theorem isKey_str (S : List (List UInt8)) : ∀ x ∈ S.map Lit.string, WideAt.IsKeyLit x := by
  intro x hx
  obtain ⟨s, _, rfl⟩ := List.mem_map.1 hx
  trivial
theorem setD_snoc (S : List (List UInt8)) (s : List UInt8) : setD (S ++ [s]) = (setD S).put (.string s) tru := by
  unfold setD
  rw [List.map_append, List.map_cons, List.map_nil, setOf_snoc]
theorem atKey_fold (u z : DataW Unit) (k : Lit) : ∀ (acc : List Lit) (m : DataW Unit), IsMap m → (∀ x ∈ acc, WideAt.IsKeyLit x) →
    (acc.foldl (fun m x => m.put x u) m).atKey k z = if acc.any (fun x => x.sameKey k) then u else m.atKey k z
  | [], m, _, _ => by simp
  | x :: r, m, hm, h => by
    rw [List.foldl_cons, atKey_fold u z k r (m.put x u) (hm.put x u) (fun y hy => h y (by simp [hy])), List.any_cons]
    by_cases e : k = x
    · subst e
      rw [atKey_put_same hm (h k (by simp)), WideAt.sameKey_self (h k (by simp))]
      simp
    · rw [atKey_put_other e, sameKey_ne (fun e' => e e'.symm)]
      simp
theorem setD_at (S : List (List UInt8)) (s : List UInt8) : (setD S).atKey (.string s) (.lit (.bool false)) = .lit (.bool (memS S s)) := by
  have h := atKey_fold tru (.lit (.bool false)) (.string s) (S.map Lit.string) (.map []) isMap_empty (isKey_str S)
  have e : (S.map Lit.string).any (fun x => x.sameKey (.string s)) = memS S s := by
    unfold memS
    rw [List.any_map]
    rfl
  rw [e] at h
  unfold setD setOf
  rw [h]
  cases memS S s <;> rfl
set_option maxRecDepth 20000 in
theorem elem_bool {v : Value} {x : Bool} {ps : List MemPlace} (h : plainElem (H := Unit) Tryz.prog 4 v = some (.lit (.bool x), ps)) : v = .bool x := by
  unfold plainElem at h
  rw [Tryz.underlying4] at h
  cases v <;> simp at h
  rw [h.1]
set_option maxRecDepth 20000 in
/-- m[s] -/
theorem SetAt.look {w : World} {b n : Nat} {S : List (List UInt8)} (h : SetAt w b n S) (s : ByteArray) (hs : s.size ≤ maxLen) :
    (Instr.lookup 119 (.map (some b)) (.string s) false).run Tryz.prog w = .ok (.bool (memS S s.data.toList)) w := by
  obtain ⟨v, ps, hrun, hv⟩ := World.ownsMap.lookup h keyS Tryz.underlying119 (zeroBool w) (plainElem_bool Tryz.underlying4 false) (keyOf_string_mk Tryz.underlying9 hs)
  rw [setD_at] at hv
  rw [hrun, elem_bool hv]
end Go.Proofs.YtlkneapidmdpbaaGreatDoor

namespace Go.Proofs.YtlkneapidmdpbaaGreatDoor
open Go.RowKit Go.Maps Go.WideMaps

theorem beq_flip (a b : List UInt8) : (a == b) = (b == a) := by
  cases h : b == a
  · rw [beq_eq_false_iff_ne] at *; exact fun e => h e.symm
  · rw [beq_iff_eq] at *; exact h.symm
theorem CLower_as (s t : ByteArray) (w : World) (hs : s.size ≤ maxLen) (ht : t.data.toList = Lk.lower s.data.toList) :
    Calls Tryz.prog 76 #[.string s] w fun e w' => e = .returned (.string t) ∧ Below w.heap.size w w' := by
  obtain rfl : t = mk (Lk.lower s.data.toList) := by rw [← ht]; exact (mk_eq t).symm
  exact Lower_any s w hs
theorem c_lower_ba (s : ByteArray) : ∃ t : ByteArray, t.data.toList = Lk.lower s.data.toList := ⟨mk (Lk.lower s.data.toList), mk_data _⟩
theorem sown_apart {w : World} {b base : Nat} {v : Value} {l : List (List UInt8)} (h : sown w base v l) (hb : b < base) : v.ownBlock = none ∨ v.ownBlock ≠ some b := by
  refine .inr fun e => ?_
  have := (World.ownsRow.lt h b e).1
  omega
theorem val_size {xs : List (ByteArray × ByteArray)} (h : Sm (xs.map hd)) {n : List UInt8} {t : ByteArray} (ht : t.data.toList = getH (xs.map hd) n) : t.size ≤ 200000000 := by
  have h1 := congrArg List.length ht
  have h2 := get_len h n
  simp at h1; omega
theorem c_split_small : ∀ (l : List UInt8), ∀ x ∈ Lk.splitL l, x.length ≤ l.length := by
  have hc : ∀ (l : List UInt8), ∀ x ∈ Lk.cuts l, x.length ≤ l.length := by
    intro l
    induction l with
    | nil => intro x h; simp [Lk.cuts] at h; subst h; simp
    | cons c r ih =>
      intro x h
      rw [Lk.cuts_cons] at h
      split at h
      · rcases List.mem_cons.1 h with rfl | h
        · simp
        · have := ih x h; simp; omega
      · cases hc : Lk.cuts r with
        | nil => rw [hc] at h; simp [Lk.glue] at h; subst h; simp
        | cons p ps =>
          rw [hc] at h ih
          rcases List.mem_cons.1 h with rfl | h
          · have := ih p (List.mem_cons_self ..); simp; omega
          · have := ih x (List.mem_cons_of_mem _ h); simp; omega
  intro l x hx
  unfold Lk.splitL Lk.keep at hx
  obtain ⟨h1, _⟩ := List.mem_filter.1 hx
  obtain ⟨y, hy, rfl⟩ := List.mem_map.1 h1
  exact Nat.le_trans (Lk.trim_len y) (hc l y hy)

theorem plain_eq (L : List UInt8) : memS plainL L = (L == [99, 97, 99, 104, 101, 45, 99, 111, 110, 116, 114, 111, 108] || (L == [99, 111, 110, 116, 101, 110, 116, 45, 108, 97, 110, 103, 117, 97, 103, 101] || (L == [99, 111, 110, 116, 101, 110, 116, 45, 108, 101, 110, 103, 116, 104] || (L == [99, 111, 110, 116, 101, 110, 116, 45, 116, 121, 112, 101] || (L == [101, 120, 112, 105, 114, 101, 115] || (L == [108, 97, 115, 116, 45, 109, 111, 100, 105, 102, 105, 101, 100] || (L == [112, 114, 97, 103, 109, 97]))))))) := by
  unfold memS plainL
  simp only [List.any_cons, List.any_nil, Bool.or_false, beq_flip _ L]
set_option maxHeartbeats 1000000 in
theorem trusts_any (A : Option Addr) (len c B : Nat) (xs : List (ByteArray × ByteArray)) (w : World) (hlen : len = xs.length) (hB : B ≤ w.heap.size) (hx : PRow w B A xs) (hsm : Sm (xs.map hd)) :
    Calls Tryz.prog 73 #[.slice A len c] w fun e w' => e = .returned (.bool (truH (xs.map hd))) ∧ Below w.heap.size w w' := by
  have HX := Lib.hid hx
  have HS := Lib.hid hsm
  have HLen := Lib.hid hlen
  have HBB := Lib.hid hB
  obtain ⟨t, ht⟩ : ∃ t, t = mk (getH (xs.map hd) crdN) := ⟨_, rfl⟩
  have HT : Hid ((t.toList == [116, 114, 117, 101]) = truH (xs.map hd)) := by show _ = _; rw [beq_l (by rw [ht, mk_data])]; rfl
  have HTM := Lib.hid ht
  clear hx hsm hlen hB ht
  go_enter Tryz.func73, Tryz.ntmps73
  go_wp2_with fail
  refine (Get_any A len c B xs _ _ HLen.out HBB.out HX.out HS.out (by unfold maxLen; decide)).mono ?_
  rintro e w1 ⟨rfl, hb1⟩
  rw [show (ByteArray.mk #[97, 99, 99, 101, 115, 115, 45, 99, 111, 110, 116, 114, 111, 108, 45, 97, 108, 108, 111, 119, 45, 99, 114, 101, 100, 101, 110, 116, 105, 97, 108, 115]).data.toList = crdN from rfl, ← HTM.out]
  have HB1 := Lib.hid hb1
  clear hb1
  go_wp2
  go_ret
  exact ⟨ret_bool HT.out, HB1.out⟩

set_option maxHeartbeats 2000000 in
theorem CCheck_any (o : ByteArray) (cr : Bool) (A : Option Addr) (len c B : Nat) (xs : List (ByteArray × ByteArray)) (w : World) (hlen : len = xs.length) (hB : B ≤ w.heap.size) (hx : PRow w B A xs) (hsm : Sm (xs.map hd)) :
    Calls Tryz.prog 37 #[.string o, .bool cr, .slice A len c] w fun e w' => e = .returned (.int .i64 (chkH o.data.toList cr (xs.map hd))) ∧ Below w.heap.size w w' := by
  have HX := Lib.hid hx
  have HS := Lib.hid hsm
  have HLen := Lib.hid hlen
  have HBB := Lib.hid hB
  obtain ⟨v, hv⟩ : ∃ v, v = mk (getH (xs.map hd) orgN) := ⟨_, rfl⟩
  have HV := Lib.hid hv
  obtain ⟨g, hg⟩ : ∃ g, g = gotH (xs.map hd) orgN := ⟨_, rfl⟩
  have HG := Lib.hid hg
  obtain ⟨b3, h3⟩ : ∃ b3, b3 = truH (xs.map hd) := ⟨_, rfl⟩
  have H3 := Lib.hid h3
  have hvl : v.data.toList = getH (xs.map hd) orgN := by rw [hv, mk_data]
  have hres : chkH o.data.toList cr (xs.map hd) = chk g (v.toList == [42]) cr (v.toList == o.toList) b3 := by
    rw [beq_l hvl, ByteArray.toList_eq, hvl, ByteArray.toList_eq, hg, h3]; rfl
  rw [hres]
  generalize hb1 : (v.toList == [42]) = b1
  generalize hb2 : (v.toList == o.toList) = b2
  clear hx hsm hlen hB hv hg h3 hvl hres
  go_enter Tryz.func37, Tryz.ntmps37
  go_wp2_with fail
  refine (Get_any A len c B xs _ _ HLen.out HBB.out HX.out HS.out (by unfold maxLen; decide)).mono ?_
  rintro e w1 ⟨rfl, hq1⟩
  rw [show (ByteArray.mk #[97, 99, 99, 101, 115, 115, 45, 99, 111, 110, 116, 114, 111, 108, 45, 97, 108, 108, 111, 119, 45, 111, 114, 105, 103, 105, 110]).data.toList = orgN from rfl, ← HV.out, ← HG.out]
  have HB1 := Lib.hid hq1
  have HX1 : Hid (PRow w1 B A xs) := HX.out.below (hq1.mono HBB.out)
  have HBB1 : Hid (B ≤ w1.heap.size) := Nat.le_trans HBB.out hq1.size
  clear hq1
  cases g
  · go_wp2
    go_ret
    exact ⟨rfl, HB1.out⟩
  cases b1 <;> cases cr
  case true.false => 
    go_wp2
    go_ret
    exact ⟨rfl, HB1.out⟩
  case false.false =>
    cases b2
    · go_wp2
      go_ret
      exact ⟨rfl, HB1.out⟩
    · go_wp2
      go_ret
      exact ⟨rfl, HB1.out⟩
  case false.true =>
    cases b2
    · go_wp2
      go_ret
      exact ⟨rfl, HB1.out⟩
    · go_wp2_with fail
      refine (trusts_any A len c B xs _ HLen.out HBB1.out HX1.out HS.out).mono ?_
      rintro e w2 ⟨rfl, hq2⟩
      rw [← H3.out]
      have HB2 : Hid (Below w.heap.size w w2) := HB1.out.trans (hq2.mono HB1.out.size)
      clear hq2
      cases b3 <;>
      · go_wp2
        go_ret
        exact ⟨rfl, HB2.out⟩
  case true.true =>
    cases b2
    · go_wp2
      go_ret
      exact ⟨rfl, HB1.out⟩
    · go_wp2_with fail
      refine (trusts_any A len c B xs _ HLen.out HBB1.out HX1.out HS.out).mono ?_
      rintro e w2 ⟨rfl, hq2⟩
      rw [← H3.out]
      have HB2 : Hid (Below w.heap.size w w2) := HB1.out.trans (hq2.mono HB1.out.size)
      clear hq2
      cases b3 <;>
      · go_wp2
        go_ret
        exact ⟨rfl, HB2.out⟩

end Go.Proofs.YtlkneapidmdpbaaGreatDoor
