/-
  A table at its blocks and of the call's own, each call on it by what it is told; Long and great; the contract of layer 18's awake over this seat's program. No conditions but those of each statement.
-/
import Derived.Test.YtcljmdpnbfefbaaXLeave
import Derived.Test.YtcljmdpnbfefbaaXRef4
namespace Go.Proofs.Ytcljmdpnbfefbaa
open Go.RowKit

/-- a table at block g, all its blocks those of f; what holds of it at any time -/
def TabF (e : TypeId) (d : Nat) (w : World) (g : Nat) (f : List Nat) (s : Sv) : Prop := ∃ v l, f = foot g v l ∧ ShAt e d w g v s.last l ∧ l.map Px.p = s.l ∧ Ok s
/-- blocks anew: those of f, or new ones -/
def More (n : Nat) (f f' : List Nat) : Prop := ∀ x ∈ f', x ∈ f ∨ n ≤ x
/-- a step on it -/
def Nx (e : TypeId) (d : Nat) (w w' : World) (g : Nat) (f : List Nat) (s : Sv) : Prop := ∃ f', TabF e d w' g f' s ∧ Only f w w' ∧ More w.heap.size f f'
section
variable {e : TypeId} {d : Nat} {w w' : World} {g : Nat} {f : List Nat} {s : Sv}
theorem TabF.lt (h : TabF e d w g f s) {x : Nat} (hx : x ∈ f) : x < w.heap.size := by
  obtain ⟨v, l, rfl, hp, _, _⟩ := h
  exact hp.own hx
theorem TabF.ok (h : TabF e d w g f s) : Ok s := by obtain ⟨_, _, _, _, _, h⟩ := h; exact h
theorem TabF.self (h : TabF e d w g f s) : g ∈ f := by obtain ⟨v, l, rfl, _, _, _⟩ := h; exact mem_foot.2 (.inl rfl)
theorem TabF.only {q : List Nat} (h : TabF e d w g f s) (o : Only q w w') (hq : ∀ x ∈ f, x ∉ q) : TabF e d w' g f s := by
  obtain ⟨v, l, rfl, hp, hl, hk⟩ := h
  exact ⟨v, l, rfl, hp.only o hq, hl, hk⟩
theorem TabF.old (h : TabF e d w g f s) (o : Only [] w w') : TabF e d w' g f s := h.only o (by simp)
theorem ShStep.nx (h : ShStep e d w w' g f s) (hk : Ok s) : Nx e d w w' g f s := by
  obtain ⟨v', l', h1, h2, h3, h4⟩ := h
  exact ⟨_, ⟨v', l', rfl, h1, h2, hk⟩, h3, h4⟩
theorem TabF.row (h : TabF e d w g f s) : ∃ A cap, w.cell? ⟨g, 1, none⟩ = some (.slice A s.l.length cap) ∧ s.l.length ≤ cap ∧ cap ≤ maxLen := by
  obtain ⟨v, l, rfl, hp, hl, hk⟩ := h
  obtain ⟨A, cap, e, h1, h2⟩ := hp.row.slice
  rw [map_len hl] at e h1
  exact ⟨A, cap, by rw [hp.c1, e], h1, h2⟩
theorem fJoin_any (k : Wt) (i : Int) (h : TabF eP 1 w g f s) (hla : s.last ≤ 1000000000) :
    Calls Try.prog 12 #[.pointer (some ⟨g, 0, none⟩), wV k, .int .i64 i] w fun e w' =>
      e = .returned (.tuple #[.int .i64 (joinN k i s : Int), .bool (joinF k i s), .int .i64 (joinC i s : Int)]) ∧ Nx eP 1 w w' g f (joinS k i s) := by
  obtain ⟨v, l, rfl, hp, hl, hk⟩ := h
  exact (sJoin_any g v l s w hp hl k i hk hla).mono fun _ _ ⟨e, st⟩ => ⟨e, st.nx (hk.join k i)⟩
theorem fLeave_any (i : Int) (h : TabF eP 1 w g f s) :
    Calls Try.prog 14 #[.pointer (some ⟨g, 0, none⟩), .int .i64 i] w fun e w' =>
      e = .returned (.tuple #[.int .i64 (leaveN i s : Int), .bool (leaveF i s), .bool (leaveO i s)]) ∧ Nx eP 1 w w' g f (leaveS i s) := by
  obtain ⟨v, l, rfl, hp, hl, hk⟩ := h
  exact (sLeave_any g v l s w hp hl i hk).mono fun _ _ ⟨e, st⟩ => ⟨e, st.nx (hk.leave i)⟩
theorem fDone_any (k : Int) (h : TabF eP 1 w g f s) :
    Calls Try.prog 17 #[.pointer (some ⟨g, 0, none⟩), .int .i64 k] w fun e w' => ∃ r, e = .returned r ∧ IRow w' r (doneR k s) ∧ (∀ y ∈ ownL r, y ∈ f) ∧ Nx eP 1 w w' g f (doneS k s) := by
  obtain ⟨v, l, rfl, hp, hl, hk⟩ := h
  exact (sDone_any g v l s w hp hl k).mono fun _ _ ⟨r, e, h1, h2, st⟩ => ⟨r, e, h1, h2, st.nx (hk.done k)⟩
theorem fOf_any (i : Int) (h : TabF eP 1 w g f s) : Calls Try.prog 21 #[.pointer (some ⟨g, 0, none⟩), .int .i64 i] w fun e w' => e = .returned (.int .i64 (ofN i s : Int)) ∧ Only [] w w' := by
  obtain ⟨v, l, rfl, hp, hl, hk⟩ := h
  exact sOf_any g v l s w hp hl i
theorem fMembers_any (k : Int) (h : TabF eP 1 w g f s) : Calls Try.prog 23 #[.pointer (some ⟨g, 0, none⟩), .int .i64 k] w fun e w' => ∃ r, e = .returned r ∧ IRow w' r (doneR k s) ∧ NewL w.heap.size r ∧ Only [] w w' := by
  obtain ⟨v, l, rfl, hp, hl, hk⟩ := h
  exact sMembers_any g v l s w hp hl k hk
theorem fWant_any (k : Int) (h : TabF eP 1 w g f s) : Calls Try.prog 19 #[.pointer (some ⟨g, 0, none⟩), .int .i64 k] w fun e w' => e = .returned (.tuple #[wV (wantW k s), .bool (wantO k s)]) ∧ Only [] w w' := by
  obtain ⟨v, l, rfl, hp, hl, hk⟩ := h
  exact sWant_any g v l s w hp hl k
theorem fLen_any (h : TabF eP 1 w g f s) : Calls Try.prog 25 #[.pointer (some ⟨g, 0, none⟩)] w fun e w' => e = .returned (.int .i64 (s.l.length : Int)) ∧ Only [] w w' := by
  obtain ⟨v, l, rfl, hp, hl, hk⟩ := h
  exact sLen_any g v l s w hp hl
theorem hJoin_any (k : Wt) (i : Int) (h : TabF eR 0 w g f s) (hla : s.last ≤ 1000000000) :
    Calls Try.prog 13 #[.pointer (some ⟨g, 0, none⟩), wV k, .int .i64 i] w fun e w' =>
      e = .returned (.tuple #[.int .i64 (joinN k i s : Int), .bool (joinF k i s), .int .i64 (joinC i s : Int)]) ∧ Nx eR 0 w w' g f (joinS k i s) := by
  obtain ⟨v, l, rfl, hp, hl, hk⟩ := h
  exact (rJoin_any g v l s w hp hl k i hk hla).mono fun _ _ ⟨e, st⟩ => ⟨e, st.nx (hk.join k i)⟩
theorem hLeave_any (i : Int) (h : TabF eR 0 w g f s) :
    Calls Try.prog 15 #[.pointer (some ⟨g, 0, none⟩), .int .i64 i] w fun e w' =>
      e = .returned (.tuple #[.int .i64 (leaveN i s : Int), .bool (leaveF i s), .bool (leaveO i s)]) ∧ Nx eR 0 w w' g f (leaveS i s) := by
  obtain ⟨v, l, rfl, hp, hl, hk⟩ := h
  exact (rLeave_any g v l s w hp hl i hk).mono fun _ _ ⟨e, st⟩ => ⟨e, st.nx (hk.leave i)⟩
theorem hDone_any (k : Int) (h : TabF eR 0 w g f s) :
    Calls Try.prog 18 #[.pointer (some ⟨g, 0, none⟩), .int .i64 k] w fun e w' => ∃ r, e = .returned r ∧ IRow w' r (doneR k s) ∧ (∀ y ∈ ownL r, y ∈ f) ∧ Nx eR 0 w w' g f (doneS k s) := by
  obtain ⟨v, l, rfl, hp, hl, hk⟩ := h
  exact (rDone_any g v l s w hp hl k hk).mono fun _ _ ⟨r, e, h1, h2, st⟩ => ⟨r, e, h1, h2, st.nx (hk.done k)⟩
theorem hOf_any (i : Int) (h : TabF eR 0 w g f s) : Calls Try.prog 22 #[.pointer (some ⟨g, 0, none⟩), .int .i64 i] w fun e w' => e = .returned (.int .i64 (ofN i s : Int)) ∧ w = w' := by
  obtain ⟨v, l, rfl, hp, hl, hk⟩ := h
  exact rOf_any g v l s w hp hl i
theorem hMembers_any (k : Int) (h : TabF eR 0 w g f s) : Calls Try.prog 24 #[.pointer (some ⟨g, 0, none⟩), .int .i64 k] w fun e w' => ∃ r, e = .returned r ∧ IRow w' r (doneR k s) ∧ NewL w.heap.size r ∧ Only [] w w' := by
  obtain ⟨v, l, rfl, hp, hl, hk⟩ := h
  exact rMembers_any g v l s w hp hl k hk
theorem hWant_any (k : Int) (h : TabF eR 0 w g f s) : Calls Try.prog 20 #[.pointer (some ⟨g, 0, none⟩), .int .i64 k] w fun e w' => e = .returned (.tuple #[wV (wantW k s), .bool (wantO k s)]) ∧ Only [] w w' := by
  obtain ⟨v, l, rfl, hp, hl, hk⟩ := h
  exact rWant_any g v l s w hp hl k
end
theorem foot_new (g : Nat) : foot g (.slice none 0 0) [] = [g] := by simp [foot, feet, ownL, Value.ownBlock]
theorem fNew_any (w : World) : Calls Try.prog 8 #[] w fun e w' => ∃ g, e = .returned (.pointer (some ⟨g, 0, none⟩)) ∧ TabF eP 1 w' g [g] s0 ∧ Only [] w w' ∧ w.heap.size ≤ g := by
  refine (sNew_any w).mono ?_
  rintro e w' ⟨g, rfl, hp, ho, hg⟩
  exact ⟨g, rfl, ⟨_, _, (foot_new g).symm, hp, rfl, Ok.start⟩, ho, hg⟩
theorem hNew_any (w : World) : Calls Try.prog 9 #[] w fun e w' => ∃ g, e = .returned (.pointer (some ⟨g, 0, none⟩)) ∧ TabF eR 0 w' g [g] s0 ∧ Only [] w w' ∧ w.heap.size ≤ g := by
  refine (rNew_any w).mono ?_
  rintro e w' ⟨g, rfl, hp, ho, hg⟩
  exact ⟨g, rfl, ⟨_, _, (foot_new g).symm, hp, rfl, Ok.start⟩, ho, hg⟩
/-- a table of the call's own: all its blocks are new -/
structure TbN (e : TypeId) (d : Nat) (w W : World) (g : Nat) (f : List Nat) (s : Sv) : Prop where
  p : TabF e d W g f s
  b : Below w.heap.size w W
  n : ∀ x ∈ f, w.heap.size ≤ x
section
variable {e : TypeId} {d : Nat} {w W W' : World} {g : Nat} {f f' : List Nat} {s s' : Sv}
theorem TbN.step (h : TbN e d w W g f s) (p : Nx e d W W' g f s') : ∃ f', TbN e d w W' g f' s' ∧ Only f W W' ∧ More W.heap.size f f' := by
  obtain ⟨f', p, o, m⟩ := p
  exact ⟨f', ⟨p, Only.below h.b o h.b.size h.n, fun x hx => by rcases m x hx with h1 | h1; exact h.n x h1; exact Nat.le_trans h.b.size h1⟩, o, m⟩
theorem TbN.old (h : TbN e d w W g f s) (o : Only [] W W') : TbN e d w W' g f s := ⟨h.p.old o, Only.below h.b o h.b.size (by simp), h.n⟩
/-- what has turned lies above -/
theorem TbN.off (h : TbN e d w W g f s) {q : List Nat} (o : Only q W W') (hq : ∀ x ∈ q, w.heap.size ≤ x ∧ x ∉ f) : TbN e d w W' g f s :=
  ⟨h.p.only o (fun x hx hm => (hq x hm).2 hx), Only.below h.b o h.b.size (fun x hx => (hq x hx).1), h.n⟩
theorem TbN.made {w0 : World} (hb : Below w0.heap.size w0 w) (p : TabF e d W g [g] s) (o : Only [] w W) (hg : w.heap.size ≤ g) : TbN e d w0 W g [g] s :=
  ⟨p, Only.below hb o hb.size (by simp), fun x hx => by simp at hx; subst hx; exact Nat.le_trans hb.size hg⟩
end

/-- too long in all -/
def longX : Nat → List ByteArray → Bool
  | _, [] => false
  | n, x :: r => if n ≤ x.size then true else longX (n - x.size - 1) r
set_option maxHeartbeats 800000 in
theorem LongX_any (n B : Nat) (xs : List ByteArray) (w : World) (hc : ∀ j x, xs[j]? = some x → w.cell? ⟨B, j, none⟩ = some (.string x)) (hn : n ≤ 100000) (hl : xs.length ≤ 1000) (hs : ∀ x ∈ xs, x.size ≤ maxLen) :
    Calls Try.prog 27 #[.int .i64 (n : Int), .slice (some ⟨B, 0, none⟩) xs.length xs.length] w fun e w' => e = .returned (.bool (longX n xs)) ∧ w = w' := by
  have HX := Lib.hid hc
  have HS := Lib.hid hs
  clear hc hs
  go_enter Try.func27, Try.ntmps27
  go_wp2_with fail
  go_loop [0, 5] (fun m i => ∃ k q : Nat, k ≤ xs.length ∧ i = .int .i64 k ∧ m = .int .i64 q ∧ q ≤ n ∧ longX n xs = longX q (xs.drop k)) (fun _ i => xs.length - (intOf i).toNat)
  case atStart => exact ⟨0, n, Nat.zero_le _, rfl, rfl, Nat.le_refl _, rfl⟩
  case round =>
    obtain ⟨k, q, hk, rfl, rfl, hq, he⟩ := hrel
    have HE := Lib.hid he
    clear he
    by_cases hlt : k < xs.length
    · have hc := HX.out k xs[k] (List.getElem?_eq_getElem hlt)
      have hz := HS.out xs[k] (List.getElem_mem hlt)
      unfold maxLen at hz
      have HD : Hid (xs.drop k = xs[k] :: xs.drop (k + 1)) := List.drop_eq_getElem_cons hlt
      generalize xs[k] = x at *
      by_cases hz2 : q ≤ x.size
      · go_wp2
        go_ret
        exact ⟨ret_bool (by rw [HE.out, HD.out, longX, if_pos hz2]), rfl⟩
      · go_wp2
        go_round
        case rel =>
          refine ⟨k + 1, q - x.size - 1, by omega, by go_num, by go_num, by omega, ?_⟩
          rw [HE.out, HD.out, longX, if_neg hz2]
        case measure => simp [intOf]; omega
    · go_wp2
      go_ret
      exact ⟨ret_bool (by rw [HE.out, List.drop_of_length_le (by omega)]; rfl), rfl⟩
/-- a want that came in -/
structure WtWf (k : Wt) : Prop where
  o : k.o.size ≤ maxLen
  u : k.u.size ≤ maxLen
  m : k.m.size ≤ maxLen
  s : k.s.size ≤ maxLen
set_option maxHeartbeats 800000 in
theorem great_any (k : Wt) (w : World) (hk : WtWf k) : Calls Try.prog 10 #[wV k] w fun r w' => ∃ b, r = .returned (.bool b) ∧ Only [] w w' := by
  obtain ⟨W1, hW1⟩ : ∃ W1, W1 = w.alloc (.cells #[.string k.o, .string k.u, .bool k.c, .string k.m, .string k.s] 31) := ⟨_, rfl⟩
  obtain ⟨W2, hW2⟩ : ∃ W2, W2 = W1.alloc (.cells #[.string k.o, .string k.u, .string k.m, .string k.s] 9) := ⟨_, rfl⟩
  have HO2 : Hid (Only [] w W2) := by show Only _ _ _; rw [hW2, hW1]; exact ((Only.refl _ _).alloc _).alloc _
  obtain ⟨B2, hB2⟩ : ∃ B2, B2 = W1.heap.size := ⟨_, rfl⟩
  have hB2s : B2 = w.heap.size + 1 := by rw [hB2, hW1]; simp
  have HR2 : Hid (∀ j x, [k.o, k.u, k.m, k.s][j]? = some x → W2.cell? ⟨B2, j, none⟩ = some (.string x)) := by
    show ∀ j x, _ → _
    intro j x hj
    rw [hW2, hB2]
    match j, hj with
    | 0, hj => simp at hj; subst hj; simp
    | 1, hj => simp at hj; subst hj; simp
    | 2, hj => simp at hj; subst hj; simp
    | 3, hj => simp at hj; subst hj; simp
    | j + 4, hj => simp at hj
  obtain ⟨o, u, m, h⟩ := hk
  have hlong := LongX_any 300 B2 [k.o, k.u, k.m, k.s] W2 HR2.out (by omega) (by simp) (by simp only [List.mem_cons, List.not_mem_nil, or_false]; rintro x (rfl | rfl | rfl | rfl) <;> assumption)
  generalize longX 300 [k.o, k.u, k.m, k.s] = q at *
  simp only [wV]
  clear o u m h
  go_enter Try.func10, Try.ntmps10
  go_wp2_with fail
  rw [← hB2s, ← hW1, ← hW2]
  clear hW1 hW2 hB2 hB2s
  refine hlong.mono ?_
  rintro r w' ⟨rfl, rfl⟩
  clear hlong
  go_wp2
  go_ret
  exact ⟨q, rfl, HO2.out⟩
end Go.Proofs.Ytcljmdpnbfefbaa
