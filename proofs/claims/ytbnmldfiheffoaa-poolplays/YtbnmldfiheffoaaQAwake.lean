/-
  A pool of the call's own, each call on it by what it is told; states told by lists; the contracts of layer 13's awake and of Long over this seat's program. No conditions but those of each statement.
-/
import Derived.Test.YtbnmldfiheffoaaQTake
import Derived.Test.YtbnmldfiheffoaaNAwake
namespace Go.Proofs.Ytbnmldfiheffoaa
open Go.RowKit

/-- a pool of the call's own: all its blocks are new -/
structure PoNew (w W : World) (g : Nat) (f : List Nat) (s : Pv) : Prop where
  p : PoF W g f s
  b : Below w.heap.size w W
  n : ∀ x ∈ f, w.heap.size ≤ x
section
variable {w W W' : World} {g : Nat} {f f' : List Nat} {s s' : Pv}
theorem PoNew.step (h : PoNew w W g f s) (p : PoF W' g f' s') (o : Only f W W') (m : More W.heap.size f f') : PoNew w W' g f' s' :=
  ⟨p, Only.below h.b o h.b.size h.n, fun x hx => by rcases m x hx with h1 | h1; exact h.n x h1; exact Nat.le_trans h.b.size h1⟩
theorem PoNew.old (h : PoNew w W g f s) (o : Only [] W W') : PoNew w W' g f s := ⟨h.p.old o, Only.below h.b o h.b.size (by simp), h.n⟩
/-- what has turned lies above -/
theorem PoNew.off (h : PoNew w W g f s) {q : List Nat} (o : Only q W W') (hq : ∀ x ∈ q, w.heap.size ≤ x ∧ x ∉ f) : PoNew w W' g f s :=
  ⟨h.p.only o (fun x hx hm => (hq x hm).2 hx), Only.below h.b o h.b.size (fun x hx => (hq x hx).1), h.n⟩
theorem nNew_any {w0 : World} (n : Int) (kp : Nat) (hb : Below w0.heap.size w0 w) (hk : kp < 18446744073709551616) :
    Calls Try.prog 10 #[.int .i64 n, .int .u64 (kp : Int)] w fun e w' => ∃ g f, e = .returned (.pointer (some ⟨g, 0, none⟩)) ∧ PoNew w0 w' g f ⟨clampT n, kp, 0, [], [], []⟩ ∧ Only [] w w' ∧ ∀ x ∈ f, w.heap.size ≤ x := by
  refine (fNew_any n kp w hk).mono ?_
  rintro e w' ⟨g, f, rfl, hp, ho, hf⟩
  exact ⟨g, f, rfl, ⟨hp, Only.below hb ho hb.size (by simp), fun x hx => Nat.le_trans hb.size (hf x hx)⟩, ho, hf⟩
theorem nTake_any (k : ByteArray) (now : Nat) (h : PoNew w W g f s) (hla : s.last ≤ 1000000000) :
    Calls Try.prog 15 #[.pointer (some ⟨g, 0, none⟩), .string k, .int .u64 (now : Int)] W fun e W' =>
      e = .returned (.tuple #[.int .i64 (takeN k now s : Int), .bool (takeF k now s), .int .i64 (takeC k s : Int)]) ∧ ∃ f', PoNew w W' g f' (takeS k now s) ∧ Only f W W' ∧ More W.heap.size f f' :=
  (fTake_any k now h.p hla).mono fun _ _ ⟨e, f', p, o, m⟩ => ⟨e, f', h.step p o m, o, m⟩
theorem nGive_any (i : Int) (now : Nat) (kb : Bool) (h : PoNew w W g f s) (hn : now < 18446744073709551616) :
    Calls Try.prog 17 #[.pointer (some ⟨g, 0, none⟩), .int .i64 i, .int .u64 (now : Int), .bool kb] W fun e W' =>
      e = .returned (.int .i64 (giveC i s : Int)) ∧ ∃ f', PoNew w W' g f' (giveS i now kb s) ∧ Only f W W' ∧ More W.heap.size f f' :=
  (fGive_any i now kb h.p hn).mono fun _ _ ⟨e, f', p, o, m⟩ => ⟨e, f', h.step p o m, o, m⟩
theorem nExpire_any (now : Nat) (h : PoNew w W g f s) :
    Calls Try.prog 20 #[.pointer (some ⟨g, 0, none⟩), .int .u64 (now : Int)] W fun e W' =>
      ∃ r f', e = .returned r ∧ IRow W' r (shutG (dueB now) s) ∧ NewL W.heap.size r ∧ PoNew w W' g f' (shutP (dueB now) s) ∧ Only f W W' ∧ More W.heap.size f f' :=
  (fExpire_any now h.p).mono fun _ _ ⟨r, e, h1, h2, f', p, o, m⟩ => ⟨r, f', e, h1, h2, h.step p o m, o, m⟩
theorem nBusy_any (h : PoNew w W g f s) : Calls Try.prog 24 #[.pointer (some ⟨g, 0, none⟩)] W fun e W' => e = .returned (.int .i64 (s.b.length : Int)) ∧ W = W' := fBusy_any h.p
theorem nUsed_any (k : ByteArray) (h : PoNew w W g f s) : Calls Try.prog 25 #[.pointer (some ⟨g, 0, none⟩), .string k] W fun e W' => e = .returned (.int .i64 (usedB s.b k : Int)) ∧ PoNew w W' g f s ∧ Only [] W W' :=
  (fUsed_any k h.p).mono fun _ _ ⟨e, o⟩ => ⟨e, h.old o, o⟩
theorem nCan_any (k : ByteArray) (h : PoNew w W g f s) : Calls Try.prog 13 #[.pointer (some ⟨g, 0, none⟩), .string k] W fun e W' => e = .returned (.bool (canP s k)) ∧ PoNew w W' g f s ∧ Only [] W W' :=
  (fCan_any k h.p).mono fun _ _ ⟨e, o⟩ => ⟨e, h.old o, o⟩
theorem nHost_any (i : Int) (h : PoNew w W g f s) : Calls Try.prog 22 #[.pointer (some ⟨g, 0, none⟩), .int .i64 i] W fun e W' => e = .returned (.tuple #[.string (hostS s i), .bool (hostB s i)]) ∧ PoNew w W' g f s ∧ Only [] W W' :=
  (fHost_any i h.p).mono fun _ _ ⟨e, o⟩ => ⟨e, h.old o, o⟩
theorem nIdle_any (h : PoNew w W g f s) : Calls Try.prog 27 #[.pointer (some ⟨g, 0, none⟩)] W fun e W' => ∃ r, e = .returned r ∧ IRow W' r (sortI (connsL s.i)) ∧ NewL W.heap.size r ∧ PoNew w W' g f s ∧ Only [] W W' :=
  (fIdle_any h.p).mono fun _ _ ⟨r, e, h1, h2, o⟩ => ⟨r, e, h1, h2, h.old o, o⟩
end
/-- a state told by its lists, and so many hosts at most -/
structure Is (s : Pv) (t keep last : Nat) (b i : List Cn) (m : Nat) : Prop where
  t : s.t = t
  keep : s.keep = keep
  last : s.last = last
  b : s.b = b
  i : s.i = i
  h : s.h.length ≤ m
theorem useS_len (l : List Ho) (k : ByteArray) : (useS 32 l k).length ≤ l.length + 1 := by
  have e : ∀ i, (l.eraseIdx i).length ≤ l.length := fun i => List.length_eraseIdx_le _ _
  unfold useS
  split
  · split
    · omega
    · rw [List.length_append]; have := e (l.findIdx (keyB k)); simp; omega
  · split
    · simp
    · split
      · rw [List.length_append]; have := e (l.findIdx idleB); simp; omega
      · omega
theorem freeS_len (l : List Ho) (k : ByteArray) : (freeS l k).length = l.length := by
  unfold freeS
  split
  · split
    · rfl
    · rw [List.length_set]
  · rfl
section
variable {s : Pv} {t keep last m : Nat} {b i : List Cn}
theorem Is.mid (h : Is s t keep last b i m) (hm : m < 32) (k : ByteArray) (now : Nat) : Is (midP k now s) t keep last b (i.filter (fun c => !dueB now c)) (m + 1) := by
  have h1 := h.h
  have h2 := useS_len s.h k
  unfold midP useP
  have e : ¬ (hasC (shutP (dueB now) s).h k = false ∧ 32 ≤ (shutP (dueB now) s).h.length) := fun hh => by have : 32 ≤ s.h.length := hh.2; omega
  rw [if_neg e]
  refine ⟨h.t, h.keep, h.last, h.b, ?_, ?_⟩
  · show s.i.filter _ = _; rw [h.i]
  · show (useS 32 s.h k).length ≤ m + 1; omega
theorem Is.can (h : Is s t keep last b i m) {k : ByteArray} (h1 : b.length < t) (h2 : usedB b k < 6) : canP s k = true := by
  unfold canP
  rw [h.b, h.t, decide_eq_true h1, decide_eq_true h2]
  rfl
/-- a new connection -/
theorem Is.fresh (h : Is s t keep last b i m) (hm : m < 32) {k : ByteArray} {now : Nat} (h1 : b.length < t) (h2 : usedB b k < 6) (h3 : ∀ c ∈ i.filter (fun c => !dueB now c), c.k ≠ k) :
    takeN k now s = last + 1 ∧ takeF k now s = true ∧ takeC k s = 0 ∧
    Is (takeS k now s) t keep (last + 1) (b ++ [⟨last + 1, k, 0⟩]) (if t ≤ b.length + (i.filter (fun c => !dueB now c)).length then (i.filter (fun c => !dueB now c)).drop 1 else i.filter (fun c => !dueB now c)) (m + 1) := by
  have hm1 := h.mid hm k now
  have hl : lastO (ckeyB k) (midP k now s).i = none := by
    rw [hm1.i]
    exact lastO_none (fun j hj => ckeyB_no.2 (h3 _ (nthC_mem hj)))
  have hc := h.can h1 h2
  unfold takeN takeF takeC takeS
  rw [if_pos hc, if_pos hc, if_pos hc, if_pos hc, hl]
  refine ⟨by show s.last + 1 = _; rw [h.last], rfl, rfl, hm1.t, hm1.keep, ?_, ?_, ?_, hm1.h⟩
  · show (midP k now s).last + 1 = _; rw [hm1.last]
  · show (midP k now s).b ++ [⟨(midP k now s).last + 1, k, 0⟩] = _; rw [hm1.b, hm1.last]
  · show (if (midP k now s).t ≤ (midP k now s).b.length + (midP k now s).i.length then _ else _) = _
    rw [hm1.t, hm1.b, hm1.i]
/-- an idle one again -/
theorem Is.again (h : Is s t keep last b i m) (hm : m < 32) {k : ByteArray} {now j : Nat} (h1 : b.length < t) (h2 : usedB b k < 6) (h3 : lastO (ckeyB k) (i.filter (fun c => !dueB now c)) = some j) :
    takeN k now s = (nthC (i.filter (fun c => !dueB now c)) j).n ∧ takeF k now s = false ∧ takeC k s = 0 ∧
    Is (takeS k now s) t keep last (b ++ [nthC (i.filter (fun c => !dueB now c)) j]) ((i.filter (fun c => !dueB now c)).eraseIdx j) (m + 1) := by
  have hm1 := h.mid hm k now
  have hl : lastO (ckeyB k) (midP k now s).i = some j := by rw [hm1.i]; exact h3
  have hc := h.can h1 h2
  unfold takeN takeF takeC takeS
  rw [if_pos hc, if_pos hc, if_pos hc, if_pos hc, hl]
  refine ⟨by show (nthC (midP k now s).i j).n = _; rw [hm1.i], rfl, rfl, hm1.t, hm1.keep, hm1.last, ?_, ?_, hm1.h⟩
  · show (midP k now s).b ++ [nthC (midP k now s).i j] = _; rw [hm1.b, hm1.i]
  · show (midP k now s).i.eraseIdx j = _; rw [hm1.i]
/-- it is given back, to be kept -/
theorem Is.give (h : Is s t keep last b i m) {c : Int} {now p : Nat} (hp : b.findIdx (connB c) = p) (hl : p < b.length) (hk : keep ≠ 0) :
    giveC c s = 0 ∧ Is (giveS c now true s) t keep last (b.eraseIdx p) (i ++ [{ nthC b p with u := sumT now keep }]) m := by
  have e : s.b.findIdx (connB c) = p := by rw [h.b]; exact hp
  have hl2 : p < s.b.length := by rw [h.b]; exact hl
  unfold giveC giveS
  rw [e, if_pos hl2, if_pos hl2]
  refine ⟨rfl, h.t, h.keep, h.last, ?_, ?_, ?_⟩
  · show s.b.eraseIdx p = _; rw [h.b]
  · show (if true = true ∧ s.keep ≠ 0 then _ else _) = _
    rw [if_pos ⟨rfl, by rw [h.keep]; exact hk⟩, h.i, h.b, h.keep]
  · show (freeS s.h _).length ≤ m
    rw [freeS_len]; exact h.h
theorem Is.shut (h : Is s t keep last b i m) (p : Cn → Bool) : Is (shutP p s) t keep last b (i.filter (fun c => !p c)) m :=
  ⟨h.t, h.keep, h.last, h.b, by show s.i.filter _ = _; rw [h.i], h.h⟩
end
theorem Is.start (t keep : Nat) : Is ⟨t, keep, 0, [], [], []⟩ t keep 0 [] [] 0 := ⟨rfl, rfl, rfl, rfl, rfl, by simp⟩
theorem sortI_one (x : Int) : sortI [x] = [x] := List.mergeSort_singleton x
theorem sortI_nil : sortI [] = [] := List.mergeSort_nil
theorem connB_hit (c : Cn) : connB (c.n : Int) c = true := by unfold connB; simp
theorem usedB_nil (k : ByteArray) : usedB [] k = 0 := rfl

set_option maxHeartbeats 2000000 in
theorem awake13_any (w : World) : Calls Try.prog 9 #[] w fun e w' => e = .returned (.bool true) ∧ Below w.heap.size w w' := by
  obtain ⟨A, hA⟩ : ∃ A : ByteArray, A = ⟨#[97]⟩ := ⟨_, rfl⟩
  obtain ⟨B, hB⟩ : ∃ B : ByteArray, B = ⟨#[98]⟩ := ⟨_, rfl⟩
  have HAB : Hid (A ≠ B) := by show _ ≠ _; rw [hA, hB]; exact ne_ab
  have HA := Lib.hid hA
  have HB := Lib.hid hB
  clear hA hB
  have I0 := Is.start 1 9
  obtain ⟨s0, hs0⟩ : ∃ s0 : Pv, s0 = ⟨1, 9, 0, [], [], []⟩ := ⟨_, rfl⟩
  rw [← hs0] at I0
  have T1 := Lib.hid (I0.fresh (by omega) (k := A) (now := 0) (by simp) (by rw [usedB_nil]; omega) (by simp))
  obtain ⟨s1, hs1⟩ : ∃ s1 : Pv, s1 = takeS A 0 s0 := ⟨_, rfl⟩
  have I1 : Is s1 1 9 1 [⟨1, A, 0⟩] [] 1 := by rw [hs1]; have h1 := T1.out.2.2.2; simpa using h1
  have T2 := Lib.hid (I1.give (c := 1) (now := 0) (p := 0) (by rw [List.findIdx_cons]; simp [connB]) (by simp) (by omega))
  obtain ⟨s2, hs2⟩ : ∃ s2 : Pv, s2 = giveS 1 0 true s1 := ⟨_, rfl⟩
  have I2 : Is s2 1 9 1 [] [⟨1, A, 9⟩] 1 := by rw [hs2]; have h1 := T2.out.2; simpa [nthC, sumT] using h1
  have T3 := Lib.hid (I2.fresh (by omega) (k := B) (now := 0) (by simp) (by rw [usedB_nil]; omega) (by intro c hc; simp at hc; rw [hc.1]; exact HAB.out))
  obtain ⟨s3, hs3⟩ : ∃ s3 : Pv, s3 = takeS B 0 s2 := ⟨_, rfl⟩
  have I3 : Is s3 1 9 2 [⟨2, B, 0⟩] [] 2 := by rw [hs3]; have h1 := T3.out.2.2.2; simpa [dueB] using h1
  have HS0 := Lib.hid hs0
  have HS1 := Lib.hid hs1
  have HS2 := Lib.hid hs2
  have HS3 := Lib.hid hs3
  have L0 := Lib.hid I0.last
  have L2 := Lib.hid I2.last
  have B3 : Hid (s3.b.length = 1 ∧ sortI (connsL s3.i) = []) := by show _ ∧ _; rw [I3.b, I3.i]; exact ⟨rfl, sortI_nil⟩
  clear hs0 hs1 hs2 hs3 I0 I1 I2 I3
  go_enter Try.func9, Try.ntmps9
  go_wp2_with fail
  refine (nNew_any 1 9 (Below.refl _ w) (by omega)).mono ?_
  rintro e w1 ⟨g, f0, rfl, n0, _⟩
  rw [show clampT 1 = 1 by rfl, ← HS0.out] at n0
  have N0 := Lib.hid n0
  clear n0
  go_wp2_with fail
  rw [← HA.out]
  refine (nTake_any A 0 N0.out (by rw [L0.out]; omega)).mono ?_
  rintro e w2 ⟨rfl, f1, n1, _⟩
  rw [T1.out.1, T1.out.2.1, T1.out.2.2.1]
  rw [← HS1.out] at n1
  have N1 := Lib.hid n1
  clear n1
  go_wp2_with fail
  refine (nGive_any 1 0 true N1.out (by omega)).mono ?_
  rintro e w3 ⟨rfl, f2, n2, _⟩
  rw [T2.out.1]
  rw [← HS2.out] at n2
  have N2 := Lib.hid n2
  clear n2
  go_wp2_with fail
  rw [← HB.out]
  refine (nTake_any B 0 N2.out (by rw [L2.out]; omega)).mono ?_
  rintro e w4 ⟨rfl, f3, n3, _⟩
  rw [T3.out.1, T3.out.2.1, T3.out.2.2.1]
  rw [← HS3.out] at n3
  have N3 := Lib.hid n3
  clear n3
  go_wp2_with fail
  refine (nBusy_any N3.out).mono ?_
  rintro e w5 ⟨rfl, rfl⟩
  rw [B3.out.1]
  go_wp2_with fail
  refine (nIdle_any N3.out).mono ?_
  rintro e w6 ⟨r, rfl, hr, _, n6, _⟩
  rw [B3.out.2] at hr
  obtain ⟨Ar, capr, rfl, _, _⟩ := hr.slice
  have N6 := Lib.hid n6
  clear n6 hr
  go_wp2
  go_ret
  exact ⟨rfl, N6.out.b⟩

/-- too long in all -/
def longX : Nat → List ByteArray → Bool
  | _, [] => false
  | n, x :: r => if n ≤ x.size then true else longX (n - x.size - 1) r
theorem longX_sizes : ∀ {xs : List ByteArray} {n : Nat}, longX n xs = false → ∀ x ∈ xs, x.size < n
  | [], _, _, x, hx => by simp at hx
  | y :: r, n, h, x, hx => by
    unfold longX at h
    by_cases h1 : n ≤ y.size
    · rw [if_pos h1] at h; cases h
    · rw [if_neg h1] at h
      rcases List.mem_cons.1 hx with rfl | h2
      · omega
      · have := longX_sizes h x h2; omega
set_option maxHeartbeats 800000 in
theorem LongX_any (n B : Nat) (xs : List ByteArray) (w : World) (hc : ∀ j x, xs[j]? = some x → w.cell? ⟨B, j, none⟩ = some (.string x)) (hn : n ≤ 100000) (hl : xs.length ≤ 1000) (hs : ∀ x ∈ xs, x.size ≤ maxLen) :
    Calls Try.prog 8 #[.int .i64 (n : Int), .slice (some ⟨B, 0, none⟩) xs.length xs.length] w fun e w' => e = .returned (.bool (longX n xs)) ∧ w = w' := by
  have HX := Lib.hid hc
  have HS := Lib.hid hs
  clear hc hs
  go_enter Try.func8, Try.ntmps8
  go_wp2_with fail
  go_loop [0, 5] (fun m i => ∃ k q : Nat, k ≤ xs.length ∧ i = .int .i64 k ∧ m = .int .i64 q ∧ q ≤ n ∧ longX n xs = longX q (xs.drop k)) (fun _ i => xs.length - (intOf i).toNat)
  case atStart => exact ⟨0, n, Nat.zero_le _, rfl, rfl, Nat.le_refl _, rfl⟩
  case round =>
    obtain ⟨k, q, hk, rfl, rfl, hq, he⟩ := hrel
    have HE := Lib.hid he
    clear he
    by_cases hlt : k < xs.length
    · have hc := HX.out k xs[k] (List.getElem?_eq_getElem hlt)
      have hz := HS.out xs[k] (List.getElem_mem hlt)
      unfold maxLen at hz
      have HD : Hid (xs.drop k = xs[k] :: xs.drop (k + 1)) := List.drop_eq_getElem_cons hlt
      generalize xs[k] = x at *
      by_cases hz2 : q ≤ x.size
      · go_wp2
        go_ret
        exact ⟨ret_bool (by rw [HE.out, HD.out, longX, if_pos hz2]), rfl⟩
      · go_wp2
        go_round
        case rel =>
          refine ⟨k + 1, q - x.size - 1, by omega, by go_num, by go_num, by omega, ?_⟩
          rw [HE.out, HD.out, longX, if_neg hz2]
        case measure => simp [intOf]; omega
    · go_wp2
      go_ret
      exact ⟨ret_bool (by rw [HE.out, List.drop_of_length_le (by omega)]; rfl), rfl⟩
end Go.Proofs.Ytbnmldfiheffoaa
