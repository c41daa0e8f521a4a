/-
  Contracts of target's cutOrigin, cutQuery and withoutLast, over this seat's program: each returns what the plain mathematics says. Conditions: the texts' sizes are such as any text's (cutOrigin: at most 512); the library's variables are as they are laid.
-/
import Derived.Test.YtfamllkmmiajoaaDoorHAny
namespace Go.Proofs.YtfamllkmmiajoaaDoor
open Go.RowKit

/-- the first byte that P does not hold of -/
theorem while_cases (P : UInt8 → Bool) : ∀ l : List UInt8, (∀ b ∈ l, P b = true) ∨ ∃ x r, l.dropWhile P = x :: r ∧ P x = false
  | [] => .inl (by simp)
  | b :: l => by
    by_cases hb : P b = true
    · rcases while_cases P l with h | ⟨x, r, e, h⟩
      · exact .inl (fun y hy => by rcases List.mem_cons.1 hy with rfl | hy; exact hb; exact h y hy)
      · exact .inr ⟨x, r, by rw [List.dropWhile_cons, if_pos hb, e], h⟩
    · exact .inr ⟨b, l, by rw [List.dropWhile_cons, if_neg hb], by simpa using hb⟩
theorem take_all_while {P : UInt8 → Bool} {l : List UInt8} (h : ∀ b ∈ l, P b = true) : l.takeWhile P = l ∧ l.dropWhile P = [] := by
  have := take_stop (P := P) (a := l) (b := []) h (.inl rfl)
  simpa using this
theorem take_while_mem (P : UInt8 → Bool) : ∀ (l : List UInt8), ∀ x ∈ l.takeWhile P, P x = true
  | [], x, h => by simp at h
  | b :: l, x, h => by
    rw [List.takeWhile_cons] at h
    by_cases hb : P b = true
    · rw [if_pos hb] at h
      rcases List.mem_cons.1 h with rfl | h
      · exact hb
      · exact take_while_mem P l x h
    · rw [if_neg hb] at h; simp at h

theorem nq_false {x : UInt8} (h : nq x = false) : x = 63 := by simpa [nq] using h
theorem nsq_contains (b : UInt8) : ([47, 63] : List UInt8).contains b = !nsq b := by
  unfold nsq
  by_cases h1 : b = 47
  · subst h1; rfl
  · by_cases h2 : b = 63
    · subst h2; rfl
    · simp [h1, h2]
theorem indexAny_while : ∀ l : List UInt8, Lib.indexAny l [47, 63] = if l.dropWhile nsq = [] then -1 else ((l.takeWhile nsq).length : Int)
  | [] => rfl
  | b :: l => by
    rw [Lib.indexAny, nsq_contains, List.dropWhile_cons, List.takeWhile_cons, indexAny_while l]
    cases hb : nsq b
    · simp
    · simp only [Bool.not_true, Bool.false_eq_true, if_false, if_true]
      by_cases hd : l.dropWhile nsq = []
      · simp [hd]
      · have : (((l.takeWhile nsq).length : Int) == -1) = false := by rw [beq_eq_false_iff_ne]; omega
        simp [hd, this]

theorem ret_two {a a' b b' : ByteArray} (h : a = a') (k : b = b') : Ending.returned (.tuple #[.string a, .string b]) = .returned (.tuple #[.string a', .string b']) := by rw [h, k]

set_option maxHeartbeats 1000000 in
theorem cutQuery_any (s : ByteArray) (w : World) :
    Calls Tryd.prog 28 #[.string s] w fun e w' => e = .returned (.tuple #[.string (mk (s.data.toList.takeWhile nq)), .string (mk (s.data.toList.dropWhile nq))]) ∧ ∃ n, w' = w.drewN n := by
  have HI : Hid (∀ i, Lib.indexByte s.data.toList 63 = i → Calls Tryd.prog 52 #[.string s, .int .u8 63] w fun e w' => e = .returned (.int .i64 i) ∧ w = w') := by
    intro i hi
    refine (Tryd.strings_IndexByte s 63 w).mono ?_
    rintro e w' ⟨rfl, rfl⟩
    exact ⟨by rw [show ((63 : Int).toNat.toUInt8) = 63 from rfl, hi], rfl⟩
  rcases while_cases nq s.data.toList with h | ⟨x, r, e, h⟩
  · have ⟨t1, t2⟩ := take_all_while h
    have hi := indexByte_no s.data.toList 63 (fun b hb hx => by have := h b hb; rw [hx] at this; simp [nq] at this)
    have HC := Lib.hid (HI.out _ hi)
    have T1 : Hid (s = mk (s.data.toList.takeWhile nq)) := by show _ = _; rw [t1]; exact (mk_eq s).symm
    have T2 : Hid ((⟨#[]⟩ : ByteArray) = mk (s.data.toList.dropWhile nq)) := by show _ = _; rw [t2]; rfl
    clear t1 t2 hi h HI
    go_enter Tryd.func28, Tryd.ntmps28
    go_wp2_with (go_at_call 52; refine HC.out.mono ?_; rintro e w' ⟨rfl, rfl⟩)
    go_ret2
    exact ⟨ret_two T1.out T2.out, 0, rfl⟩
  · have hx := nq_false h
    subst hx
    obtain ⟨a, ha⟩ : ∃ a, a = s.data.toList.takeWhile nq := ⟨_, rfl⟩
    have es : s.data.toList = a ++ 63 :: r := by rw [ha, ← e, List.takeWhile_append_dropWhile]
    have hna : ∀ x ∈ a, x ≠ 63 := by
      intro x hx hx63
      rw [ha] at hx
      have := take_while_mem nq _ x hx
      rw [hx63] at this
      simp [nq] at this
    have hi := indexByte_at a r 63 hna
    rw [← es] at hi
    have HC := Lib.hid (HI.out _ hi)
    have hsz : s.size = a.length + (r.length + 1) := by have := congrArg List.length es; simpa using this
    have E1 : Hid (s.extract 0 a.length = mk (s.data.toList.takeWhile nq)) := by show _ = _; rw [← ha, Lib.extract_eq, es]; simp [mk]
    have E2 : Hid (s.extract a.length s.size = mk (s.data.toList.dropWhile nq)) := by
      show _ = _; rw [e, Lib.extract_eq, es]; simp [mk]; exact List.take_of_length_le (by simp; omega)
    have hle : a.length ≤ s.size := by omega
    clear es hna hi HI e ha h hsz
    go_enter Tryd.func28, Tryd.ntmps28
    go_wp2_with (go_at_call 52; refine HC.out.mono ?_; rintro e w' ⟨rfl, rfl⟩)
    go_quiet (fail)
    go_wp2
    go_ret2
    exact ⟨ret_two E1.out E2.out, _, rfl⟩

def cutOV (l : List UInt8) : Value :=
  match seek l with
  | none => .tuple #[.string ⟨#[]⟩, .string ⟨#[]⟩, .bool false]
  | some (a, b) => .tuple #[.string (mk (headL a b)), .string (mk (b.dropWhile nsq)), .bool true]

theorem IndexSch (s : ByteArray) (w : World) (hs : s.size ≤ 512) (he : Env w) : ∃ i : Int, i = (match seek s.data.toList with | some (a, _) => (a.length : Int) | none => -1) ∧
    Calls Tryd.prog 50 #[.string s, .string ⟨#[58, 47, 47]⟩] w fun e w' => e = .returned (.int .i64 i) ∧ w = w' := by
  refine ⟨_, rfl, ?_⟩
  obtain ⟨m, hm⟩ := he.len
  refine (Tryd.strings_Index s ⟨#[58, 47, 47]⟩ m w (by omega) hm).mono ?_
  rintro e w' ⟨rfl, rfl⟩
  exact ⟨congrArg (fun i => Ending.returned (.int .i64 i)) (index_seek s.data.toList), rfl⟩
theorem IndexAny_as (s : ByteArray) (w : World) (i : Int) (hs : s.size ≤ 512) (hi : i = Lib.indexAny s.data.toList [47, 63]) :
    Calls Tryd.prog 51 #[.string s, .string ⟨#[47, 63]⟩] w fun e w' => e = .returned (.int .i64 i) ∧ Below w.heap.size w w' := by
  rw [hi]; exact IndexAny_any s w (by omega)
theorem ret_cut' {a a' b b' : ByteArray} (h : a = a') (k : b = b') : Ending.returned (.tuple #[.string a, .string b, .bool true]) = .returned (.tuple #[.string a', .string b', .bool true]) := by rw [h, k]

set_option maxHeartbeats 2000000 in
theorem cutOrigin_any (s : ByteArray) (w : World) (hs : s.size ≤ 512) (he : Env w) :
    Calls Tryd.prog 27 #[.string s] w fun e w' => e = .returned (cutOV s.data.toList) ∧ Below w.heap.size w w' := by
  obtain ⟨i, hi, hc⟩ := IndexSch s w hs he
  have HC := Lib.hid hc
  clear hc he
  cases hsk : seek s.data.toList with
  | none =>
    rw [hsk] at hi
    have HV : Hid (cutOV s.data.toList = .tuple #[.string ⟨#[]⟩, .string ⟨#[]⟩, .bool false]) := by show _ = _; rw [cutOV, hsk]
    clear hsk
    simp only at hi
    subst hi
    go_enter Tryd.func27, Tryd.ntmps27
    go_wp2_with (go_at_call 50; refine HC.out.mono ?_; rintro e w' ⟨rfl, rfl⟩)
    go_ret3
    exact ⟨(congrArg Ending.returned HV.out).symm, Below.refl _ _⟩
  | some q =>
    obtain ⟨a, b⟩ := q
    rw [hsk] at hi
    have es := seek_eq _ _ _ hsk
    have HV : Hid (cutOV s.data.toList = .tuple #[.string (mk (headL a b)), .string (mk (b.dropWhile nsq)), .bool true]) := by show _ = _; rw [cutOV, hsk]
    clear hsk
    simp only at hi
    subst hi
    have hsz : s.size = a.length + 3 + b.length := by have := congrArg List.length es; simp at this; omega
    have eb : s.extract (a.length + 3) s.size = mk b := by
      rw [Lib.extract_eq, es]; simp [mk, hsz]
    obtain ⟨t, ht⟩ : ∃ t, t = mk b := ⟨_, rfl⟩
    rw [← ht] at eb
    have htz : t.size ≤ 512 := by rw [ht, mk_size]; omega
    have htl : t.data.toList = b := by rw [ht, mk_data]
    obtain ⟨k, hk⟩ : ∃ k, k = Lib.indexAny t.data.toList [47, 63] := ⟨_, rfl⟩
    have HK := Lib.hid hk
    have hk2 := hk
    rw [htl, indexAny_while] at hk2
    have hw3 : IntKind.i64.wrap ((a.length : Int) + 3) = (a.length : Int) + 3 := IntWalk.i64_in _ (by omega)
    by_cases hd : b.dropWhile nsq = []
    · rw [if_pos hd] at hk2
      have hal : b.takeWhile nsq = b := by
        have := List.takeWhile_append_dropWhile (p := nsq) (l := b)
        rw [hd, List.append_nil] at this; exact this
      have E1 : Hid (s = mk (headL a b)) := by show _ = _; rw [headL, hal, ← es]; exact (mk_eq s).symm
      have E2 : Hid ((⟨#[]⟩ : ByteArray) = mk (b.dropWhile nsq)) := by show _ = _; rw [hd]; rfl
      subst hk2
      clear hk hd hal es ht htl
      have hle3 : a.length + 3 ≤ s.size := by omega
      clear hsz
      go_enter Tryd.func27, Tryd.ntmps27
      go_wp2_with (go_at_call 50; refine HC.out.mono ?_; rintro e w' ⟨rfl, rfl⟩)
      rw [eb]
      refine (IndexAny_as t _ _ htz HK.out).mono ?_
      rintro e w2 ⟨rfl, hb⟩
      go_wp2
      go_ret3
      exact ⟨(ret_cut' E1.out E2.out).trans (congrArg Ending.returned HV.out).symm, hb⟩
    · rw [if_neg hd] at hk2
      obtain ⟨t1, h1⟩ : ∃ t1, t1 = b.takeWhile nsq := ⟨_, rfl⟩
      obtain ⟨t2, h2⟩ : ∃ t2, t2 = b.dropWhile nsq := ⟨_, rfl⟩
      have e12 : b = t1 ++ t2 := by rw [h1, h2, List.takeWhile_append_dropWhile]
      have es2 : s.data.toList = (a ++ [58, 47, 47] ++ t1) ++ t2 := by rw [es]; simp [e12]
      have hl12 : b.length = t1.length + t2.length := by rw [e12]; simp
      have E1 : Hid (s.extract 0 (a.length + 3 + t1.length) = mk (headL a b)) := by
        show _ = _
        rw [Lib.extract_eq, es2, headL, ← h1]
        simp only [Nat.sub_zero, List.drop_zero]
        rw [List.take_left' (by simp; omega)]; rfl
      have E2 : Hid (s.extract (a.length + 3 + t1.length) s.size = mk (b.dropWhile nsq)) := by
        show _ = _
        rw [Lib.extract_eq, es2, List.drop_left' (by simp; omega), List.take_of_length_le (by omega), ← h2]; rfl
      rw [← h1] at hk2
      have hlen : t1.length ≤ b.length := by omega
      clear e12 es2 h1
      generalize t1.length = m at *
      subst hk2
      have hw4 : IntKind.i64.wrap ((a.length : Int) + 3 + (m : Int)) = (a.length : Int) + 3 + (m : Int) := IntWalk.i64_in _ (by omega)
      have et : ((a.length : Int) + 3 + (m : Int)).toNat = a.length + 3 + m := by omega
      have hle : a.length + 3 + m ≤ s.size := by omega
      have hle3 : a.length + 3 ≤ s.size := by omega
      clear hk hd es ht htl hsz h2 hl12 hlen
      go_enter Tryd.func27, Tryd.ntmps27
      go_wp2_with (go_at_call 50; refine HC.out.mono ?_; rintro e w' ⟨rfl, rfl⟩)
      rw [eb]
      refine (IndexAny_as t _ _ htz HK.out).mono ?_
      rintro e w2 ⟨rfl, hb⟩
      go_wp2_with fail
      go_quiet (fail)
      go_wp2
      go_ret3
      exact ⟨(ret_cut' E1.out E2.out).trans (congrArg Ending.returned HV.out).symm, below_drewN hb _⟩
end Go.Proofs.YtfamllkmmiajoaaDoor
