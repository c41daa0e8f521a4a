/-
  What is due, one behind the other, and the contracts of the statements' helpers due and Ints over this seat's program. Conditions: those of each statement.
-/
import Derived.Test.YtbpdemgbljbhcaaWLawWaits
namespace Go.Proofs.Ytbpdemgbljbhcaa
open Go.RowKit

/-- by the time now these go, in this order: s' is left -/
def Took (now : Int) : List Al → List Int → List Al → Prop
  | s, [], s' => s' = s
  | s, i :: l, s' => ∃ m, Fore s m ∧ m.2.1 = i ∧ m.1 ≤ now ∧ Took now (without i s) l s'
theorem Took.snoc {now : Int} : ∀ {l : List Int} {s s' : List Al} {m : Al}, Took now s l s' → Fore s' m → m.1 ≤ now → Took now s (l ++ [m.2.1]) (without m.2.1 s')
  | [], s, s', m, h, hm, hn => by
    unfold Took at h
    subst h
    exact ⟨m, hm, rfl, hn, rfl⟩
  | i :: l, s, s', m, h, hm, hn => by
    obtain ⟨m0, h1, h2, h3, h4⟩ := h
    exact ⟨m0, h1, h2, h3, Took.snoc h4 hm hn⟩
theorem Took.append {now : Int} : ∀ {l l2 : List Int} {s s' s2 : List Al}, Took now s l s' → Took now s' l2 s2 → Took now s (l ++ l2) s2
  | [], l2, s, s', s2, h, k => by
    unfold Took at h
    subst h
    exact k
  | i :: l, l2, s, s', s2, h, k => by
    obtain ⟨m0, h1, h2, h3, h4⟩ := h
    exact ⟨m0, h1, h2, h3, Took.append h4 k⟩
theorem Took.later {a b : Int} (hab : a ≤ b) : ∀ {l : List Int} {s s' : List Al}, Took a s l s' → Took b s l s'
  | [], s, s', h => h
  | i :: l, s, s', h => by
    obtain ⟨m0, h1, h2, h3, h4⟩ := h
    exact ⟨m0, h1, h2, by omega, Took.later hab h4⟩
theorem Took.len {now next : Int} : ∀ {l : List Int} {s s' : List Al}, Ids next s → Took now s l s' → s'.length + l.length = s.length
  | [], s, s', _, h => by
    unfold Took at h
    subst h
    rfl
  | i :: l, s, s', hi, h => by
    obtain ⟨m0, h1, h2, h3, h4⟩ := h
    have e1 := Took.len (hi.without i) h4
    have e2 := without_len hi h1.mem h2
    rw [List.length_cons]
    omega
/-- what is due is told by the time alone -/
theorem Took.one {now next : Int} : ∀ {l l2 : List Int} {s s1 s2 : List Al}, Ids next s → Took now s l s1 → (∀ b ∈ s1, now < b.1) → Took now s l2 s2 → (∀ b ∈ s2, now < b.1) → l = l2 ∧ s1 = s2
  | [], [], s, s1, s2, _, h, _, k, _ => by
    unfold Took at h k
    subst h k
    exact ⟨rfl, rfl⟩
  | [], j :: l2, s, s1, s2, _, h, h', k, _ => by
    unfold Took at h
    subst h
    obtain ⟨m, k1, _, k3, _⟩ := k
    have := h' m k1.mem
    omega
  | i :: l, [], s, s1, s2, _, h, _, k, k' => by
    unfold Took at k
    subst k
    obtain ⟨m, h1, _, h3, _⟩ := h
    have := k' m h1.mem
    omega
  | i :: l, j :: l2, s, s1, s2, hi, h, h', k, k' => by
    obtain ⟨m, h1, h2, _, h4⟩ := h
    obtain ⟨m', k1, k2, _, k4⟩ := k
    obtain rfl := Fore.one hi h1 k1
    obtain rfl : i = j := by rw [← h2, ← k2]
    obtain ⟨e1, e2⟩ := Took.one (hi.without i) h4 h' k4 k'
    exact ⟨by rw [e1], e2⟩

/-- a row of numbers of one's own -/
def ncs (l : List Int) : List Value := l.map (fun n => .int .i64 n)
def NRow (w : World) (base : Nat) (v : Value) (l : List Int) : Prop := w.ownsRow base 3 1 v l.length (ncs l)
theorem NRow.nil (w : World) (base : Nat) : NRow w base (.slice none 0 0) [] := World.ownsRow_nil _ _ _ _
theorem NRow.only {s : List Nat} {w w' : World} {base : Nat} {v : Value} {l : List Int} (h : NRow w base v l) (k : Only s w w') (hn : ∀ g ∈ ownL v, g ∉ s) : NRow w' base v l := k.owns h (fun g hg => hn g (mem_ownL.2 hg))
theorem NRow.form {w : World} {base : Nat} {v : Value} {l : List Int} (h : NRow w base v l) : (v = .slice none 0 0 ∧ l = []) ∨ ∃ g cap, v = .slice (some ⟨g, 0, none⟩) l.length cap ∧ base ≤ g ∧ g < w.heap.size ∧ l.length ≤ cap ∧ cap ≤ maxLen := by
  rcases h.2 with ⟨h1, h2⟩ | ⟨g, cap, cur, e1, e2, e3, e4, e5, _⟩
  · exact .inl ⟨h1, List.length_eq_zero_iff.1 h2⟩
  · exact .inr ⟨g, cap, e1, e2, (Array.getElem?_eq_some_iff.1 e3).1, e4, e5⟩
theorem NRow.slice {w : World} {base : Nat} {v : Value} {l : List Int} (h : NRow w base v l) : ∃ A cap, v = .slice A l.length cap ∧ l.length ≤ cap ∧ cap ≤ maxLen := by
  rcases h.form with ⟨rfl, rfl⟩ | ⟨g, cap, rfl, _, _, h1, h2⟩
  · exact ⟨none, 0, rfl, Nat.le_refl _, Nat.zero_le _⟩
  · exact ⟨_, cap, rfl, h1, h2⟩
theorem NRow.at_ {w : World} {base n cap : Nat} {A : Option Addr} {l : List Int} (h : NRow w base (.slice A n cap) l) (hn : n = l.length) {k : Nat} (hk : k < l.length) : ∃ g, A = some ⟨g, 0, none⟩ ∧ w.cell? ⟨g, k, none⟩ = some (.int .i64 l[k]) := by
  subst hn
  rcases h.form with ⟨_, rfl⟩ | ⟨g, cap2, e, _, _, _, _⟩
  · simp at hk
  · injection e with e1 e2 e3
    subst e1
    refine ⟨g, rfl, ?_⟩
    unfold NRow at h
    have := h.cellAt k (by omega)
    rw [this]
    unfold ncs
    rw [List.getElem?_map, List.getElem?_eq_getElem hk]
    rfl
theorem NRow.pushed {w : World} {base : Nat} {v : Value} {l : List Int} {a : Int} {n : Nat} (hn : n = l.length) (h : w.ownsRow base 3 1 v (n + 1) (ncs l ++ [.int .i64 a])) : NRow w base v (l ++ [a]) := by
  subst hn
  unfold NRow
  rw [List.length_append]
  have : ncs (l ++ [a]) = ncs l ++ [.int .i64 a] := by simp [ncs]
  rw [this]
  exact h
theorem infoN : (Try.prog.info? 3).map (fun i => (i.zero, i.size, i.bytes)) = some (some (.int .i64 0), 1, 8) := by kernel_rfl
theorem newCell1 {w : World} {x : Value} {t : TypeId} : ∀ j u, [x][j]? = some u → (w.alloc (.cells #[x] t)).cell? ((⟨w.heap.size, 0, none⟩ : Addr).add j) = some u :=
  World.news_of_block (w := (w.alloc (.cells #[x] t))) (fr := (0, 0)) (t := t) (heap_alloc_new w (.cells #[x] t))

set_option maxRecDepth 8000 in
set_option maxHeartbeats 1200000 in
theorem due_any (gw : Nat) (most next : Int) (v : Value) (s : List Al) (now : Int) (B : Nat) (r : Value) (l0 : List Int) (w : World) (h : Wh w gw most next v s) (hs : s.length ≤ 200)
    (hr : NRow w B r l0) (hl0 : l0.length ≤ 1000) (hd : ∀ g ∈ ownL r, g ≠ gw ∧ g ∉ ownL v) (hB : B ≤ w.heap.size) :
    Calls Try.prog 21 #[.pointer (some ⟨gw, 0, none⟩), .int .u64 now, r] w fun e w' => ∃ (out : List Int) (s' : List Al) (v' r' : Value), e = .returned r' ∧
      Took now s out s' ∧ (∀ b ∈ s', now < b.1) ∧ Wh w' gw most next v' s' ∧ NRow w' B r' (l0 ++ out) ∧ Only (gw :: (ownL v ++ ownL r)) w w' ∧ (∀ g ∈ ownL v', g ∈ ownL v) ∧ (∀ g ∈ ownL r', g ∈ ownL r ∨ w.heap.size ≤ g) := by
  obtain ⟨i0, hi, hz0, hz1, hz2⟩ := info_partsA infoN
  have HW := Lib.hid h
  have HR := Lib.hid hr
  have HD := Lib.hid hd
  have HI := Lib.hid h.ids
  have HSL := Lib.hid hs
  clear h hr hd hs
  go_enter Try.func21, Try.ntmps21
  go_wp2_with fail
  go_loopw [2, 7] (fun r_ i wr => ∃ (k : Nat) (out : List Int) (s1 : List Al) (v1 r1 : Value), k ≤ 200 ∧ r1 = r_ ∧ i = .int .i64 k ∧ out.length = k ∧ Took now s out s1 ∧ Wh wr gw most next v1 s1 ∧ NRow wr B r1 (l0 ++ out) ∧
    Only (gw :: (ownL v ++ ownL r)) w wr ∧ (∀ g ∈ ownL v1, g ∈ ownL v) ∧ (∀ g ∈ ownL r1, g ∈ ownL r ∨ w.heap.size ≤ g)) (fun _ i _ => 300 - (intOf i).toNat)
  case atStart => exact ⟨0, [], s, v, r, by omega, rfl, rfl, rfl, rfl, HW.out, by rw [List.append_nil]; exact HR.out, Only.refl _ _, fun g hg => hg, fun g hg => .inl hg⟩
  case round =>
    obtain ⟨k, out, s1, v1, r1, hk, rfl, rfl, hol, htk, hw, hrr, ho, hv1, hr1⟩ := hrel
    have HOL := Lib.hid hol
    have HTK := Lib.hid htk
    have HW1 := Lib.hid hw
    have HR1 := Lib.hid hrr
    have HO1 := Lib.hid ho
    have HV1 := Lib.hid hv1
    have HRR := Lib.hid hr1
    have HL1 : Hid (s1.length ≤ 200 ∧ s1.length + k = s.length) := by
      have h1 := Took.len HI.out htk
      have h2 := HSL.out
      exact ⟨by omega, by omega⟩
    have HD1 : Hid (∀ g ∈ ownL r1, g ∉ gw :: ownL v1) := by
      show ∀ g ∈ _, _
      intro g hg hm
      rcases HRR.out g hg with h1 | h1
      · obtain ⟨d1, d2⟩ := HD.out g h1
        rcases List.mem_cons.1 hm with h2 | h2
        · exact d1 h2
        · exact d2 (HV1.out g h2)
      · have e1 := HW.out.lt
        rcases List.mem_cons.1 hm with h2 | h2
        · omega
        · have := (HW.out.own (HV1.out g h2)).2; omega
    have hk3 : (k : Int) < 300 := by omega
    clear hol htk hw hrr ho hv1 hr1
    by_cases hex : ∃ b ∈ s1, b.1 ≤ now
    · obtain ⟨b, hbm, hbn⟩ := hex
      obtain ⟨m, hm⟩ := Fore.ex (s := s1) (List.ne_nil_of_mem hbm)
      have hmn := hm.early hbm hbn
      have HM := Lib.hid hm
      have HMN := Lib.hid hmn
      have hk2 : k < s.length := by
        have := HL1.out
        have := List.length_pos_of_mem hbm
        omega
      have HK2 : Hid (k + 1 ≤ 200) := by show _ ≤ _; have := HSL.out; omega
      clear hbm hbn hm hmn hk2
      go_wp2_with fail
      refine (wheelDue_some gw most next v1 s1 m now wr HW1.out HM.out HMN.out (by have := HL1.out; omega)).mono ?_
      rintro e w2 ⟨rfl, v2, hw2, ho2, hg2⟩
      obtain ⟨m1, m2, m3⟩ := m
      obtain ⟨W3, hW3⟩ : ∃ W3, W3 = w2.alloc (.cells #[.int .i64 m2] 3) := ⟨_, rfl⟩
      have HO3 : Hid (Only [] w2 W3) := by show Only _ _ _; rw [hW3]; exact (Only.refl _ _).alloc _
      have HNC : Hid (∀ j u, [Value.int .i64 m2][j]? = some u → W3.cell? ((⟨w2.heap.size, 0, none⟩ : Addr).add j) = some u) := by show ∀ j u, _; rw [hW3]; exact newCell1
      have HO2 : Hid (Only (gw :: ownL v1) wr w2) := ho2
      obtain ⟨lr, hlr⟩ : ∃ lr, lr = l0 ++ out := ⟨_, rfl⟩
      have HR3 : Hid (NRow W3 B r1 lr) := by show NRow _ _ _ _; rw [hlr]; exact (HR1.out.only ho2 HD1.out).only HO3.out (by simp)
      have HLR := Lib.hid hlr
      have HW3 : Hid (Wh W3 gw most next v2 (without m2 s1)) := hw2.old HO3.out
      have HG2 := Lib.hid hg2
      have HL3 : Hid (lr.length ≤ 1200) := by show _ ≤ _; rw [hlr, List.length_append, HOL.out]; omega
      have HT3 : Hid (Took now s (out ++ [m2]) (without m2 s1)) := HTK.out.snoc HM.out HMN.out
      have HSZ : Hid (B ≤ W3.heap.size) := by show _ ≤ _; have h1 := HO1.out.size; have h2 := HO2.out.size; have h3 := HO3.out.size; omega
      have HOA : Hid (Only (gw :: (ownL v ++ ownL r)) w W3) := by
        refine (HO1.out.trans (HO2.out.mono ?_)).trans (HO3.out.mono (by simp))
        intro x hx
        rcases List.mem_cons.1 hx with h1 | h1
        · rw [h1]; exact List.mem_cons_self
        · exact List.mem_cons_of_mem _ (List.mem_append_left _ (HV1.out x h1))
      clear hw2 ho2 hg2 hlr
      go_wp2_with (at_builtin; rw [← hW3]; clear hW3; refine wpList_append_lies W3 rfl (.tmp 25) (.tmp 27) 48 rfl B 3 i0 (.int .i64 0) 1 8 Try.underlying48 hi hz0 hz1 hz2 rfl (by decide) r1 _ _ rfl HR3.out ⟨w2.heap.size, 0, none⟩ 1 1 [.int .i64 m2] rfl rfl HNC.out ?c1 (by decide) ?c2 ?c3 HSZ.out W3.heap.size rfl ?_)
      case c1 => intro u hu; simp at hu; subst hu; rfl
      case c2 => have := HL3.out; unfold maxLen; omega
      case c3 => have := HL3.out; omega
      intro g cap w4 hown hgrow hat hlt
      have HR4 : Hid (NRow w4 B (.slice (some ⟨g, 0, none⟩) (lr.length + 1) cap) (lr ++ [m2])) := NRow.pushed rfl hown
      have HO4 : Hid (Only (ownL r1) W3 w4) := Only.of_grown_own hgrow (fun g hg => mem_ownL.2 hg)
      have HSW : Hid (w.heap.size ≤ W3.heap.size) := HOA.out.size
      have HAT : Hid (g ∈ ownL r ∨ w.heap.size ≤ g) := by
        show _ ∨ _
        rcases hat with h | h
        · exact HRR.out g (mem_ownL.2 h)
        · have := HSW.out; exact .inr (by omega)
      have HW4 : Hid (Wh w4 gw most next v2 (without m2 s1)) := by
        refine HW3.out.only HO4.out (fun hm => HD1.out _ hm List.mem_cons_self) ?_
        intro x hx hm
        exact HD1.out x hm (List.mem_cons_of_mem _ (HG2.out x hx))
      have HOB : Hid (Only (gw :: (ownL v ++ ownL r)) w w4) := by
        refine HOA.out.next HO4.out ?_
        intro x hx
        rcases HRR.out x hx with h | h
        · exact .inl (List.mem_cons_of_mem _ (List.mem_append_right _ h))
        · exact .inr h
      clear hown hgrow hat hlt
      go_wp2
      go_roundw
      case rel =>
        refine ⟨k + 1, out ++ [m2], without m2 s1, v2, _, HK2.out, rfl, by go_num, by rw [List.length_append, HOL.out]; rfl, HT3.out, HW4.out, ?_, HOB.out, fun g hg => HV1.out g (HG2.out g hg), ?_⟩
        · rw [← List.append_assoc, ← HLR.out]; exact HR4.out
        · intro x hx
          obtain rfl : x = g := by have := mem_ownL.1 hx; simpa [Value.ownBlock] using this.symm
          exact HAT.out
      case measure => have := HK2.out; simp [intOf]; omega
    · have hno : ∀ b ∈ s1, now < b.1 := by
        intro b hb
        rcases Int.lt_or_le now b.1 with h | h
        · exact h
        · exact absurd ⟨b, hb, h⟩ hex
      have HNO := Lib.hid hno
      clear hex hno
      go_wp2_with fail
      refine (wheelDue_none gw most next v1 s1 now wr HW1.out HNO.out (by have := HL1.out; omega)).mono ?_
      rintro e w' ⟨rfl, rfl⟩
      go_wp2
      go_ret
      exact ⟨out, s1, v1, r1, rfl, HTK.out, HNO.out, HW1.out, HR1.out, HO1.out, HV1.out, HRR.out⟩

set_option maxHeartbeats 800000 in
theorem Ints_any (B1 B2 : Nat) (ra rb : Value) (l : List Int) (w : World) (ha : NRow w B1 ra l) (hb : NRow w B2 rb l) :
    Calls Try.prog 22 #[ra, rb] w fun e w' => e = .returned (.bool true) ∧ Only [] w w' := by
  obtain ⟨A1, c1, e1, hc1, hm1⟩ := ha.slice
  obtain ⟨A2, c2, e2, hc2, hm2⟩ := hb.slice
  subst e1 e2
  unfold maxLen at hm1 hm2
  have HA := Lib.hid ha
  have HB := Lib.hid hb
  clear ha hb
  go_enter Try.func22, Try.ntmps22
  go_wp2_with fail
  go_loopw [5] (fun i wr => ∃ k : Nat, k ≤ l.length ∧ i = .int .i64 k ∧ Only [] w wr) (fun i _ => l.length - (intOf i).toNat)
  case atStart => exact ⟨0, Nat.zero_le _, rfl, Only.refl _ _⟩
  case round =>
    obtain ⟨k, hk, rfl, ho⟩ := hrel
    have HO := Lib.hid ho
    clear ho
    by_cases hlt : k < l.length
    · obtain ⟨g1, rfl, f1⟩ := (HA.out.only HO.out (by simp)).at_ rfl hlt
      obtain ⟨g2, rfl, f2⟩ := (HB.out.only HO.out (by simp)).at_ rfl hlt
      obtain ⟨x, hx⟩ : ∃ x, x = l[k] := ⟨_, rfl⟩
      rw [← hx] at f1 f2
      clear hx
      go_wp2_with fail
      go_quiet (fail)
      go_wp2_with fail
      go_roundw
      case rel => exact ⟨k + 1, by omega, by go_num, HO.out.drewN _⟩
      case measure => simp [intOf]; omega
    · obtain rfl : k = l.length := by omega
      go_wp2
      go_ret
      exact ⟨rfl, HO.out⟩
end Go.Proofs.Ytbpdemgbljbhcaa
