/-
  Contracts of the library's Cut at a comma and of octet's Split, over this seat's program: Split returns a row of its own that holds the parts, and nothing that was there has turned. Conditions: the text has at most 2^40 bytes.
-/
import Derived.Test.YtihpnancplfkhaaODig
import Derived.Test.YtihpnancplfkhaaShelf
import Derived.Lib.IndexLaws
namespace Go.Proofs.Ytihpnancplfkhaa
open Go.RowKit

theorem indexByte_no : ∀ (l : List UInt8) (c : UInt8), (∀ b ∈ l, b ≠ c) → Lib.indexByte l c = -1
  | [], _, _ => rfl
  | b :: l, c, h => by
    have h1 := indexByte_no l c (fun x hx => h x (List.mem_cons_of_mem _ hx))
    have h2 : (b == c) = false := beq_eq_false_iff_ne.2 (h b (List.mem_cons_self ..))
    rw [Lib.indexByte, h2, h1]; rfl
theorem indexByte_at : ∀ (a b : List UInt8) (c : UInt8), (∀ x ∈ a, x ≠ c) → Lib.indexByte (a ++ c :: b) c = a.length
  | [], b, c, _ => by simp [Lib.indexByte]
  | x :: a, b, c, h => by
    have h1 := indexByte_at a b c (fun x hx => h x (List.mem_cons_of_mem _ hx))
    have h2 : (x == c) = false := beq_eq_false_iff_ne.2 (h x (List.mem_cons_self ..))
    have h3 : ((a.length : Int) == -1) = false := by rw [beq_eq_false_iff_ne]; omega
    rw [List.cons_append, Lib.indexByte, h2, h1, h3]; simp

theorem ret_cut {a a' b b' : ByteArray} (h : a = a') (k : b = b') : Ending.returned (.tuple #[.string a, .string b, .bool true]) = .returned (.tuple #[.string a', .string b', .bool true]) := by rw [h, k]

set_option maxHeartbeats 400000 in
theorem liteCut_no (s : ByteArray) (c : UInt8) (w : World) (_hs : s.size ≤ maxLen) (h : ∀ b ∈ s.data.toList, b ≠ c) :
    Calls Try.prog 42 #[.string s, .string ⟨#[c]⟩] w fun e w' => e = .returned (.tuple #[.string s, .string ⟨#[]⟩, .bool false]) ∧ ∃ n, w' = w.drewN n := by
  have hi := indexByte_no s.data.toList c h
  have HI := Lib.hid hi
  clear h hi
  go_enter Try.func42, Try.ntmps42
  go_wp2_with (go_at_call 46; refine (Try.stringslite_Index_one _ _ _).mono ?_; rintro e w' ⟨rfl, rfl⟩; rw [HI.out])
  go_ret3
  exact ⟨rfl, 0, rfl⟩

set_option maxHeartbeats 400000 in
theorem liteCut_yes (s : ByteArray) (a b : List UInt8) (c : UInt8) (w : World) (hs : s.size ≤ maxLen) (hl : s.data.toList = a ++ c :: b) (h : ∀ x ∈ a, x ≠ c) :
    Calls Try.prog 42 #[.string s, .string ⟨#[c]⟩] w fun e w' => e = .returned (.tuple #[.string ⟨a.toArray⟩, .string ⟨b.toArray⟩, .bool true]) ∧ ∃ n, w' = w.drewN n := by
  have hi := indexByte_at a b c h
  rw [← hl] at hi
  have HI := Lib.hid hi
  have hsz : s.size = a.length + (b.length + 1) := by have := congrArg List.length hl; simpa using this
  have e1 : s.extract 0 a.length = ⟨a.toArray⟩ := by rw [Lib.extract_eq, hl]; simp
  have e2 : s.extract (a.length + 1) s.size = ⟨b.toArray⟩ := by rw [Lib.extract_eq, hsz, hl]; simp; exact List.take_of_length_le (by omega)
  have E1 := Lib.hid e1
  have E2 := Lib.hid e2
  have HL : a.length + 1 ≤ s.size := by omega
  clear h hi hl hsz e1 e2
  unfold maxLen at hs
  have hw : IntKind.i64.wrap ((a.length : Int) + 1) = (a.length : Int) + 1 := IntWalk.i64_in _ (by omega)
  go_enter Try.func42, Try.ntmps42
  go_wp2_with (go_at_call 46; refine (Try.stringslite_Index_one _ _ _).mono ?_; rintro e w' ⟨rfl, rfl⟩; rw [HI.out])
  go_quiet (fail)
  go_wp2
  go_ret3
  exact ⟨ret_cut E1.out E2.out, _, rfl⟩
set_option maxHeartbeats 400000 in
theorem Cut_no (s : ByteArray) (c : UInt8) (w : World) (hs : s.size ≤ maxLen) (h : ∀ b ∈ s.data.toList, b ≠ c) :
    Calls Try.prog 39 #[.string s, .string ⟨#[c]⟩] w fun e w' => e = .returned (.tuple #[.string s, .string ⟨#[]⟩, .bool false]) ∧ ∃ n, w' = w.drewN n := by
  go_enter Try.func39, Try.ntmps39
  go_wp2_with (go_at_call 42; refine (liteCut_no _ _ _ hs h).mono ?_; rintro e w' ⟨rfl, n, rfl⟩)
  go_ret3
  exact ⟨rfl, _, rfl⟩
set_option maxHeartbeats 400000 in
theorem Cut_yes (s : ByteArray) (a b : List UInt8) (c : UInt8) (w : World) (hs : s.size ≤ maxLen) (hl : s.data.toList = a ++ c :: b) (h : ∀ x ∈ a, x ≠ c) :
    Calls Try.prog 39 #[.string s, .string ⟨#[c]⟩] w fun e w' => e = .returned (.tuple #[.string ⟨a.toArray⟩, .string ⟨b.toArray⟩, .bool true]) ∧ ∃ n, w' = w.drewN n := by
  have HL := Lib.hid hl
  clear hl
  go_enter Try.func39, Try.ntmps39
  go_wp2_with (go_at_call 42; refine (liteCut_yes _ _ _ _ _ hs HL.out h).mono ?_; rintro e w' ⟨rfl, n, rfl⟩)
  go_ret3
  exact ⟨rfl, _, rfl⟩

/-- a text as a value -/
def sv (l : List UInt8) : Value := .string ⟨l.toArray⟩
theorem infoS : (Try.prog.info? 9).map (fun i => (i.zero, i.size, i.bytes)) = some (some (.string ⟨#[]⟩), 1, 16) := by kernel_rfl

def SplitPost (s : List UInt8) (w : World) (e : Ending) (w' : World) : Prop :=
  ∃ v, e = .returned v ∧ w'.ownsRow w.heap.size 9 1 v (Lk.splitL s).length ((Lk.splitL s).map sv) ∧ Below w.heap.size w w'

def strSize : Value → Nat
  | .string s => s.size
  | _ => 0
def boolN : Value → Nat
  | .bool true => 1
  | _ => 0
theorem Trim_as (s t : ByteArray) (w : World) (hs : s.size ≤ maxLen) (ht : t = ⟨(Lk.trimL s.data.toList).toArray⟩) :
    Calls Try.prog 20 #[.string s] w fun e w' => e = .returned (.string t) ∧ w = w' := by
  rw [ht]; exact Trim_any s w hs
theorem ba_isEmpty {t : ByteArray} (h : t.data.toList = []) : t.toList.isEmpty = true := by rw [ByteArray.toList_eq, h]; rfl
theorem ba_notEmpty {t : ByteArray} (h : t.data.toList ≠ []) : t.toList.isEmpty = false := by
  rw [ByteArray.toList_eq]; cases e : t.data.toList; exact absurd e h; rfl
theorem ba_eq {t : ByteArray} {l : List UInt8} (h : t = ⟨l.toArray⟩) : t.data.toList = l := by rw [h]
theorem sv_eq {t : ByteArray} {l : List UInt8} (h : t = ⟨l.toArray⟩) : Value.string t = sv l := by rw [h]; rfl

/-- one round's cut: what stands ahead of the comma, what stands behind it, whether there was one -/
theorem Cut_any (r : ByteArray) (w : World) (hs : r.size ≤ maxLen) : ∃ (p q : ByteArray) (f : Bool),
    (Calls Try.prog 39 #[.string r, .string ⟨#[44]⟩] w fun e w' => e = .returned (.tuple #[.string p, .string q, .bool f]) ∧ ∃ n, w' = w.drewN n) ∧
    p.size ≤ r.size ∧ q.size ≤ r.size ∧ (f = true → q.size < r.size) ∧
    Lk.splitL r.data.toList = Lk.keep [p.data.toList] ++ (if f then Lk.splitL q.data.toList else []) := by
  rcases Lk.comma_cases r.data.toList with h | ⟨a, b, e, h⟩
  · exact ⟨r, ⟨#[]⟩, false, Cut_no r 44 w hs h, Nat.le_refl _, Nat.zero_le _, by simp, by rw [Lk.split_none h]; simp⟩
  · have hl : r.size = a.length + (b.length + 1) := by have := congrArg List.length e; simpa using this
    have ha : (⟨a.toArray⟩ : ByteArray).size = a.length := by show a.toArray.size = _; simp
    have hb : (⟨b.toArray⟩ : ByteArray).size = b.length := by show b.toArray.size = _; simp
    refine ⟨⟨a.toArray⟩, ⟨b.toArray⟩, true, Cut_yes r a b 44 w hs e h, by omega, by omega, fun _ => by omega, ?_⟩
    rw [e, Lk.split_at h]; rfl

set_option maxHeartbeats 1000000 in
theorem Split_any (s : ByteArray) (w : World) (hs : s.size ≤ 1099511627776) :
    Calls Try.prog 23 #[.string s] w (SplitPost s.data.toList w) := by
  obtain ⟨i0, hi, hz0, hz1, hz2⟩ := info_parts infoS
  go_enter Try.func23, Try.ntmps23
  go_wp2
  go_loopw [0, 3, 4, 5] (fun s0 v m _ wr => ∃ (r : ByteArray) (mo : Bool) (dn : List (List UInt8)), s0 = .string r ∧ m = .bool mo ∧ r.size ≤ s.size ∧ wr.ownsRow w.heap.size 9 1 v dn.length (dn.map sv) ∧ Below w.heap.size w wr ∧ Lk.splitL s.data.toList = dn ++ (if mo then Lk.splitL r.data.toList else []))
    (fun s0 _ m _ _ => boolN m * (strSize s0 + 1))
  case atStart => exact ⟨s, true, [], rfl, rfl, Nat.le_refl _, World.ownsRow_nil _ _ _ _, Below.refl _ _, rfl⟩
  case round =>
    obtain ⟨r, mo, dn, rfl, rfl, hr, hown, hnx, hsp⟩ := hrel
    have HS := Lib.hid hsp
    have hdn : dn.length ≤ s.size + 1 := by
      have h1 := Lk.split_len s.data.toList
      rw [hsp, List.length_append] at h1
      have h2 : s.data.toList.length = s.size := by simp
      omega
    clear hsp
    cases mo
    · go_wp2
      go_ret
      have e := HS.out
      simp only [Bool.false_eq_true, if_false, List.append_nil] at e
      exact ⟨_, rfl, by rw [e]; exact hown, hnx⟩
    · obtain ⟨p, q, f, hcut, hp, hq, hqr, hsplit⟩ := Cut_any r wr (by unfold maxLen; omega)
      obtain ⟨t, ht⟩ : ∃ t : ByteArray, t = ⟨(Lk.trimL p.data.toList).toArray⟩ := ⟨_, rfl⟩
      have HC := Lib.hid hcut
      have HQ := Lib.hid hqr
      have HP := Lib.hid hsplit
      have HT := Lib.hid ht
      clear hcut hqr hsplit ht
      by_cases he : t.data.toList = []
      · have e1 := ba_isEmpty he
        have E := Lib.hid he
        clear he
        go_wp2_with fail
        refine HC.out.mono ?_
        rintro e w' ⟨rfl, n, rfl⟩
        go_wp2_with fail
        refine (Trim_as p t _ (by unfold maxLen; omega) HT.out).mono ?_
        rintro e w' ⟨rfl, rfl⟩
        go_wp2
        go_roundw
        case rel =>
          refine ⟨q, f, dn, rfl, rfl, by omega, hown, below_drewN hnx n, ?_⟩
          rw [HS.out, if_pos trivial, HP.out, Lk.keep_one_nil (by rw [← ba_eq HT.out]; exact E.out), List.nil_append]
        case measure =>
          cases f
          · simp [boolN]
          · simp [boolN, strSize]; exact HQ.out rfl
      · have e1 := ba_notEmpty he
        have E := Lib.hid he
        clear he
        go_wp2_with fail
        refine HC.out.mono ?_
        rintro e w' ⟨rfl, n, rfl⟩
        go_wp2_with fail
        refine (Trim_as p t _ (by unfold maxLen; omega) HT.out).mono ?_
        rintro e w' ⟨rfl, rfl⟩
        go_wp2_with (at_builtin; refine wpList_append_own _ rfl (.tmp 17) (.tmp 19) 22 rfl w.heap.size 9 i0 (.string ⟨#[]⟩) 1 16 Try.underlying22 hi hz0 hz1 hz2 rfl (by decide) _ _ _ rfl (World.ownsRow.alloc (w := wr.drewN n) hown _) ⟨wr.heap.size, 0, none⟩ 1 1 [.string t] rfl rfl ?c1 ?c2 ?c3 ?c4 ?c5 ?_)
        case c1 => exact cell_one_new _ _ _
        case c2 => intro u hu; simp at hu; subst hu; rfl
        case c3 => unfold maxLen; omega
        case c4 => omega
        case c5 => have := hnx.size; simp; omega
        intro v' w1 hown' hgrow _
        have hb1 : Below w.heap.size w w1 := by
          refine Below.grown ((below_drewN hnx n).alloc ?_ _) hgrow ?_ ?_
          · exact hnx.size
          · have := hnx.size; simp; omega
          · intro k hk; exact (hown.lt k hk).1
        have hown2 : w1.ownsRow w.heap.size 9 1 v' (dn ++ [Lk.trimL p.data.toList]).length ((dn ++ [Lk.trimL p.data.toList]).map sv) := by
          rw [List.length_append, List.map_append]
          have e := sv_eq HT.out
          rw [← show [Value.string t] = List.map sv [Lk.trimL p.data.toList] by rw [e]; rfl]
          exact hown'
        clear hown' hgrow
        go_wp2
        go_roundw
        case rel =>
          refine ⟨q, f, dn ++ [Lk.trimL p.data.toList], rfl, rfl, by omega, hown2, hb1, ?_⟩
          rw [HS.out, if_pos trivial, HP.out, Lk.keep_one (by rw [← ba_eq HT.out]; exact E.out), List.append_assoc]
        case measure =>
          cases f
          · simp [boolN]
          · simp [boolN, strSize]; exact HQ.out rfl
end Go.Proofs.Ytihpnancplfkhaa
