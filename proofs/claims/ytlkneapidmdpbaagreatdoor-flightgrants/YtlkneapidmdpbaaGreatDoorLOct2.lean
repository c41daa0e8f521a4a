/-
  Contracts of octet over this seat's program, those that lean on the library, and of the statements' own helpers. Conditions: those of each statement.
-/
import Derived.Test.YtlkneapidmdpbaaGreatDoorLOct
import Derived.Test.YtlkneapidmdpbaaGreatDoorShelf
import Derived.Lib.IndexLaws
import Derived.Test.YtlkneapidmdpbaaGreatDoorLBase
import Derived.Laws.IdiomStrings
import Derived.Laws.AppendOwnNone
import Derived.Lib.Join
namespace Go.Proofs.YtlkneapidmdpbaaGreatDoor
open Go.RowKit

theorem indexByte_no : ∀ (l : List UInt8) (c : UInt8), (∀ b ∈ l, b ≠ c) → Lib.indexByte l c = -1
  | [], _, _ => rfl
  | b :: l, c, h => by
    have h1 := indexByte_no l c (fun x hx => h x (List.mem_cons_of_mem _ hx))
    have h2 : (b == c) = false := beq_eq_false_iff_ne.2 (h b (List.mem_cons_self ..))
    rw [Lib.indexByte, h2, h1]; rfl
theorem indexByte_at : ∀ (a b : List UInt8) (c : UInt8), (∀ x ∈ a, x ≠ c) → Lib.indexByte (a ++ c :: b) c = a.length
  | [], b, c, _ => by simp [Lib.indexByte]
  | x :: a, b, c, h => by
    have h1 := indexByte_at a b c (fun x hx => h x (List.mem_cons_of_mem _ hx))
    have h2 : (x == c) = false := beq_eq_false_iff_ne.2 (h x (List.mem_cons_self ..))
    have h3 : ((a.length : Int) == -1) = false := by rw [beq_eq_false_iff_ne]; omega
    rw [List.cons_append, Lib.indexByte, h2, h1, h3]; simp

theorem ret_cut {a a' b b' : ByteArray} (h : a = a') (k : b = b') : Ending.returned (.tuple #[.string a, .string b, .bool true]) = .returned (.tuple #[.string a', .string b', .bool true]) := by rw [h, k]

set_option maxHeartbeats 400000 in
theorem liteCut_no (s : ByteArray) (c : UInt8) (w : World) (_hs : s.size ≤ maxLen) (h : ∀ b ∈ s.data.toList, b ≠ c) :
    Calls Tryz.prog 177 #[.string s, .string ⟨#[c]⟩] w fun e w' => e = .returned (.tuple #[.string s, .string ⟨#[]⟩, .bool false]) ∧ ∃ n, w' = w.drewN n := by
  have hi := indexByte_no s.data.toList c h
  have HI := Lib.hid hi
  clear h hi
  go_enter Tryz.func177, Tryz.ntmps177
  go_wp2_with (go_at_call 201; refine (Tryz.stringslite_Index_one _ _ _).mono ?_; rintro e w' ⟨rfl, rfl⟩; rw [HI.out])
  go_ret3
  exact ⟨rfl, 0, rfl⟩

set_option maxHeartbeats 400000 in
theorem liteCut_yes (s : ByteArray) (a b : List UInt8) (c : UInt8) (w : World) (hs : s.size ≤ maxLen) (hl : s.data.toList = a ++ c :: b) (h : ∀ x ∈ a, x ≠ c) :
    Calls Tryz.prog 177 #[.string s, .string ⟨#[c]⟩] w fun e w' => e = .returned (.tuple #[.string ⟨a.toArray⟩, .string ⟨b.toArray⟩, .bool true]) ∧ ∃ n, w' = w.drewN n := by
  have hi := indexByte_at a b c h
  rw [← hl] at hi
  have HI := Lib.hid hi
  have hsz : s.size = a.length + (b.length + 1) := by have := congrArg List.length hl; simpa using this
  have e1 : s.extract 0 a.length = ⟨a.toArray⟩ := by rw [Lib.extract_eq, hl]; simp
  have e2 : s.extract (a.length + 1) s.size = ⟨b.toArray⟩ := by rw [Lib.extract_eq, hsz, hl]; simp; exact List.take_of_length_le (by omega)
  have E1 := Lib.hid e1
  have E2 := Lib.hid e2
  have HL : a.length + 1 ≤ s.size := by omega
  clear h hi hl hsz e1 e2
  unfold maxLen at hs
  have hw : IntKind.i64.wrap ((a.length : Int) + 1) = (a.length : Int) + 1 := IntWalk.i64_in _ (by omega)
  go_enter Tryz.func177, Tryz.ntmps177
  go_wp2_with (go_at_call 201; refine (Tryz.stringslite_Index_one _ _ _).mono ?_; rintro e w' ⟨rfl, rfl⟩; rw [HI.out])
  go_quiet (fail)
  go_wp2
  go_ret3
  exact ⟨ret_cut E1.out E2.out, _, rfl⟩
set_option maxHeartbeats 400000 in
theorem Cut_no (s : ByteArray) (c : UInt8) (w : World) (hs : s.size ≤ maxLen) (h : ∀ b ∈ s.data.toList, b ≠ c) :
    Calls Tryz.prog 144 #[.string s, .string ⟨#[c]⟩] w fun e w' => e = .returned (.tuple #[.string s, .string ⟨#[]⟩, .bool false]) ∧ ∃ n, w' = w.drewN n := by
  go_enter Tryz.func144, Tryz.ntmps144
  go_wp2_with (go_at_call 177; refine (liteCut_no _ _ _ hs h).mono ?_; rintro e w' ⟨rfl, n, rfl⟩)
  go_ret3
  exact ⟨rfl, _, rfl⟩
set_option maxHeartbeats 400000 in
theorem Cut_yes (s : ByteArray) (a b : List UInt8) (c : UInt8) (w : World) (hs : s.size ≤ maxLen) (hl : s.data.toList = a ++ c :: b) (h : ∀ x ∈ a, x ≠ c) :
    Calls Tryz.prog 144 #[.string s, .string ⟨#[c]⟩] w fun e w' => e = .returned (.tuple #[.string ⟨a.toArray⟩, .string ⟨b.toArray⟩, .bool true]) ∧ ∃ n, w' = w.drewN n := by
  have HL := Lib.hid hl
  clear hl
  go_enter Tryz.func144, Tryz.ntmps144
  go_wp2_with (go_at_call 177; refine (liteCut_yes _ _ _ _ _ hs HL.out h).mono ?_; rintro e w' ⟨rfl, n, rfl⟩)
  go_ret3
  exact ⟨rfl, _, rfl⟩

/-- a text as a value -/
def sv (l : List UInt8) : Value := .string ⟨l.toArray⟩
theorem infoS : (Tryz.prog.info? 9).map (fun i => (i.zero, i.size, i.bytes)) = some (some (.string ⟨#[]⟩), 1, 16) := by kernel_rfl

def SplitPost (s : List UInt8) (w : World) (e : Ending) (w' : World) : Prop :=
  ∃ v, e = .returned v ∧ w'.ownsRow w.heap.size 9 1 v (Lk.splitL s).length ((Lk.splitL s).map sv) ∧ Below w.heap.size w w'

def strSize : Value → Nat
  | .string s => s.size
  | _ => 0
def boolN : Value → Nat
  | .bool true => 1
  | _ => 0
theorem Trim_as (s t : ByteArray) (w : World) (hs : s.size ≤ maxLen) (ht : t = ⟨(Lk.trimL s.data.toList).toArray⟩) :
    Calls Tryz.prog 58 #[.string s] w fun e w' => e = .returned (.string t) ∧ w = w' := by
  rw [ht]; exact Trim_any s w hs
theorem ba_isEmpty {t : ByteArray} (h : t.data.toList = []) : t.toList.isEmpty = true := by rw [ByteArray.toList_eq, h]; rfl
theorem ba_notEmpty {t : ByteArray} (h : t.data.toList ≠ []) : t.toList.isEmpty = false := by
  rw [ByteArray.toList_eq]; cases e : t.data.toList; exact absurd e h; rfl
theorem ba_eq {t : ByteArray} {l : List UInt8} (h : t = ⟨l.toArray⟩) : t.data.toList = l := by rw [h]
theorem sv_eq {t : ByteArray} {l : List UInt8} (h : t = ⟨l.toArray⟩) : Value.string t = sv l := by rw [h]; rfl

/-- one round's cut: what stands ahead of the comma, what stands behind it, whether there was one -/
theorem Cut_any (r : ByteArray) (w : World) (hs : r.size ≤ maxLen) : ∃ (p q : ByteArray) (f : Bool),
    (Calls Tryz.prog 144 #[.string r, .string ⟨#[44]⟩] w fun e w' => e = .returned (.tuple #[.string p, .string q, .bool f]) ∧ ∃ n, w' = w.drewN n) ∧
    p.size ≤ r.size ∧ q.size ≤ r.size ∧ (f = true → q.size < r.size) ∧
    Lk.splitL r.data.toList = Lk.keep [p.data.toList] ++ (if f then Lk.splitL q.data.toList else []) := by
  rcases Lk.comma_cases r.data.toList with h | ⟨a, b, e, h⟩
  · exact ⟨r, ⟨#[]⟩, false, Cut_no r 44 w hs h, Nat.le_refl _, Nat.zero_le _, by simp, by rw [Lk.split_none h]; simp⟩
  · have hl : r.size = a.length + (b.length + 1) := by have := congrArg List.length e; simpa using this
    have ha : (⟨a.toArray⟩ : ByteArray).size = a.length := by show a.toArray.size = _; simp
    have hb : (⟨b.toArray⟩ : ByteArray).size = b.length := by show b.toArray.size = _; simp
    refine ⟨⟨a.toArray⟩, ⟨b.toArray⟩, true, Cut_yes r a b 44 w hs e h, by omega, by omega, fun _ => by omega, ?_⟩
    rw [e, Lk.split_at h]; rfl

set_option maxHeartbeats 1000000 in
theorem Split_any (s : ByteArray) (w : World) (hs : s.size ≤ 1099511627776) :
    Calls Tryz.prog 122 #[.string s] w (SplitPost s.data.toList w) := by
  obtain ⟨i0, hi, hz0, hz1, hz2⟩ := info_parts infoS
  go_enter Tryz.func122, Tryz.ntmps122
  go_wp2
  go_loopw [0, 3, 4, 5] (fun s0 v m _ wr => ∃ (r : ByteArray) (mo : Bool) (dn : List (List UInt8)), s0 = .string r ∧ m = .bool mo ∧ r.size ≤ s.size ∧ wr.ownsRow w.heap.size 9 1 v dn.length (dn.map sv) ∧ Below w.heap.size w wr ∧ Lk.splitL s.data.toList = dn ++ (if mo then Lk.splitL r.data.toList else []))
    (fun s0 _ m _ _ => boolN m * (strSize s0 + 1))
  case atStart => exact ⟨s, true, [], rfl, rfl, Nat.le_refl _, World.ownsRow_nil _ _ _ _, Below.refl _ _, rfl⟩
  case round =>
    obtain ⟨r, mo, dn, rfl, rfl, hr, hown, hnx, hsp⟩ := hrel
    have HS := Lib.hid hsp
    have hdn : dn.length ≤ s.size + 1 := by
      have h1 := Lk.split_len s.data.toList
      rw [hsp, List.length_append] at h1
      have h2 : s.data.toList.length = s.size := by simp
      omega
    clear hsp
    cases mo
    · go_wp2
      go_ret
      have e := HS.out
      simp only [Bool.false_eq_true, if_false, List.append_nil] at e
      exact ⟨_, rfl, by rw [e]; exact hown, hnx⟩
    · obtain ⟨p, q, f, hcut, hp, hq, hqr, hsplit⟩ := Cut_any r wr (by unfold maxLen; omega)
      obtain ⟨t, ht⟩ : ∃ t : ByteArray, t = ⟨(Lk.trimL p.data.toList).toArray⟩ := ⟨_, rfl⟩
      have HC := Lib.hid hcut
      have HQ := Lib.hid hqr
      have HP := Lib.hid hsplit
      have HT := Lib.hid ht
      clear hcut hqr hsplit ht
      by_cases he : t.data.toList = []
      · have e1 := ba_isEmpty he
        have E := Lib.hid he
        clear he
        go_wp2_with fail
        refine HC.out.mono ?_
        rintro e w' ⟨rfl, n, rfl⟩
        go_wp2_with fail
        refine (Trim_as p t _ (by unfold maxLen; omega) HT.out).mono ?_
        rintro e w' ⟨rfl, rfl⟩
        go_wp2
        go_roundw
        case rel =>
          refine ⟨q, f, dn, rfl, rfl, by omega, hown, below_drewN hnx n, ?_⟩
          rw [HS.out, if_pos trivial, HP.out, Lk.keep_one_nil (by rw [← ba_eq HT.out]; exact E.out), List.nil_append]
        case measure =>
          cases f
          · simp [boolN]
          · simp [boolN, strSize]; exact HQ.out rfl
      · have e1 := ba_notEmpty he
        have E := Lib.hid he
        clear he
        go_wp2_with fail
        refine HC.out.mono ?_
        rintro e w' ⟨rfl, n, rfl⟩
        go_wp2_with fail
        refine (Trim_as p t _ (by unfold maxLen; omega) HT.out).mono ?_
        rintro e w' ⟨rfl, rfl⟩
        go_wp2_with (at_builtin; refine wpList_append_own _ rfl (.tmp 17) (.tmp 19) 26 rfl w.heap.size 9 i0 (.string ⟨#[]⟩) 1 16 Tryz.underlying26 hi hz0 hz1 hz2 rfl (by decide) _ _ _ rfl (World.ownsRow.alloc (w := wr.drewN n) hown _) ⟨wr.heap.size, 0, none⟩ 1 1 [.string t] rfl rfl ?c1 ?c2 ?c3 ?c4 ?c5 ?_)
        case c1 => exact cell_one_new _ _ _
        case c2 => intro u hu; simp at hu; subst hu; rfl
        case c3 => unfold maxLen; omega
        case c4 => omega
        case c5 => have := hnx.size; simp; omega
        intro v' w1 hown' hgrow _
        have hb1 : Below w.heap.size w w1 := by
          refine Below.grown ((below_drewN hnx n).alloc ?_ _) hgrow ?_ ?_
          · exact hnx.size
          · have := hnx.size; simp; omega
          · intro k hk; exact (hown.lt k hk).1
        have hown2 : w1.ownsRow w.heap.size 9 1 v' (dn ++ [Lk.trimL p.data.toList]).length ((dn ++ [Lk.trimL p.data.toList]).map sv) := by
          rw [List.length_append, List.map_append]
          have e := sv_eq HT.out
          rw [← show [Value.string t] = List.map sv [Lk.trimL p.data.toList] by rw [e]; rfl]
          exact hown'
        clear hown' hgrow
        go_wp2
        go_roundw
        case rel =>
          refine ⟨q, f, dn ++ [Lk.trimL p.data.toList], rfl, rfl, by omega, hown2, hb1, ?_⟩
          rw [HS.out, if_pos trivial, HP.out, Lk.keep_one (by rw [← ba_eq HT.out]; exact E.out), List.append_assoc]
        case measure =>
          cases f
          · simp [boolN]
          · simp [boolN, strSize]; exact HQ.out rfl
end Go.Proofs.YtlkneapidmdpbaaGreatDoor

namespace Go.Proofs.YtlkneapidmdpbaaGreatDoor
open Go.RowKit

theorem aw1 : digRes [57, 57, 57, 57, 57, 57, 57, 57, 57, 57, 57, 57, 57, 57, 57, 57, 57, 57, 57, 57] = .tuple #[.int .u64 18446744073709551615, .bool true] := by
  rw [digRes_t (by decide)]
  have : Lk.sat (Lk.valL [57, 57, 57, 57, 57, 57, 57, 57, 57, 57, 57, 57, 57, 57, 57, 57, 57, 57, 57, 57]) = 18446744073709551615 := by decide
  rw [this]; rfl
theorem aw2 : Lk.splitL [32, 97, 44, 44, 32, 98, 32] = [[97], [98]] := by decide
theorem aw3 : Lk.foldL [97, 66] [65, 98] = true := by decide
theorem aw4 : Lk.tokL [] = false := by decide

set_option maxHeartbeats 400000 in
theorem Long_any (n0 : Int) (A : Option Addr) (len c : Nat) (xs : List ByteArray) (w : World) (B : Nat) (h0 : 0 ≤ n0) (hn : n0 ≤ 1000000000) (hlen : len = xs.length) (hx : SRow w B A xs) (hl : xs.length ≤ maxLen) (hs : ∀ x ∈ xs, x.size ≤ maxLen) :
    Calls Tryz.prog 10 #[.int .i64 n0, .slice A len c] w fun e w' => e = .returned (.bool (Lk.longL n0.toNat (xs.map ByteArray.size))) ∧ w = w' := by
  unfold maxLen at hl
  subst hlen
  obtain ⟨n, rfl⟩ := Int.eq_ofNat_of_zero_le h0
  rw [Int.toNat_natCast]
  have HX := Lib.hid hx
  have HS := Lib.hid hs
  clear hx hs
  go_enter Tryz.func10, Tryz.ntmps10
  go_wp2
  go_loop [0, 5] (fun m i => ∃ k q : Nat, k ≤ xs.length ∧ i = .int .i64 k ∧ m = .int .i64 q ∧ q ≤ n ∧ Lk.longL n (xs.map ByteArray.size) = Lk.longL q ((xs.drop k).map ByteArray.size)) (fun _ i => xs.length - (intOf i).toNat)
  case atStart => exact ⟨0, n, Nat.zero_le _, rfl, rfl, Nat.le_refl _, rfl⟩
  case round =>
    obtain ⟨k, q, hk, rfl, rfl, hq, he⟩ := hrel
    have HE := Lib.hid he
    clear he
    by_cases hlt : k < xs.length
    · obtain ⟨ad, hA, hB, hc⟩ := HX.out k xs[k] (List.getElem?_eq_getElem hlt)
      have hz := HS.out xs[k] (List.getElem_mem hlt)
      unfold maxLen at hz
      have HD : Hid (xs.drop k = xs[k] :: xs.drop (k + 1)) := List.drop_eq_getElem_cons hlt
      generalize xs[k] = x at *
      subst hA
      by_cases hz2 : q ≤ x.size
      · go_wp2
        go_ret
        exact ⟨ret_bool (by rw [HE.out, HD.out, List.map_cons, Lk.longL, if_pos hz2]), rfl⟩
      · go_wp2
        go_round
        case rel =>
          refine ⟨k + 1, q - x.size - 1, by omega, by go_num, by go_num, by omega, ?_⟩
          rw [HE.out, HD.out, List.map_cons, Lk.longL, if_neg hz2]
        case measure => simp [intOf]; omega
    · go_wp2
      go_ret
      exact ⟨ret_bool (by rw [HE.out, List.drop_of_length_le (by omega)]; rfl), rfl⟩
end Go.Proofs.YtlkneapidmdpbaaGreatDoor

namespace Go.Proofs.YtlkneapidmdpbaaGreatDoor
open Go.RowKit

/-- block g holds these bytes from its head on, none of them frozen -/
def BRow (w : World) (g : Nat) (l : List UInt8) : Prop :=
  ∀ j (h : j < l.length), w.cell? ⟨g, j, none⟩ = some (.int .u8 (l[j].toNat : Int)) ∧ w.frozen? ⟨g, j, none⟩ = false

theorem BRow.drew {w : World} {g : Nat} {l : List UInt8} (h : BRow w g l) : BRow w.drew g l := h
theorem BRow.drewN {w : World} {g : Nat} {l : List UInt8} (h : BRow w g l) (n : Nat) : BRow (w.drewN n) g l := h
theorem BRow.of_string (w : World) (s : ByteArray) (cap : Nat) (e : TypeId) :
    BRow (w.alloc (.cells (bytesRow s cap) e ((bytesRow s cap).size, (bytesRow s cap).size + 1))) w.heap.size s.data.toList := by
  intro j h
  have hj : j < s.data.size := by simpa using h
  refine ⟨?_, ?_⟩
  · rw [World.cell?_alloc_mark, bytesRow_at s cap j hj]; simp
  · rw [World.frozen?_alloc_mark]
    have : j < (bytesRow s cap).size := by unfold bytesRow; rw [Array.size_append, Array.size_map]; omega
    have h1 : decide ((bytesRow s cap).size ≤ j) = false := by simp; omega
    rw [h1]; rfl
theorem BRow.set_ {w : World} {g : Nat} {l : List UInt8} (h : BRow w g l) (k : Nat) (b : UInt8) (_hk : k < l.length) :
    BRow (w.setCell ⟨g, k, none⟩ (.int .u8 (b.toNat : Int))) g (l.set k b) := by
  intro j hj
  have hj' : j < l.length := by simpa using hj
  refine ⟨?_, ?_⟩
  · by_cases e : k = j
    · subst e
      rw [World.cell?_setCell_same _ _ _ (h k hj').1]; simp
    · rw [World.cell?_setCell_other _ _ _ _ (by intro h; injection h with _ h2; exact e h2)]
      rw [(h j hj').1]; simp [e]
  · rw [World.frozen?_setCell]; exact (h j hj').2
end Go.Proofs.YtlkneapidmdpbaaGreatDoor

namespace Go.Proofs.YtlkneapidmdpbaaGreatDoor
open Go.RowKit

/-- '[]byte(s)' and back, in the walk's form -/
theorem conv_to (w : World) (s : ByteArray) : ∃ cap, (convert 9 130 (.string s)).run Tryz.prog w = .ok (.slice (some ⟨w.heap.size, 0, none⟩) s.size cap) (w.drew.alloc (.cells (bytesRow s cap) 5 ((bytesRow s cap).size, (bytesRow s cap).size + 1))) :=
  ⟨_, run_bytes_of_string w 9 130 5 s Tryz.underlying9 Tryz.underlying130 Tryz.underlying5⟩
theorem conv_back {w : World} {g n cap : Nat} {l : List UInt8} (h : BRow w g l) (hn : n = l.length) :
    (convert 130 9 (.slice (some ⟨g, 0, none⟩) n cap)).run Tryz.prog w = .ok (.string ⟨l.toArray⟩) w := by
  subst hn
  exact run_convert_bytes_back w 130 9 5 ⟨g, 0, none⟩ cap l Tryz.underlying130 Tryz.underlying5 Tryz.underlying9 (fun j hj => by
    have e : (⟨g, 0, none⟩ : Addr).add j = ⟨g, j, none⟩ := by unfold Addr.add; split <;> simp_all
    rw [e]; exact (h j hj).1)
/-- block 'g' alone may have turned since: what one store of a byte leaves -/
theorem below_set {w wr : World} {k : Nat} (h : Below w.heap.size w wr) (u : Value) : Below w.heap.size w (wr.setCell ⟨w.heap.size, k, none⟩ u) := h.setCell (Nat.le_refl _) u

set_option maxHeartbeats 1000000 in
theorem Lower_any (s : ByteArray) (w : World) (hs : s.size ≤ maxLen) :
    Calls Tryz.prog 76 #[.string s] w fun e w' => e = .returned (.string ⟨(Lk.lower s.data.toList).toArray⟩) ∧ Below w.heap.size w w' := by
  unfold maxLen at hs
  obtain ⟨cap, hconv⟩ := conv_to w s
  have hb0 := BRow.of_string w s cap 5
  have HB := Lib.hid hb0
  clear hb0
  go_enter Tryz.func76, Tryz.ntmps76
  go_wp2
  clear hconv
  go_loopw [4, 5, 10] (fun _ _ i wr => ∃ k : Nat, k ≤ s.size ∧ i = .int .i64 k ∧ BRow wr w.heap.size (Lk.turned (fun _ => Lk.lowU) s.data.toList k) ∧ Below w.heap.size w wr) (fun _ _ i _ => s.size - (intOf i).toNat)
  case atStart => exact ⟨0, Nat.zero_le _, rfl, by rw [Lk.turned_zero]; exact HB.out, ((Below.refl _ _).alloc (Nat.le_refl _) _).drew⟩
  case round =>
    obtain ⟨k, hk, rfl, hr, hb⟩ := hrel
    have HR := Lib.hid hr
    clear hr
    by_cases hlt : k < s.size
    · have hl : k < s.data.toList.length := by simpa using hlt
      have hl2 : k < (Lk.turned (fun _ => Lk.lowU) s.data.toList k).length := by rw [Lk.turned_len]; exact hl
      obtain ⟨hc, hf⟩ := HR.out k hl2
      rw [Lk.turned_at _ _ _ hl] at hc
      have hbd := Lk.byte_bd s.data.toList[k]
      have HN : Hid (BRow (wr.setCell ⟨w.heap.size, k, none⟩ (.int .u8 (Lk.lowI s.data.toList[k].toNat))) w.heap.size (Lk.turned (fun _ => Lk.lowU) s.data.toList (k + 1))) := by
        have := HR.out.set_ k (Lk.lowU s.data.toList[k]) hl2
        rw [Lk.turned_succ (fun _ => Lk.lowU) _ _ hl, Lk.lowU_toNat] at this
        exact this
      generalize s.data.toList[k] = c at *
      clear hl hl2
      go_wp2_with (go_at_call 104; refine (lowerByte_any _ _ hbd.1 hbd.2).mono ?_; rintro e w' ⟨rfl, rfl⟩)
      go_roundw
      case rel => exact ⟨k + 1, by omega, by go_num, HN.out, below_set hb _⟩
      case measure => simp [intOf]; omega
    · have hcv := conv_back (cap := cap) HR.out (n := s.size) (by rw [Lk.turned_len]; simp)
      rw [Lk.turned_all _ _ _ (by simp; omega), Lk.mapIdx_const] at hcv
      go_wp2
      go_ret
      exact ⟨rfl, hb⟩
end Go.Proofs.YtlkneapidmdpbaaGreatDoor

namespace Go.Proofs.YtlkneapidmdpbaaGreatDoor
open Go.RowKit

theorem xor32_all : ∀ n : Fin 256, (decide (65 ≤ n.val) && decide (n.val ≤ 90) || decide (97 ≤ n.val) && decide (n.val ≤ 122)) = true →
    (Go.bits BinOp.xor IntKind.u8 (n.val : Int) 32 == (((UInt8.ofNat n.val) ^^^ 32).toNat : Int) && (Lk.lowU ((UInt8.ofNat n.val) ^^^ 32) == Lk.lowU (UInt8.ofNat n.val))) = true := by decide +kernel
theorem xor32 (c : UInt8) (h : (65 ≤ (c.toNat : Int) ∧ (c.toNat : Int) ≤ 90) ∨ (97 ≤ (c.toNat : Int) ∧ (c.toNat : Int) ≤ 122)) :
    Go.bits BinOp.xor IntKind.u8 (c.toNat : Int) 32 = ((c ^^^ 32).toNat : Int) ∧ Lk.lowU (c ^^^ 32) = Lk.lowU c := by
  have := xor32_all ⟨c.toNat, c.toNat_lt⟩ (by simp; omega)
  simpa using this
theorem lower_set {l : List UInt8} {k : Nat} {c d : UInt8} (h : k < l.length) (hc : l[k] = c) (hd : Lk.lowU d = Lk.lowU c) : Lk.lower (l.set k d) = Lk.lower l := by
  unfold Lk.lower
  rw [List.map_set, hd, ← hc]
  apply List.ext_getElem
  · simp
  · intro i h1 h2
    by_cases e : k = i
    · subst e; simp
    · simp [e]

def FlipPost (s : List UInt8) (w : World) (e : Ending) (w' : World) : Prop :=
  ∃ l : List UInt8, e = .returned (.string ⟨l.toArray⟩) ∧ Lk.lower l = Lk.lower s ∧ Below w.heap.size w w'

end Go.Proofs.YtlkneapidmdpbaaGreatDoor

namespace Go.Proofs.YtlkneapidmdpbaaGreatDoor
open Go.RowKit

theorem ownsRow_base {w : World} {b b' : Nat} {e : TypeId} {size : Nat} {v : Value} {n : Nat} {xs : List Value} (h : w.ownsRow b e size v n xs) (hb : b' ≤ b) : w.ownsRow b' e size v n xs := by
  obtain ⟨h1, h2⟩ := h
  refine ⟨h1, ?_⟩
  rcases h2 with h2 | ⟨g, cap, cur, e1, e2, e3⟩
  · exact .inl h2
  · exact .inr ⟨g, cap, cur, e1, Nat.le_trans hb e2, e3⟩
theorem ownsRow_below {w w' : World} {b : Nat} {e : TypeId} {size : Nat} {v : Value} {n : Nat} {xs : List Value} (h : w.ownsRow b e size v n xs) (hb : Below w.heap.size w w') : w'.ownsRow b e size v n xs := by
  obtain ⟨h1, h2⟩ := h
  refine ⟨h1, ?_⟩
  rcases h2 with h2 | ⟨g, cap, cur, e1, e2, e3, e4⟩
  · exact .inl h2
  · have hlt : g < w.heap.size := by
      rcases Nat.lt_or_ge g w.heap.size with h | h
      · exact h
      · rw [Array.getElem?_eq_none h] at e3; cases e3
    exact .inr ⟨g, cap, cur, e1, e2, (hb.block g hlt).trans e3, e4⟩
theorem ownsRow_drewN {w : World} {b : Nat} {e : TypeId} {size : Nat} {v : Value} {n : Nat} {xs : List Value} (h : w.ownsRow b e size v n xs) (k : Nat) : (w.drewN k).ownsRow b e size v n xs := h

/-- a text's bytes as a text -/
def mk (l : List UInt8) : ByteArray := ⟨l.toArray⟩
theorem mk_data (l : List UInt8) : (mk l).data.toList = l := by simp [mk]
theorem mk_size (l : List UInt8) : (mk l).size = l.length := by show l.toArray.size = _; simp
theorem mk_eq (s : ByteArray) : mk s.data.toList = s := Lib.mk_data s
theorem mk_append (a b : List UInt8) : mk a ++ mk b = mk (a ++ b) := by
  apply WideShapes.bytes_inj
  rw [mk_data]
  simp [mk]
theorem sv_mk (l : List UInt8) : sv l = .string (mk l) := rfl

/-- a row of the call's own, read as texts -/
theorem srow_of {w : World} {b : Nat} {v : Value} {xs : List (List UInt8)} (h : w.ownsRow b 9 1 v xs.length (xs.map sv)) :
    ∃ A c, v = .slice A xs.length c ∧ SRow w w.heap.size A (xs.map mk) := by
  rcases h.2 with ⟨e1, e2⟩ | ⟨g, cap, cur, e1, _, e3, _⟩
  · refine ⟨none, 0, by rw [e1, e2], ?_⟩
    have : xs = [] := List.length_eq_zero_iff.1 e2
    subst this
    intro j x hj; simp at hj
  · refine ⟨_, cap, e1, ?_⟩
    intro j x hj
    have hlt : g < w.heap.size := by
      rcases Nat.lt_or_ge g w.heap.size with h | h
      · exact h
      · rw [Array.getElem?_eq_none h] at e3; cases e3
    refine ⟨_, rfl, hlt, ?_⟩
    have hc := h.cells (g := g) (by rw [e1]; rfl) j (.string x) (by
      rw [List.getElem?_map] at hj ⊢
      cases hx : xs[j]? with
      | none => rw [hx] at hj; cases hj
      | some y => rw [hx] at hj; simp at hj; subst hj; rfl)
    exact hc

section
variable {P : Program} {w : World}
/-- append(x, y...) of two rows of the call's own -/
theorem wpList_append_own_own {ops : Array Oper} {rest : List Oper} {o : Oper} {a : Act} {Q : Exit → Act → World → Prop} (hgd : o.guard = none) (s x : Operand) (t : TypeId)
    (ho : o.op = .call { callee := .builtin .append, args := #[s, x], argTypes := #[t, t] })
    (base : Nat) (e : TypeId) (i : TypeInfo) (z : Value) (size bytes : Nat) (ht : P.underlying t = some (.slice e)) (hi : P.info? e = some i) (hz : i.zero = some z)
    (hsize : i.size = size) (hby : i.bytes = bytes) (hzs : z.cells.size = size) (hsz : 0 < size)
    (v : Value) (n : Nat) (xs : List Value) (hs : a.eval s = v) (hown : w.ownsRow base e size v n xs)
    (v2 : Value) (base2 m : Nat) (ys : List Value) (hx : a.eval x = v2) (hown2 : w.ownsRow base2 e size v2 m ys) (h1 : ∀ u ∈ ys, u.oneCell' = true)
    (h63 : n + m ≤ maxLen) (hbytes : (n + m) * bytes ≤ 140737488355328) (hbase : base ≤ w.heap.size)
    (h : ∀ v' w', w'.ownsRow base e size v' (n + m) (xs ++ ys) → w.grownBy w' v.ownBlock → wpList P ops Q rest (a.put o.dst v') w') : wpList P ops Q (o :: rest) a w := by
  rcases hown2.2 with ⟨e1, e2⟩ | ⟨g, cap, cur, e1, _⟩
  · have hy : ys = [] := List.length_eq_zero_iff.1 (by rw [hown2.1, e2]; simp)
    subst e2 hy
    refine wpList_append_own_none hgd s x t ho base e i size ht hi v n xs hs hown (hx.trans e1) ?_
    exact h v w (by simpa using hown) ⟨rfl, rfl, rfl, Nat.le_refl _, fun _ _ _ => rfl⟩
  · refine wpList_append_own w hgd s x t ho base e i z size bytes ht hi hz hsize hby hzs hsz v n xs hs hown ⟨g, 0, none⟩ m cap ys (hx.trans e1) hown2.1 (hown2.cells (g := g) (by rw [e1]; rfl)) h1 h63 hbytes hbase ?_
    intro v' w' h1 h2 _
    exact h v' w' h1 h2
end

set_option maxHeartbeats 400000 in
/-- two rows that hold the same texts are told to be the same -/
theorem Texts_same (A1 A2 : Option Addr) (n1 n2 c1 c2 B1 B2 : Nat) (xs : List ByteArray) (w : World) (hn1 : n1 = xs.length) (hn2 : n2 = xs.length) (hl : xs.length ≤ maxLen) (h1 : SRow w B1 A1 xs) (h2 : SRow w B2 A2 xs) :
    Calls Tryz.prog 30 #[.slice A1 n1 c1, .slice A2 n2 c2] w fun e w' => e = .returned (.bool true) ∧ ∃ n, w' = w.drewN n := by
  subst hn1 hn2
  unfold maxLen at hl
  have H1 := Lib.hid h1
  have H2 := Lib.hid h2
  clear h1 h2
  go_enter Tryz.func30, Tryz.ntmps30
  go_wp2
  go_loopw [5] (fun i wr => ∃ k m : Nat, k ≤ xs.length ∧ i = .int .i64 k ∧ wr = w.drewN m) (fun i _ => xs.length - (intOf i).toNat)
  case atStart => exact ⟨0, 0, Nat.zero_le _, rfl, rfl⟩
  case round =>
    obtain ⟨k, m, hk, rfl, hw⟩ := hrel
    have HW := Lib.hid hw
    clear hw
    by_cases hlt : k < xs.length
    · obtain ⟨a1, e1, _, hc1⟩ := H1.out k xs[k] (List.getElem?_eq_getElem hlt)
      obtain ⟨a2, e2, _, hc2⟩ := H2.out k xs[k] (List.getElem?_eq_getElem hlt)
      have hc1' : wr.cell? (a1.add k) = some (.string xs[k]) := by rw [HW.out]; exact hc1
      have hc2' : wr.cell? (a2.add k) = some (.string xs[k]) := by rw [HW.out]; exact hc2
      clear hc1 hc2
      generalize xs[k] = x at *
      subst e1 e2
      have h32 : ((k : Int) < (xs.length : Int)) := by omega
      go_wp2_with fail
      go_quiet (fail)
      go_wp2
      go_roundw
      case rel => exact ⟨k + 1, _, by omega, by go_num, by rw [HW.out, World.drewN_drewN]⟩
      case measure => simp [intOf]; omega
    · go_wp2
      go_ret
      exact ⟨rfl, m, HW.out⟩
end Go.Proofs.YtlkneapidmdpbaaGreatDoor

namespace Go.Proofs.YtlkneapidmdpbaaGreatDoor
open Go.RowKit

def flipB (bits : Int) (k : Nat) : Bool := Go.bits BinOp.and IntKind.u64 (bits / 2 ^ (k % 64)) 1 == 1
def letU (c : UInt8) : Bool := (decide (65 ≤ c.toNat) && decide (c.toNat ≤ 90)) || (decide (97 ≤ c.toNat) && decide (c.toNat ≤ 122))
def flipU (bits : Int) (k : Nat) (c : UInt8) : UInt8 := if letU c && flipB bits k then c ^^^ 32 else c
def flipL (bits : Int) (l : List UInt8) : List UInt8 := l.mapIdx (flipU bits)
theorem letU_yes {c : UInt8} (h : (65 ≤ (c.toNat : Int) ∧ (c.toNat : Int) ≤ 90) ∨ (97 ≤ (c.toNat : Int) ∧ (c.toNat : Int) ≤ 122)) : letU c = true := by
  unfold letU; simp; omega
theorem letU_no {c : UInt8} (h : ¬ ((65 ≤ (c.toNat : Int) ∧ (c.toNat : Int) ≤ 90) ∨ (97 ≤ (c.toNat : Int) ∧ (c.toNat : Int) ≤ 122))) : letU c = false := by
  cases hc : letU c
  · rfl
  · exfalso; apply h; unfold letU at hc; simp at hc; omega
theorem letU_of {c : UInt8} (h : letU c = true) : (65 ≤ (c.toNat : Int) ∧ (c.toNat : Int) ≤ 90) ∨ (97 ≤ (c.toNat : Int) ∧ (c.toNat : Int) ≤ 122) := by
  unfold letU at h; simp at h; omega
theorem flipU_low (bits : Int) (k : Nat) (c : UInt8) : Lk.lowU (flipU bits k c) = Lk.lowU c := by
  unfold flipU
  cases hc : letU c
  · rfl
  · cases flipB bits k
    · rfl
    · exact (xor32 c (letU_of hc)).2
theorem flip_low (bits : Int) (l : List UInt8) : Lk.lower (flipL bits l) = Lk.lower l := by
  unfold flipL Lk.lower
  apply List.ext_getElem
  · simp
  · intro i h1 h2
    simp [flipU_low]
theorem flip_dots (bits : Int) (l : List UInt8) : dotsL (flipL bits l) = dotsL l := by unfold dotsL; rw [flip_low]
theorem flip_len (bits : Int) (l : List UInt8) : (flipL bits l).length = l.length := by simp [flipL]
theorem flip_noSl (bits : Int) {l : List UInt8} (h : noSl l) : noSl (flipL bits l) := by
  intro b hb hx
  unfold flipL at hb
  obtain ⟨i, hi, e⟩ := List.mem_mapIdx.1 hb
  have h1 := flipU_low bits i l[i]
  rw [e, hx] at h1
  exact h l[i] (List.getElem_mem hi) ((low_low47 l[i]).1 h1.symm)
theorem turn_same {f : Nat → UInt8 → UInt8} {l : List UInt8} {k : Nat} (h : k < l.length) (e : f k l[k] = l[k]) : Lk.turned f l (k + 1) = Lk.turned f l k := by
  rw [← Lk.turned_succ f l k h, e]
  conv => lhs; rw [← Lk.turned_at f l k h]
  exact List.set_getElem_self _

end Go.Proofs.YtlkneapidmdpbaaGreatDoor

namespace Go.Proofs.YtlkneapidmdpbaaGreatDoor
open Go.RowKit

/-- Low's number -/
def lowV (x n : Int) : Int := (IntKind.u64.wrap x) % n
theorem lowV_bd (x : Int) {n : Int} (hn : 1 ≤ n) : 0 ≤ lowV x n ∧ lowV x n < n :=
  ⟨Int.emod_nonneg _ (by omega), Int.emod_lt_of_pos _ (by omega)⟩

set_option maxHeartbeats 400000 in
theorem Low_any (x n : Int) (w : World) (hn : 1 ≤ n) (hn2 : n ≤ 9223372036854775807) :
    Calls Tryz.prog 29 #[.int .i64 x, .int .i64 n] w fun e w' => e = .returned (.int .i64 (lowV x n)) ∧ w = w' := by
  have hv := lowV_bd x hn
  have HE : Hid (wrap64 ((IntKind.u64.wrap x).tmod n) = lowV x n) := by
    show _ = _
    have e : (IntKind.u64.wrap x).tmod n = lowV x n := by rw [lowV, Int.tmod_eq_emod_of_nonneg (wrap_u64_nonneg x)]
    rw [e]
    unfold wrap64
    omega
  clear hv
  go_enter Tryz.func29, Tryz.ntmps29
  go_wp2
  go_ret
  exact ⟨ret_int HE.out, rfl⟩

end Go.Proofs.YtlkneapidmdpbaaGreatDoor

namespace Go.Proofs.YtlkneapidmdpbaaGreatDoor
open Go.RowKit

theorem sum_data (xs : List ByteArray) : ((xs.map (·.data.toList)).map List.length).sum = (xs.map ByteArray.size).sum := by
  rw [List.map_map]; congr 1
/-- the texts' bytes -/
def dat (xs : List ByteArray) : List (List UInt8) := xs.map (·.data.toList)
theorem dat_snoc (xs : List ByteArray) (x : ByteArray) : dat (xs ++ [x]) = dat xs ++ [x.data.toList] := by simp [dat]
theorem dat_len (xs : List ByteArray) : (dat xs).length = xs.length := by simp [dat]
theorem dat_sum (xs : List ByteArray) : ((dat xs).map List.length).sum = (xs.map ByteArray.size).sum := sum_data xs

theorem join_eq : ∀ l : List (List UInt8), Lib.join l [44, 32] = Lk.joinL l
  | [] => rfl
  | [x] => by rw [Lib.join_one]; rfl
  | x :: y :: r => by
    have := join_eq (y :: r)
    rw [Lib.join_cons] at this ⊢
    rw [Lk.joinL, ← this, Lib.joinTail, Lib.joinTail]
    simp

set_option maxHeartbeats 400000 in
theorem Join_any (A : Option Addr) (len c B : Nat) (xs : List ByteArray) (w : World) (hlen : len = xs.length) (hx : SRow w B A xs) (hB : B ≤ w.heap.size) (hc : xs.length ≤ c) (hN : xs.length ≤ 1099511627776) (hj : (Lk.joinL (dat xs)).length ≤ 1099511627776) :
    Calls Tryz.prog 59 #[.slice A len c] w fun e w' => e = .returned (.string (mk (Lk.joinL (dat xs)))) ∧ Below w.heap.size w w' := by
  subst hlen
  by_cases h0 : xs = []
  · subst h0
    go_enter Tryz.func59, Tryz.ntmps59
    go_wp2_with fail
    refine (Tryz.strings_Join_none _ _ _ _).mono ?_
    rintro e w' ⟨rfl, rfl⟩
    go_wp2
    go_ret
    exact ⟨rfl, Below.refl _ _⟩
  · obtain ⟨x0, r, rfl⟩ := List.exists_cons_of_ne_nil h0
    obtain ⟨⟨bk, o, spot⟩, rfl, hb, hc0⟩ := hx 0 x0 rfl
    have hs : spot = none := by simpa [Addr.add] using World.cell?_spot hc0
    subst hs
    have hcells : ∀ (j : Nat) x, (x0 :: r)[j]? = some x → w.cell? ⟨bk, o + j, none⟩ = some (.string x) := by
      intro j x hj
      obtain ⟨ad, e, _, hcj⟩ := hx j x hj
      injection e with e
      subst e
      have e2 : (⟨bk, o, none⟩ : Addr).add j = ⟨bk, o + j, none⟩ := by unfold Addr.add; split <;> simp_all
      rw [← e2]; exact hcj
    have hbk : bk < w.heap.size := Nat.lt_of_lt_of_le hb hB
    have HC := Lib.hid hcells
    have HE := Lib.hid (join_eq (dat (x0 :: r)))
    clear hcells hx hc0 h0
    generalize x0 :: r = xs at *
    go_enter Tryz.func59, Tryz.ntmps59
    go_wp2_with fail
    refine (Tryz.strings_Join bk o c xs ⟨#[44, 32]⟩ w HC.out hbk (by omega) hc (by show (Lib.join (dat xs) [44, 32]).length ≤ _; rw [HE.out]; omega)).mono ?_
    rintro e w' ⟨rfl, hb⟩
    go_wp2
    go_ret
    exact ⟨ret_string (by show (⟨(Lib.join (dat xs) [44, 32]).toArray⟩ : ByteArray) = _; rw [HE.out]; rfl), hb⟩

set_option maxHeartbeats 400000 in
theorem In_any (c : Int) (s : ByteArray) (w : World) (hs : s.size ≤ maxLen) :
    Calls Tryz.prog 141 #[.int .u8 c, .string s] w fun e w' => e = .returned (.bool (Lk.inL c s.data.toList)) ∧ w = w' := by
  unfold maxLen at hs
  go_enter Tryz.func141, Tryz.ntmps141
  go_wp2
  go_loop [5] (fun i => ∃ k : Nat, k ≤ s.size ∧ i = .int .i64 k ∧ (s.data.toList.take k).any (fun b => (b.toNat : Int) == c) = false) (fun i => s.size - (intOf i).toNat)
  case atStart => exact ⟨0, Nat.zero_le _, rfl, rfl⟩
  case round =>
    obtain ⟨k, hk, rfl, ha⟩ := hrel
    have HA := Lib.hid ha
    clear ha
    by_cases hlt : k < s.size
    · cases hc : ((s[k].toNat : Int) == c)
      · have HC := Lib.hid hc
        go_wp2
        go_round
        case rel => exact ⟨k + 1, by omega, by go_num, Lk.any_no hlt HA.out HC.out⟩
        case measure => simp [intOf]; omega
      · have HC := Lib.hid hc
        go_wp2
        go_ret
        exact ⟨ret_bool (by rw [Lk.inL, Lk.any_yes hlt HC.out]), rfl⟩
    · go_wp2
      go_ret
      exact ⟨ret_bool (by have := HA.out; rw [Lk.take_all s k (by omega)] at this; rw [Lk.inL, this]), rfl⟩
end Go.Proofs.YtlkneapidmdpbaaGreatDoor

namespace Go.Proofs.YtlkneapidmdpbaaGreatDoor
open Go.RowKit

theorem infoB : (Tryz.prog.info? 5).map (fun i => (i.zero, i.size, i.bytes)) = some (some (.int .u8 0), 1, 1) := by kernel_rfl

theorem digit_at (d : Nat) (h : d ≤ 9) : (ByteArray.mk #[48, 49, 50, 51, 52, 53, 54, 55, 56, 57]).extract d (d + 1) = mk [UInt8.ofNat (48 + d)] := by
  have : ∀ d : Fin 10, ((ByteArray.mk #[48, 49, 50, 51, 52, 53, 54, 55, 56, 57]).extract d.val (d.val + 1)).data = (mk [UInt8.ofNat (48 + d.val)]).data := by decide +kernel
  have h2 := this ⟨d, by omega⟩
  exact WideShapes.bytes_inj (by rw [h2])

set_option maxHeartbeats 1000000 in
theorem Num_any (n0 : Nat) (w : World) (h0 : n0 ≤ Lk.M64) :
    Calls Tryz.prog 138 #[.int .u64 (n0 : Int)] w fun e w' => e = .returned (.string (mk (numL n0))) ∧ w = w' := by
  unfold Lk.M64 at h0
  go_enter Tryz.func138, Tryz.ntmps138
  go_wp2
  go_loop [0, 3] (fun a s => ∃ (n : Nat) (t : List UInt8), n ≤ n0 ∧ a = .int .u64 (n : Int) ∧ s = .string (mk t) ∧ t.length ≤ 26 ∧ numL n0 = numL n ++ t) (fun a _ => (intOf a).toNat)
  case atStart => exact ⟨n0, [], Nat.le_refl _, rfl, rfl, by simp, by simp⟩
  case round =>
    obtain ⟨n, t, hn, rfl, rfl, ht, he⟩ := hrel
    have hts : (mk t).size ≤ 26 := by rw [mk_size]; exact ht
    have HE := Lib.hid he
    have HLE : Hid ((numL n).length + t.length ≤ 26) := by
      have h1 := (numL_ok (n := n0) (by unfold Lk.M64; omega)).2.2
      show _ ≤ _
      rw [he, List.length_append] at h1; exact h1
    clear he
    by_cases h9 : n ≤ 9
    · have HD := Lib.hid (digit_at n h9)
      go_wp2
      go_ret
      exact ⟨ret_string (by rw [HD.out, mk_append, HE.out, numL_small h9]), rfl⟩
    · have HD := Lib.hid (digit_at (n % 10) (by omega))
      have HB := Lib.hid (numL_big h9 (by omega))
      go_wp2
      go_round
      case rel =>
        refine ⟨n / 10, UInt8.ofNat (48 + n % 10) :: t, by omega, by go_num, by rw [HD.out, mk_append]; rfl, ?_, by rw [HE.out, HB.out]; simp⟩
        have h1 := HLE.out
        rw [HB.out, List.length_append] at h1
        simp at h1 ⊢; omega
      case measure => simp [intOf]; omega

/-- a row of the call's own that holds bytes -/
theorem BRow.of_own {w : World} {base g n cap : Nat} {l : List UInt8} (h : w.ownsRow base 5 1 (.slice (some ⟨g, 0, none⟩) n cap) n (l.map (fun b => Value.int .u8 (b.toNat : Int)))) : BRow w g l := by
  intro j hj
  have hl := h.1
  rw [List.length_map, Nat.mul_one] at hl
  refine ⟨?_, h.frozenAt j⟩
  rw [h.cellAt j (by omega), List.getElem?_map, List.getElem?_eq_getElem hj]; rfl

end Go.Proofs.YtlkneapidmdpbaaGreatDoor
