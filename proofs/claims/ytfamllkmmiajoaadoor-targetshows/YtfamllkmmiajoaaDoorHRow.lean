/-
  Rows of bytes of the call's own: what they hold, cut short, turned to text; the contracts of the library's bytes.LastIndexByte and of target's withoutLast, over this seat's program. Conditions: those of each statement.
-/
import Derived.Test.YtfamllkmmiajoaaDoorHCut
import Derived.Lib.AppendStr
import Derived.Laws.MakeOwn
namespace Go.Proofs.YtfamllkmmiajoaaDoor
open Go.RowKit

def bv (b : UInt8) : Value := .int .u8 (b.toNat : Int)
def KeptAt (w : World) (base : Nat) (v : Value) (l : List UInt8) : Prop := w.ownsRow base 5 1 v l.length (l.map bv)
theorem infoU8 : (Tryd.prog.info? 5).map (fun i => (i.zero, i.size, i.bytes)) = some (some (.int .u8 0), 1, 1) := by kernel_rfl

theorem add_at (g j : Nat) : (⟨g, 0, none⟩ : Addr).add j = ⟨g, j, none⟩ := by unfold Addr.add; split <;> simp_all
/-- a row's cells, and its beginnings -/
theorem KeptAt.view {w : World} {base : Nat} {v : Value} {l : List UInt8} (h : KeptAt w base v l) : ∃ (A : Option Addr) (cap : Nat), v = .slice A l.length cap ∧ l.length ≤ cap ∧ cap ≤ maxLen ∧
    (∀ j (hj : j < l.length), ∃ ad, A = some ad ∧ w.cell? (ad.add j) = some (bv l[j])) ∧ (∀ m, m ≤ l.length → KeptAt w base (.slice A m cap) (l.take m)) := by
  rcases h.2 with ⟨e1, e2⟩ | ⟨g, cap, cur, e1, e2, e3, e4, e5, e6, e7⟩
  · have hl : l = [] := List.length_eq_zero_iff.1 e2
    subst hl
    refine ⟨none, 0, e1, Nat.zero_le _, Nat.zero_le _, fun j hj => by simp at hj, fun m hm => ?_⟩
    obtain rfl : m = 0 := by simpa using hm
    exact World.ownsRow_nil _ _ _ _
  · refine ⟨some ⟨g, 0, none⟩, cap, e1, e4, e5, fun j hj => ⟨_, rfl, ?_⟩, fun m hm => ?_⟩
    · exact h.cells (g := g) (by rw [e1]; rfl) j _ (by simp [hj])
    · refine ⟨by simp, .inr ⟨g, cap, cur, by simp [Nat.min_eq_left hm], e2, e3, by simp; omega, e5, e6, ?_⟩⟩
      simp only [Nat.mul_one, List.length_take, List.map_take, Nat.min_eq_left hm] at e7 ⊢
      rw [← e7, List.take_take, Nat.min_eq_left hm]
theorem KeptAt.below {w w' : World} {base : Nat} {v : Value} {l : List UInt8} (h : KeptAt w base v l) (hb : Below w.heap.size w w') : KeptAt w' base v l := ownsRow_below h hb
theorem KeptAt.drewN {w : World} {base : Nat} {v : Value} {l : List UInt8} (h : KeptAt w base v l) (n : Nat) : KeptAt (w.drewN n) base v l := h
theorem bv_bytes (s : ByteArray) : Lib.strCells s = s.data.toList.map bv := by
  unfold Lib.strCells
  first | rfl | simp [bv]

def lastP (l : List UInt8) (i : Int) : Prop := (i = -1 ∧ ∀ b ∈ l, b ≠ 47) ∨ ∃ a b, l = a ++ 47 :: b ∧ (∀ x ∈ b, x ≠ 47) ∧ i = a.length
theorem bv_eq (b : UInt8) : ((b.toNat : Int) == 47) = decide (b = 47) := by
  rw [Bool.eq_iff_iff, beq_iff_eq, decide_eq_true_eq]
  constructor
  · intro h; exact UInt8.toNat_inj.1 (by simpa using (by omega : b.toNat = 47))
  · rintro rfl; rfl

set_option maxHeartbeats 1000000 in
theorem bytealgLast_any (A : Option Addr) (n cap : Nat) (l : List UInt8) (w : World) (hn : n = l.length) (hl : l.length ≤ maxLen)
    (hc : ∀ j (hj : j < l.length), ∃ ad, A = some ad ∧ w.cell? (ad.add j) = some (bv l[j])) :
    Calls Tryd.prog 74 #[.slice A n cap, .int .u8 47] w fun e w' => (∃ i, e = .returned (.int .i64 i) ∧ lastP l i) ∧ w = w' := by
  subst hn
  unfold maxLen at hl
  have HC := Lib.hid hc
  clear hc
  go_enter Tryd.func74, Tryd.ntmps74
  go_wp2
  go_loop [5] (fun i => ∃ k : Nat, k ≤ l.length ∧ i = .int .i64 ((k : Int) - 1) ∧ ∀ x ∈ l.drop k, x ≠ 47) (fun i => (intOf i + 1).toNat)
  case atStart => exact ⟨l.length, Nat.le_refl _, by go_num, by simp⟩
  case round =>
    obtain ⟨k, hk, rfl, ha⟩ := hrel
    have HA := Lib.hid ha
    clear ha
    cases k with
    | zero =>
      go_wp2
      go_ret
      exact ⟨⟨-1, rfl, .inl ⟨rfl, by simpa using HA.out⟩⟩, rfl⟩
    | succ m =>
      have hm : m < l.length := by omega
      have em : ((m + 1 : Nat) : Int) - 1 = (m : Int) := by omega
      rw [em]
      obtain ⟨ad, ea, hcell⟩ := HC.out m hm
      subst ea
      unfold bv at hcell
      have hq := bv_eq l[m]
      have hdrop : l.drop m = l[m] :: l.drop (m + 1) := List.drop_eq_getElem_cons hm
      have HD := Lib.hid hdrop
      have HS : Hid (l = l.take m ++ l.drop m) := (List.take_append_drop m l).symm
      have hlen : (l.take m).length = m := by simp; omega
      have HLn := Lib.hid hlen
      clear hdrop hlen
      by_cases h47 : l[m] = 47
      · have HX := Lib.hid h47
        rw [h47] at hq
        generalize l[m] = c at *
        subst h47
        go_wp2
        go_ret
        refine ⟨⟨m, rfl, .inr ⟨l.take m, l.drop (m + 1), ?_, HA.out, by rw [HLn.out]⟩⟩, rfl⟩
        have := HS.out
        rw [HD.out] at this
        exact this
      · have HX := Lib.hid h47
        have hq2 : ((l[m].toNat : Int) == 47) = false := by rw [hq]; simpa using h47
        clear hq h47
        generalize l[m] = c at *
        go_wp2
        go_round
        case rel =>
          refine ⟨m, by omega, by go_num, ?_⟩
          rw [HD.out]
          intro x hx
          rcases List.mem_cons.1 hx with rfl | hx
          · exact HX.out
          · exact HA.out x hx
        case measure => simp [intOf]

set_option maxHeartbeats 1000000 in
theorem LastIndexByte_any (A : Option Addr) (n cap : Nat) (l : List UInt8) (w : World) (hn : n = l.length) (hl : l.length ≤ maxLen)
    (hc : ∀ j (hj : j < l.length), ∃ ad, A = some ad ∧ w.cell? (ad.add j) = some (bv l[j])) :
    Calls Tryd.prog 59 #[.slice A n cap, .int .u8 47] w fun e w' => (∃ i, e = .returned (.int .i64 i) ∧ lastP l i) ∧ w = w' := by
  have HB := Lib.hid (bytealgLast_any A n cap l w hn hl hc)
  clear hn hl hc
  go_enter Tryd.func59, Tryd.ntmps59
  go_wp2_with fail
  refine HB.out.mono ?_
  rintro e w' ⟨⟨i, rfl, hi⟩, rfl⟩
  go_wp2
  go_ret
  exact ⟨⟨i, rfl, hi⟩, rfl⟩

/-- what the last slash of the kept segments is worth -/
theorem last_join {acc : List (List UInt8)} (h : ∀ t ∈ acc, noSl t) {i : Int} (hi : lastP (joinS acc) i) : ∃ m : Nat, m ≤ (joinS acc).length ∧ max 0 i = (m : Int) ∧ (joinS acc).take m = joinS acc.dropLast := by
  rcases List.eq_nil_or_concat acc with rfl | ⟨b, s, rfl⟩
  · refine ⟨0, Nat.zero_le _, ?_, rfl⟩
    rcases hi with ⟨rfl, _⟩ | ⟨x, y, e, _⟩
    · decide
    · simp [joinS] at e
  · rw [List.concat_eq_append] at *
    have e := joinS_snoc b s
    rw [List.dropLast_concat]
    rcases hi with ⟨_, hno⟩ | ⟨x, y, e2, hy, rfl⟩
    · exact absurd rfl (hno 47 (by rw [e]; simp))
    · have hx : x = joinS b := app_inj_last (e2.symm.trans e) hy (h s (by simp))
      subst hx
      refine ⟨(joinS b).length, by rw [e]; simp, by omega, by rw [e, List.take_left' rfl]⟩

set_option maxHeartbeats 1000000 in
theorem withoutLast_any (v : Value) (base : Nat) (acc : List (List UInt8)) (w : World) (hk : KeptAt w base v (joinS acc)) (hn : ∀ t ∈ acc, noSl t) :
    Calls Tryd.prog 38 #[v] w fun e w' => ∃ v, e = .returned v ∧ KeptAt w' base v (joinS acc.dropLast) ∧ ∃ n, w' = w.drewN n := by
  obtain ⟨A, cap, rfl, hlc, hcm, hcells, htake⟩ := hk.view
  have HC := Lib.hid hcells
  have HT := Lib.hid htake
  have HN := Lib.hid hn
  unfold maxLen at hcm
  clear hcells htake hn hk
  go_enter Tryd.func38, Tryd.ntmps38
  go_wp2_with fail
  refine (LastIndexByte_any A _ cap (joinS acc) _ rfl (by unfold maxLen; omega) HC.out).mono ?_
  rintro e w' ⟨⟨i, rfl, hi⟩, rfl⟩
  obtain ⟨m, hm, hmax, htk⟩ := last_join HN.out hi
  have HK : Hid (KeptAt w base (.slice A m cap) (joinS acc.dropLast)) := by
    have := HT.out m hm
    rw [htk] at this
    exact this
  clear htk hi HC HT
  generalize (joinS acc).length = len at *
  go_wp2
  go_ret
  exact ⟨_, rfl, HK.out, 0, rfl⟩
end Go.Proofs.YtfamllkmmiajoaaDoor
