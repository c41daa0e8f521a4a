/-
  What layer 16's statements share: rows of entries told alike, a cache of the call's own, what the chapter tells by example, over this seat's program. Conditions: those of each statement.
-/
import Derived.Test.YtlkneapidmdpbaaGreatDoorBClone
import Derived.Test.YtlkneapidmdpbaaGreatDoorBPut
namespace Go.Proofs.YtlkneapidmdpbaaGreatDoor
open Go.RowKit

theorem neqE_ent (a b m h : ByteArray) (c : Bool) (t : Int) (w : World) : (binOp .neq 64 (.agg #[.string a, .string b, .bool c, .string m, .string h, .int .u64 t]) (.agg #[.string a, .string b, .bool c, .string m, .string h, .int .u64 t])).run Tryz.prog w = .ok (.bool false) w := by
  rw [run_neq_struct]; simp [go_sem]
set_option maxHeartbeats 2000000 in
/-- two rows of the same entries are told to be alike -/
theorem Ents_any (v1 v2 : Value) (l : List En) (w : World) (h1 : EnRow w v1 l) (h2 : EnRow w v2 l) :
    Calls Tryz.prog 18 #[v1, v2] w fun e w' => e = .returned (.bool true) ∧ Only [] w w' := by
  obtain ⟨A1, c1, hv1, hlc1, hcm1⟩ := h1.slice
  obtain ⟨A2, c2, hv2, hlc2, hcm2⟩ := h2.slice
  unfold maxLen at hcm1 hcm2
  obtain ⟨N, hN⟩ : ∃ N, N = l.length := ⟨_, rfl⟩
  have HN := Lib.hid hN
  rw [← hN] at hv1 hv2 hlc1 hlc2
  clear hN
  subst hv1 hv2
  have H1 := Lib.hid h1
  have H2 := Lib.hid h2
  clear h1 h2
  go_enter Tryz.func18, Tryz.ntmps18
  go_wp2_with fail
  go_loopw [5] (fun i wr => ∃ k : Nat, k ≤ N ∧ i = .int .i64 k ∧ Only [] w wr) (fun i _ => N - (intOf i).toNat)
  case atStart => exact ⟨0, Nat.zero_le _, rfl, Only.refl _ _⟩
  case round =>
    obtain ⟨k, hk, rfl, ho⟩ := hrel
    have HO := Lib.hid ho
    clear ho
    by_cases hlt : k < N
    · obtain ⟨g1, d1, e1, _, _, _⟩ := (H1.out.old HO.out).some_ (by have := HN.out; omega)
      obtain ⟨g2, d2, e2, _, _, _⟩ := (H2.out.old HO.out).some_ (by have := HN.out; omega)
      rw [← HN.out] at e1 e2
      obtain ⟨rfl, rfl⟩ : A1 = some ⟨g1, 0, none⟩ ∧ c1 = d1 := by
        injection e1 with e1 e2 e3
        exact ⟨e1, e3⟩
      obtain ⟨rfl, rfl⟩ : A2 = some ⟨g2, 0, none⟩ ∧ c2 = d2 := by
        injection e2 with e1 e2 e3
        exact ⟨e1, e3⟩
      obtain ⟨f0, f1, f2, f3, f4, f5⟩ := (H1.out.old HO.out).el (l := l) HN.out (k := k) (by rw [← HN.out]; exact hlt)
      obtain ⟨b0, b1, b2, b3, b4, b5⟩ := (H2.out.old HO.out).el (l := l) HN.out (k := k) (by rw [← HN.out]; exact hlt)
      have hq := neqE_ent (nthE l k).k.o (nthE l k).k.u (nthE l k).m (nthE l k).h (nthE l k).k.c ((nthE l k).t : Int)
      clear e1 e2
      generalize nthE l k = x at *
      go_wp2_with fail
      go_quiet (fail)
      clear f0 f1 f2 f3 f4 f5 b0 b1 b2 b3 b4 b5 hq
      go_wp2
      go_roundw
      case rel => exact ⟨k + 1, by omega, by go_num, HO.out.drewN _⟩
      case measure => simp [intOf]; omega
    · go_wp2
      go_ret
      exact ⟨rfl, HO.out⟩

/-- texts just laid in a row -/
theorem SRow.new (w : World) (xs : List ByteArray) (t : TypeId) (cs : Array Value) (hc : cs = (xs.map Value.string).toArray) : SRow (w.alloc (.cells cs t)) (w.heap.size + 1) (some ⟨w.heap.size, 0, none⟩) xs := by
  intro j x hj
  refine ⟨_, rfl, Nat.lt_succ_self _, ?_⟩
  refine World.news_of_block (w := _) (fr := (0, 0)) (t := t) (cs := cs) (heap_alloc_new w (.cells cs t)) j _ ?_
  rw [hc]
  simp [hj]
/-- a cache of the call's own -/
structure CaNew (w W : World) (g n : Nat) (v : Value) (l : List En) : Prop where
  c : CaAt W g n v l
  b : Below w.heap.size w W
  up : ∀ x ∈ g :: ownL v, w.heap.size ≤ x
section
variable {w W W' : World} {g n : Nat} {v : Value} {l l' : List En}
theorem CaNew.old (h : CaNew w W g n v l) (o : Only [] W W') : CaNew w W' g n v l := ⟨h.c.old o, o.above h.b (Nat.le_refl _) (by simp), h.up⟩
theorem CaNew.step (h : CaNew w W g n v l) (s : CaStep W W' g n v l') : ∃ v', CaNew w W' g n v' l' ∧ Only (g :: ownL v) W W' ∧ Grow W.heap.size v v' := by
  obtain ⟨v', h1, h2, h3⟩ := s
  refine ⟨v', ⟨h1, h2.above h.b (Nat.le_refl _) h.up, ?_⟩, h2, h3⟩
  intro x hx
  rcases List.mem_cons.1 hx with h4 | h4
  · exact h.up x (by simp [h4])
  · rcases h3 x h4 with h5 | h5
    · exact h.up x (by simp [h5])
    · exact Nat.le_trans h.b.size h5
theorem CaNew.only {s : List Nat} (h : CaNew w W g n v l) (o : Only s W W') (hs : ∀ x ∈ g :: ownL v, x ∉ s) (hu : ∀ x ∈ s, w.heap.size ≤ x) : CaNew w W' g n v l := ⟨h.c.only o hs, o.above h.b (Nat.le_refl _) hu, h.up⟩
end
theorem CaNew.made {w W W' : World} {g n : Nat} (hb : Below w.heap.size w W) (h : CaAt W' g n (.slice none 0 0) []) (o : Only [] W W') (hg : W.heap.size ≤ g) : CaNew w W' g n (.slice none 0 0) [] :=
  ⟨h, o.above hb (Nat.le_refl _) (by simp), by intro x hx; simp [ownL, Value.ownBlock] at hx; subst hx; exact Nat.le_trans hb.size hg⟩

abbrev aT : ByteArray := ⟨#[104, 116, 116, 112, 58, 47, 47, 97]⟩
abbrev bT : ByteArray := ⟨#[104, 116, 116, 112, 58, 47, 47, 98, 47]⟩
abbrev putT : ByteArray := ⟨#[80, 85, 84]⟩
def cl0 : Cl := ⟨aT, bT, false⟩
def en0 : En := ⟨cl0, putT, noT, 5⟩
theorem put_no : tB putT noT = false := tB_no.2 (by decide)
theorem aw16_1 : putB en0 3 = true := by unfold putB okE expB noB en0; simp only [put_no, tB_self]; rfl
theorem aw16_2 : putL 4 en0 3 [] = [en0] := by rw [putL_yes aw16_1]; rfl
theorem aw16_3 : methL cl0 putT 4 [en0] = true := by
  unfold methL hasL methE expB noB en0
  simp only [List.any_cons, List.any_nil, cellB_self, tB_self]; rfl
theorem aw16_4 : methL cl0 putT 5 [en0] = false := by
  unfold methL hasL expB en0; simp
theorem aw16_5 : putB ⟨cl0, noT, noT, 9⟩ 3 = false := by unfold putB okE; simp
theorem clamp4 : clampE 4 = 4 := rfl

end Go.Proofs.YtlkneapidmdpbaaGreatDoor
