/-
  Rows of entries told alike, over this seat's program. Conditions: those of each statement.
-/
import Derived.Test.YtlkneapidmdpbaaGreatDoorBClone
namespace Go.Proofs.YtlkneapidmdpbaaGreatDoor
open Go.RowKit

theorem neqE_ent (a b m h : ByteArray) (c : Bool) (t : Int) (w : World) : (binOp .neq 64 (.agg #[.string a, .string b, .bool c, .string m, .string h, .int .u64 t]) (.agg #[.string a, .string b, .bool c, .string m, .string h, .int .u64 t])).run Tryz.prog w = .ok (.bool false) w := by
  rw [run_neq_struct]; simp [go_sem]
set_option maxHeartbeats 2000000 in
/-- two rows of the same entries are told to be alike -/
theorem Ents_any (v1 v2 : Value) (l : List En) (w : World) (h1 : EnRow w v1 l) (h2 : EnRow w v2 l) :
    Calls Tryz.prog 18 #[v1, v2] w fun e w' => e = .returned (.bool true) ∧ Only [] w w' := by
  obtain ⟨A1, c1, hv1, hlc1, hcm1⟩ := h1.slice
  obtain ⟨A2, c2, hv2, hlc2, hcm2⟩ := h2.slice
  unfold maxLen at hcm1 hcm2
  obtain ⟨N, hN⟩ : ∃ N, N = l.length := ⟨_, rfl⟩
  have HN := Lib.hid hN
  rw [← hN] at hv1 hv2 hlc1 hlc2
  clear hN
  subst hv1 hv2
  have H1 := Lib.hid h1
  have H2 := Lib.hid h2
  clear h1 h2
  go_enter Tryz.func18, Tryz.ntmps18
  go_wp2_with fail
  go_loopw [5] (fun i wr => ∃ k : Nat, k ≤ N ∧ i = .int .i64 k ∧ Only [] w wr) (fun i _ => N - (intOf i).toNat)
  case atStart => exact ⟨0, Nat.zero_le _, rfl, Only.refl _ _⟩
  case round =>
    obtain ⟨k, hk, rfl, ho⟩ := hrel
    have HO := Lib.hid ho
    clear ho
    by_cases hlt : k < N
    · obtain ⟨g1, d1, e1, _, _, _⟩ := (H1.out.old HO.out).some_ (by have := HN.out; omega)
      obtain ⟨g2, d2, e2, _, _, _⟩ := (H2.out.old HO.out).some_ (by have := HN.out; omega)
      rw [← HN.out] at e1 e2
      obtain ⟨rfl, rfl⟩ : A1 = some ⟨g1, 0, none⟩ ∧ c1 = d1 := by
        injection e1 with e1 e2 e3
        exact ⟨e1, e3⟩
      obtain ⟨rfl, rfl⟩ : A2 = some ⟨g2, 0, none⟩ ∧ c2 = d2 := by
        injection e2 with e1 e2 e3
        exact ⟨e1, e3⟩
      obtain ⟨f0, f1, f2, f3, f4, f5⟩ := (H1.out.old HO.out).el (l := l) HN.out (k := k) (by rw [← HN.out]; exact hlt)
      obtain ⟨b0, b1, b2, b3, b4, b5⟩ := (H2.out.old HO.out).el (l := l) HN.out (k := k) (by rw [← HN.out]; exact hlt)
      have hq := neqE_ent (nthE l k).k.o (nthE l k).k.u (nthE l k).m (nthE l k).h (nthE l k).k.c ((nthE l k).t : Int)
      clear e1 e2
      generalize nthE l k = x at *
      go_wp2_with fail
      go_quiet (fail)
      clear f0 f1 f2 f3 f4 f5 b0 b1 b2 b3 b4 b5 hq
      go_wp2
      go_roundw
      case rel => exact ⟨k + 1, by omega, by go_num, HO.out.drewN _⟩
      case measure => simp [intOf]; omega
    · go_wp2
      go_ret
      exact ⟨rfl, HO.out⟩
end Go.Proofs.YtlkneapidmdpbaaGreatDoor
