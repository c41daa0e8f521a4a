/-
  The contract of Pool.Take over this seat's program; a pool in the words of what holds all through: all its blocks as one list. Conditions: those of each statement.
-/
import Derived.Test.YtbnmldfiheffoaaQGive
import Derived.Test.YtbnmldfiheffoaaQMath2
namespace Go.Proofs.Ytbnmldfiheffoaa
open Go.RowKit

set_option maxHeartbeats 2000000 in
theorem pTake_any (g gt : Nat) (vt vb vi : Value) (s : Pv) (k : ByteArray) (now : Nat) (w : World) (h : PoAt w g gt vt vb vi s) (ok : PvOk s) (hla : s.last ≤ 1000000000) :
    Calls Try.prog 15 #[.pointer (some ⟨g, 0, none⟩), .string k, .int .u64 (now : Int)] w fun e w' =>
      e = .returned (.tuple #[.int .i64 (takeN k now s : Int), .bool (takeF k now s), .int .i64 (takeC k s : Int)]) ∧ PoStep w w' g gt vt vb vi (takeS k now s) := by
  have HP := Lib.hid h
  have HK := Lib.hid ok
  have hsz : s.b.length ≤ 32 ∧ s.i.length ≤ 32 := by have := ok.len; have := ok.t2; omega
  have HSZ := Lib.hid hsz
  have HLA := Lib.hid hla
  clear h ok hla hsz
  by_cases hc : canP s k = true
  · have HC := Lib.hid hc
    have HM : Hid (MidOk k (midP k now s)) := (HK.out.shut (dueB now)).use hc
    have HMQ : Hid (useQ k (shutP (dueB now) s) = midP k now s) := useQ_eq (HK.out.shut (dueB now)) hc
    have HS : Hid (takeC k s = 0 ∧ takeS k now s = (match lastO (ckeyB k) (midP k now s).i with | some j => againP j (midP k now s) | none => openP k (midP k now s)) ∧
        takeN k now s = (match lastO (ckeyB k) (midP k now s).i with | some j => (nthC (midP k now s).i j).n | none => s.last + 1) ∧ takeF k now s = (match lastO (ckeyB k) (midP k now s).i with | some _ => false | none => true)) := by
      show _ ∧ _ ∧ _ ∧ _
      unfold takeC takeS takeN takeF
      rw [if_pos hc, if_pos hc, if_pos hc, if_pos hc]
      exact ⟨rfl, rfl, rfl, rfl⟩
    have HML := Lib.hid (midP_last k now s)
    have HMS : Hid ((midP k now s).b.length ≤ 32 ∧ (midP k now s).i.length ≤ 32) := by show _ ∧ _; have := HM.out.len; have := HM.out.t2; omega
    obtain ⟨m, hm⟩ : ∃ m, m = midP k now s := ⟨_, rfl⟩
    rw [← hm] at HM HMQ HS HML HMS
    clear hm hc
    rw [HS.out.1]
    obtain ⟨N, hN⟩ : ∃ N, N = takeN k now s := ⟨_, rfl⟩
    obtain ⟨Fb, hFb⟩ : ∃ Fb, Fb = takeF k now s := ⟨_, rfl⟩
    obtain ⟨S2, hS2⟩ : ∃ S2, S2 = takeS k now s := ⟨_, rfl⟩
    rw [← hN, ← hFb, ← hS2] at HS ⊢
    clear hN hFb hS2
    have hsi : (shutP (dueB now) s).i.length ≤ 100 := by have := List.length_filter_le (fun c => !dueB now c) s.i; have := HSZ.out; show (s.i.filter _).length ≤ 100; omega
    have HSI := Lib.hid hsi
    clear hsi
    go_enter Try.func15, Try.ntmps15
    go_wp2_with fail
    refine (pCan_any g gt vt vb vi s k w HP.out (HK.out.used k)).mono ?_
    rintro e w1 ⟨rfl, ho⟩
    rw [HC.out]
    have HO1 := Lib.hid ho
    have HP1 := Lib.hid (HP.out.old ho)
    clear ho
    go_wp2_with fail
    refine (pExpire_any g gt vt vb vi s now w1 HP1.out (by have := HSZ.out; omega)).mono ?_
    rintro e w2 ⟨r, vi2, rfl, _, _, hp2, ho2, hg2⟩
    have HP2 := Lib.hid hp2
    have HO2 : Hid (Only (footP g gt vt vb vi) w w2) := (HO1.out.mono (by simp)).trans (ho2.mono (by intro x hx; rcases List.mem_cons.1 hx with h1 | h1; exact mem_footP.2 (by simp [h1]); exact mem_footP.2 (by simp [h1])))
    have HG2 : Hid (Grow w.heap.size vi vi2) := (Grow.refl _ _).trans hg2 HO1.out.size
    clear hp2 ho2 hg2
    go_wp2_with fail
    refine (pUse_any g gt vt vb vi2 _ k w2 HP2.out HSI.out).mono ?_
    rintro e w3 ⟨rfl, hst⟩
    rw [HMQ.out] at hst
    have hst' := PoStep.next HO2.out (Grow.refl _ _) (Grow.refl _ _) HG2.out hst
    obtain ⟨vt3, vb3, vi3, hp3, ho3, g1, g2, g3⟩ := hst'
    have HP3 := Lib.hid hp3
    have HO3 := Lib.hid ho3
    have G1 := Lib.hid g1
    have G2 := Lib.hid g2
    have G3 := Lib.hid g3
    clear hst hp3 ho3 g1 g2 g3
    go_wp2_with fail
    refine (pAgain_any g gt vt3 vb3 vi3 m k w3 HP3.out (by have := HMS.out; omega) (by have := HMS.out; omega)).mono ?_
    rintro e w4 (⟨j, hj, rfl, hst⟩ | ⟨hj, rfl, hst⟩)
    · have HST := Lib.hid (PoStep.next HO3.out G1.out G2.out G3.out hst)
      have HE : Hid (S2 = againP j m ∧ N = (nthC m.i j).n ∧ Fb = false) := by show _ ∧ _ ∧ _; obtain ⟨_, h1, h2, h3⟩ := HS.out; rw [hj] at h1 h2 h3; exact ⟨h1, h2, h3⟩
      clear hst hj
      go_wp2
      go_ret3
      exact ⟨by rw [HE.out.2.1, HE.out.2.2]; rfl, by rw [HE.out.1]; exact HST.out⟩
    · have hst' := PoStep.next HO3.out G1.out G2.out G3.out hst
      obtain ⟨vt4, vb4, vi4, hp4, ho4, g4, g5, g6⟩ := hst'
      have HE : Hid (S2 = openP k m ∧ N = s.last + 1 ∧ Fb = true) := by show _ ∧ _ ∧ _; obtain ⟨_, h1, h2, h3⟩ := HS.out; rw [hj] at h1 h2 h3; exact ⟨h1, h2, h3⟩
      have HP4 := Lib.hid hp4
      have HO4 := Lib.hid ho4
      have G4 := Lib.hid g4
      have G5 := Lib.hid g5
      have G6 := Lib.hid g6
      clear hst hp4 ho4 g4 g5 g6 hj
      go_wp2_with fail
      refine (pOpen_any g gt vt4 vb4 vi4 m k w4 HP4.out (by have := HMS.out; omega) (by have := HMS.out; omega) (by have := HM.out.lt; omega) (by rw [HML.out.1]; exact HLA.out)).mono ?_
      rintro e w5 ⟨rfl, hst⟩
      have HST := Lib.hid (PoStep.next HO4.out G4.out G5.out G6.out hst)
      clear hst
      rw [HML.out.1]
      go_wp2
      go_ret3
      exact ⟨by rw [HE.out.2.1, HE.out.2.2]; rfl, by rw [HE.out.1]; exact HST.out⟩
  · have hc' : canP s k = false := by simpa using hc
    have HC := Lib.hid hc'
    have HS : Hid (takeC k s = 10 ∧ takeS k now s = s ∧ takeN k now s = 0 ∧ takeF k now s = false) := by
      show _ ∧ _ ∧ _ ∧ _
      unfold takeC takeS takeN takeF
      rw [if_neg hc, if_neg hc, if_neg hc, if_neg hc]
      exact ⟨rfl, rfl, rfl, rfl⟩
    clear hc hc'
    rw [HS.out.1, HS.out.2.1, HS.out.2.2.1, HS.out.2.2.2]
    go_enter Try.func15, Try.ntmps15
    go_wp2_with fail
    refine (pCan_any g gt vt vb vi s k w HP.out (HK.out.used k)).mono ?_
    rintro e w1 ⟨rfl, ho⟩
    rw [HC.out]
    have HO1 := Lib.hid ho
    have HP1 := Lib.hid (HP.out.old ho)
    clear ho
    go_wp2
    go_ret3
    exact ⟨rfl, vt, vb, vi, HP1.out, HO1.out.mono (by simp), Grow.refl _ _, Grow.refl _ _, Grow.refl _ _⟩

/-- a pool at block g, all its blocks those of f; what holds of it at any time -/
def PoF (w : World) (g : Nat) (f : List Nat) (s : Pv) : Prop := ∃ gt vt vb vi, f = footP g gt vt vb vi ∧ PoAt w g gt vt vb vi s ∧ PvOk s
/-- blocks anew: those of f, or new ones -/
def More (n : Nat) (f f' : List Nat) : Prop := ∀ x ∈ f', x ∈ f ∨ n ≤ x
section
variable {w w' : World} {g : Nat} {f : List Nat} {s : Pv}
theorem PoF.lt (h : PoF w g f s) {x : Nat} (hx : x ∈ f) : x < w.heap.size := by
  obtain ⟨gt, vt, vb, vi, rfl, hp, _⟩ := h
  exact hp.lt hx
theorem PoF.ok (h : PoF w g f s) : PvOk s := by obtain ⟨gt, vt, vb, vi, _, _, h⟩ := h; exact h
theorem PoF.only {q : List Nat} (h : PoF w g f s) (o : Only q w w') (hq : ∀ x ∈ f, x ∉ q) : PoF w' g f s := by
  obtain ⟨gt, vt, vb, vi, rfl, hp, hk⟩ := h
  exact ⟨gt, vt, vb, vi, rfl, hp.only o hq, hk⟩
theorem PoF.old (h : PoF w g f s) (o : Only [] w w') : PoF w' g f s := h.only o (by simp)
theorem PoStep.more {gt : Nat} {vt vb vi : Value} {s' : Pv} (h : PoStep w w' g gt vt vb vi s') (hk : PvOk s') : ∃ f', PoF w' g f' s' ∧ Only (footP g gt vt vb vi) w w' ∧ More w.heap.size (footP g gt vt vb vi) f' := by
  obtain ⟨vt', vb', vi', p, o, g1, g2, g3⟩ := h
  refine ⟨_, ⟨gt, vt', vb', vi', rfl, p, hk⟩, o, fun x hx => ?_⟩
  rcases mem_footP.1 hx with h1 | h1 | h1 | h1 | h1
  · exact .inl (mem_footP.2 (by simp [h1]))
  · exact .inl (mem_footP.2 (by simp [h1]))
  · rcases g1 x h1 with h2 | h2; exact .inl (mem_footP.2 (by simp [h2])); exact .inr h2
  · rcases g2 x h1 with h2 | h2; exact .inl (mem_footP.2 (by simp [h2])); exact .inr h2
  · rcases g3 x h1 with h2 | h2; exact .inl (mem_footP.2 (by simp [h2])); exact .inr h2
theorem fTake_any (k : ByteArray) (now : Nat) (h : PoF w g f s) (hla : s.last ≤ 1000000000) :
    Calls Try.prog 15 #[.pointer (some ⟨g, 0, none⟩), .string k, .int .u64 (now : Int)] w fun e w' =>
      e = .returned (.tuple #[.int .i64 (takeN k now s : Int), .bool (takeF k now s), .int .i64 (takeC k s : Int)]) ∧ ∃ f', PoF w' g f' (takeS k now s) ∧ Only f w w' ∧ More w.heap.size f f' := by
  obtain ⟨gt, vt, vb, vi, rfl, hp, hk⟩ := h
  exact (pTake_any g gt vt vb vi s k now w hp hk hla).mono fun _ _ ⟨e, st⟩ => ⟨e, st.more (hk.take k now)⟩
theorem fGive_any (i : Int) (now : Nat) (kb : Bool) (h : PoF w g f s) (hn : now < 18446744073709551616) :
    Calls Try.prog 17 #[.pointer (some ⟨g, 0, none⟩), .int .i64 i, .int .u64 (now : Int), .bool kb] w fun e w' =>
      e = .returned (.int .i64 (giveC i s : Int)) ∧ ∃ f', PoF w' g f' (giveS i now kb s) ∧ Only f w w' ∧ More w.heap.size f f' := by
  obtain ⟨gt, vt, vb, vi, rfl, hp, hk⟩ := h
  exact (pGive_any g gt vt vb vi s i now kb w hp (by have := hk.len; have := hk.t2; omega) (by omega) (by have := hk.keep; omega)).mono fun _ _ ⟨e, st⟩ => ⟨e, st.more (hk.give i now kb)⟩
theorem fExpire_any (now : Nat) (h : PoF w g f s) :
    Calls Try.prog 20 #[.pointer (some ⟨g, 0, none⟩), .int .u64 (now : Int)] w fun e w' =>
      ∃ r, e = .returned r ∧ IRow w' r (shutG (dueB now) s) ∧ NewL w.heap.size r ∧ (∃ f', PoF w' g f' (shutP (dueB now) s) ∧ Only f w w' ∧ More w.heap.size f f') := by
  obtain ⟨gt, vt, vb, vi, rfl, hp, hk⟩ := h
  refine (pExpire_any g gt vt vb vi s now w hp (by have := hk.len; have := hk.t2; omega)).mono ?_
  rintro e w' ⟨r, vi', he, h1, h2, h3, h4, h5⟩
  refine ⟨r, he, h1, h2, ?_⟩
  have hs : PoStep w w' g gt vt vb vi (shutP (dueB now) s) := ⟨vt, vb, vi', h3, h4.mono (by intro x hx; rcases List.mem_cons.1 hx with h6 | h6; exact mem_footP.2 (by simp [h6]); exact mem_footP.2 (by simp [h6])), Grow.refl _ _, Grow.refl _ _, h5⟩
  exact hs.more (hk.shut _)
theorem fBusy_any (h : PoF w g f s) : Calls Try.prog 24 #[.pointer (some ⟨g, 0, none⟩)] w fun e w' => e = .returned (.int .i64 (s.b.length : Int)) ∧ w = w' := by
  obtain ⟨gt, vt, vb, vi, rfl, hp, hk⟩ := h
  exact pBusy_any g gt vt vb vi s w hp
theorem fUsed_any (k : ByteArray) (h : PoF w g f s) : Calls Try.prog 25 #[.pointer (some ⟨g, 0, none⟩), .string k] w fun e w' => e = .returned (.int .i64 (usedB s.b k : Int)) ∧ Only [] w w' := by
  obtain ⟨gt, vt, vb, vi, rfl, hp, hk⟩ := h
  have h1 := pUsed_any g gt vt vb vi s k w hp
  rw [hk.used k] at h1
  exact h1
theorem fCan_any (k : ByteArray) (h : PoF w g f s) : Calls Try.prog 13 #[.pointer (some ⟨g, 0, none⟩), .string k] w fun e w' => e = .returned (.bool (canP s k)) ∧ Only [] w w' := by
  obtain ⟨gt, vt, vb, vi, rfl, hp, hk⟩ := h
  exact pCan_any g gt vt vb vi s k w hp (hk.used k)
theorem fHost_any (i : Int) (h : PoF w g f s) : Calls Try.prog 22 #[.pointer (some ⟨g, 0, none⟩), .int .i64 i] w fun e w' => e = .returned (.tuple #[.string (hostS s i), .bool (hostB s i)]) ∧ Only [] w w' := by
  obtain ⟨gt, vt, vb, vi, rfl, hp, hk⟩ := h
  exact pHost_any g gt vt vb vi s i w hp
theorem fIdle_any (h : PoF w g f s) : Calls Try.prog 27 #[.pointer (some ⟨g, 0, none⟩)] w fun e w' => ∃ r, e = .returned r ∧ IRow w' r (sortI (connsL s.i)) ∧ NewL w.heap.size r ∧ Only [] w w' := by
  obtain ⟨gt, vt, vb, vi, rfl, hp, hk⟩ := h
  exact pIdle_any g gt vt vb vi s w hp (by have := hk.len; have := hk.t2; omega)
end
theorem fNew_any (n : Int) (kp : Nat) (w : World) (hk : kp < 18446744073709551616) :
    Calls Try.prog 10 #[.int .i64 n, .int .u64 (kp : Int)] w fun e w' => ∃ g f, e = .returned (.pointer (some ⟨g, 0, none⟩)) ∧ PoF w' g f ⟨clampT n, kp, 0, [], [], []⟩ ∧ Only [] w w' ∧ ∀ x ∈ f, w.heap.size ≤ x := by
  refine (pNew_any n kp w).mono ?_
  rintro e w' ⟨g, gt, rfl, hp, ho, h1, h2⟩
  have hb := clampT_bd n
  refine ⟨g, _, rfl, ⟨gt, _, _, _, rfl, hp, PvOk.new hb.1 hb.2 hk⟩, ho, fun x hx => ?_⟩
  rcases mem_footP.1 hx with h | h | h | h | h
  · omega
  · omega
  · simp [ownL, Value.ownBlock] at h
  · simp [ownL, Value.ownBlock] at h
  · simp [ownL, Value.ownBlock] at h
end Go.Proofs.Ytbnmldfiheffoaa
