/-
  The program's pool and the document's own beside one another: what holds all through, and the contracts in these words. No conditions beyond those of each statement.
-/
import Derived.Test.YtbnmldfiheffoaaQAwake
import Derived.Test.YtbnmldfiheffoaaQRef4
import Derived.Test.YtbnmldfiheffoaaQRef5
import Derived.Test.YtbnmldfiheffoaaQDeed
namespace Go.Proofs.Ytbnmldfiheffoaa
open Go.RowKit

theorem takeS_last (k : ByteArray) (now : Nat) (s : Pv) : (takeS k now s).last ≤ s.last + 1 := by
  have h := (midP_last k now s).1
  unfold takeS
  split
  · split
    · show (midP k now s).last ≤ _; omega
    · show (midP k now s).last + 1 ≤ _; omega
  · omega
theorem giveS_last (i : Int) (now : Nat) (kb : Bool) (s : Pv) : (giveS i now kb s).last = s.last := by
  unfold giveS; split <;> rfl

/-- the document's own pool at block g, all its blocks those of f; what holds of it at any time -/
def RpF (w : World) (g : Nat) (f : List Nat) (s : Pv) : Prop := ∃ gt vt vb vi, f = footP g gt vt vb vi ∧ RpAt w g gt vt vb vi s ∧ PvOk s
section
variable {w w' : World} {g : Nat} {f : List Nat} {s : Pv}
theorem RpF.lt (h : RpF w g f s) {x : Nat} (hx : x ∈ f) : x < w.heap.size := by
  obtain ⟨gt, vt, vb, vi, rfl, hp, _⟩ := h
  exact hp.lt hx
theorem RpF.ok (h : RpF w g f s) : PvOk s := by obtain ⟨gt, vt, vb, vi, _, _, h⟩ := h; exact h
theorem RpF.only {q : List Nat} (h : RpF w g f s) (o : Only q w w') (hq : ∀ x ∈ f, x ∉ q) : RpF w' g f s := by
  obtain ⟨gt, vt, vb, vi, rfl, hp, hk⟩ := h
  exact ⟨gt, vt, vb, vi, rfl, hp.only o hq, hk⟩
theorem RpF.old (h : RpF w g f s) (o : Only [] w w') : RpF w' g f s := h.only o (by simp)
theorem RpStep.more {gt : Nat} {vt vb vi : Value} {s' : Pv} (h : RpStep w w' g gt vt vb vi s') (hk : PvOk s') : ∃ f', RpF w' g f' s' ∧ Only (footP g gt vt vb vi) w w' ∧ More w.heap.size (footP g gt vt vb vi) f' := by
  obtain ⟨vt', vb', vi', p, o, g1, g2, g3⟩ := h
  refine ⟨_, ⟨gt, vt', vb', vi', rfl, p, hk⟩, o, fun x hx => ?_⟩
  rcases mem_footP.1 hx with h1 | h1 | h1 | h1 | h1
  · exact .inl (mem_footP.2 (by simp [h1]))
  · exact .inl (mem_footP.2 (by simp [h1]))
  · rcases g1 x h1 with h2 | h2; exact .inl (mem_footP.2 (by simp [h2])); exact .inr h2
  · rcases g2 x h1 with h2 | h2; exact .inl (mem_footP.2 (by simp [h2])); exact .inr h2
  · rcases g3 x h1 with h2 | h2; exact .inl (mem_footP.2 (by simp [h2])); exact .inr h2
theorem RpF.busy (h : RpF w g f s) : ∃ A cap, w.cell? ⟨g, 3, none⟩ = some (.slice A s.b.length cap) ∧ s.b.length ≤ cap ∧ cap ≤ maxLen := by
  obtain ⟨gt, vt, vb, vi, rfl, hp, hk⟩ := h
  obtain ⟨A, cap, e, h1, h2⟩ := hp.rb.slice
  exact ⟨A, cap, by rw [hp.hd.c3, e], h1, h2⟩
theorem RpF.self (h : RpF w g f s) : g ∈ f := by obtain ⟨gt, vt, vb, vi, rfl, hp, hk⟩ := h; exact mem_footP.2 (by simp)
theorem hTake_any (k : ByteArray) (now : Nat) (h : RpF w g f s) (hla : s.last ≤ 1000000000) :
    Calls Try.prog 16 #[.pointer (some ⟨g, 0, none⟩), .string k, .int .u64 (now : Int)] w fun e w' =>
      e = .returned (.tuple #[.int .i64 (takeN k now s : Int), .bool (takeF k now s), .int .i64 (takeC k s : Int)]) ∧ ∃ f', RpF w' g f' (takeS k now s) ∧ Only f w w' ∧ More w.heap.size f f' := by
  obtain ⟨gt, vt, vb, vi, rfl, hp, hk⟩ := h
  exact (rTake_any g gt vt vb vi s k now w hp hk hla).mono fun _ _ ⟨e, st⟩ => ⟨e, st.more (hk.take k now)⟩
theorem hGive_any (i : Int) (now : Nat) (kb : Bool) (h : RpF w g f s) (hn : now < 18446744073709551616) :
    Calls Try.prog 18 #[.pointer (some ⟨g, 0, none⟩), .int .i64 i, .int .u64 (now : Int), .bool kb] w fun e w' =>
      e = .returned (.int .i64 (giveC i s : Int)) ∧ ∃ f', RpF w' g f' (giveS i now kb s) ∧ Only f w w' ∧ More w.heap.size f f' := by
  obtain ⟨gt, vt, vb, vi, rfl, hp, hk⟩ := h
  exact (rGive_any g gt vt vb vi s i now kb w hp (by have := hk.len; have := hk.t2; omega) (by have := hk.len; have := hk.t2; omega) (by omega) (by have := hk.keep; omega)).mono fun _ _ ⟨e, st⟩ => ⟨e, st.more (hk.give i now kb)⟩
theorem hExpire_any (now : Nat) (h : RpF w g f s) :
    Calls Try.prog 21 #[.pointer (some ⟨g, 0, none⟩), .int .u64 (now : Int)] w fun e w' =>
      ∃ r, e = .returned r ∧ IRow w' r (shutG (dueB now) s) ∧ NewL w.heap.size r ∧ (∃ f', RpF w' g f' (shutP (dueB now) s) ∧ Only f w w' ∧ More w.heap.size f f') := by
  obtain ⟨gt, vt, vb, vi, rfl, hp, hk⟩ := h
  refine (rExpire_any g gt vt vb vi s now w hp (by have := hk.len; have := hk.t2; omega)).mono ?_
  rintro e w' ⟨r, vi', he, h1, h2, h3, h4, h5⟩
  refine ⟨r, he, h1, h2, ?_⟩
  have hs : RpStep w w' g gt vt vb vi (shutP (dueB now) s) := ⟨vt, vb, vi', h3, h4.mono (by intro x hx; rcases List.mem_cons.1 hx with h6 | h6; exact mem_footP.2 (by simp [h6]); exact mem_footP.2 (by simp [h6])), Grow.refl _ _, Grow.refl _ _, h5⟩
  exact hs.more (hk.shut _)
theorem hUsed2_any (k : ByteArray) (h : RpF w g f s) : Calls Try.prog 26 #[.pointer (some ⟨g, 0, none⟩), .string k] w fun e w' => e = .returned (.int .i64 (usedB s.b k : Int)) ∧ w = w' := by
  obtain ⟨gt, vt, vb, vi, rfl, hp, hk⟩ := h
  exact rUsed_any g gt vt vb vi s k w hp (by have := hk.len; have := hk.t2; omega)
theorem hCan_any (k : ByteArray) (h : RpF w g f s) : Calls Try.prog 14 #[.pointer (some ⟨g, 0, none⟩), .string k] w fun e w' => e = .returned (.bool (canP s k)) ∧ Only [] w w' := by
  obtain ⟨gt, vt, vb, vi, rfl, hp, hk⟩ := h
  exact rCan_any g gt vt vb vi s k w hp (by have := hk.len; have := hk.t2; omega)
theorem hHost_any (i : Int) (h : RpF w g f s) : Calls Try.prog 23 #[.pointer (some ⟨g, 0, none⟩), .int .i64 i] w fun e w' => e = .returned (.tuple #[.string (hostS s i), .bool (hostB s i)]) ∧ Only [] w w' := by
  obtain ⟨gt, vt, vb, vi, rfl, hp, hk⟩ := h
  exact rHost_any g gt vt vb vi s i w hp (by have := hk.len; have := hk.t2; omega) (by have := hk.len; have := hk.t2; omega)
theorem hIdle_any (h : RpF w g f s) : Calls Try.prog 28 #[.pointer (some ⟨g, 0, none⟩)] w fun e w' => ∃ r, e = .returned r ∧ IRow w' r (sortI (connsL s.i)) ∧ NewL w.heap.size r ∧ Only [] w w' := by
  obtain ⟨gt, vt, vb, vi, rfl, hp, hk⟩ := h
  exact rIdle_any g gt vt vb vi s w hp (by have := hk.len; have := hk.t2; omega)
end
theorem hPnew_any (n : Int) (kp : Nat) (w : World) (hk : kp < 18446744073709551616) :
    Calls Try.prog 11 #[.int .i64 n, .int .u64 (kp : Int)] w fun e w' => ∃ g f, e = .returned (.pointer (some ⟨g, 0, none⟩)) ∧ RpF w' g f ⟨clampT n, kp, 0, [], [], []⟩ ∧ Only [] w w' ∧ ∀ x ∈ f, w.heap.size ≤ x := by
  refine (rNew_any n kp w).mono ?_
  rintro e w' ⟨g, gt, rfl, hp, ho, h1, h2⟩
  have hb := clampT_bd n
  refine ⟨g, _, rfl, ⟨gt, _, _, _, rfl, hp, PvOk.new hb.1 hb.2 hk⟩, ho, fun x hx => ?_⟩
  rcases mem_footP.1 hx with h | h | h | h | h
  · omega
  · omega
  · simp [ownL, Value.ownBlock] at h
  · simp [ownL, Value.ownBlock] at h
  · simp [ownL, Value.ownBlock] at h

/-- two pools with no block in common, all of them new -/
structure PairQ (w W : World) (g gm : Nat) (f fm : List Nat) (s sm : Pv) : Prop where
  p : PoNew w W g f s
  m : RpF W gm fm sm
  n : ∀ x ∈ fm, w.heap.size ≤ x
  d : ∀ x ∈ f, x ∉ fm
/-- the cells of a call that was read -/
structure DeCall (W : World) (b : Nat) (x : Dd) (t : Nat) : Prop where
  c0 : W.cell? ⟨b, 0, none⟩ = some (.int .i64 x.op)
  c1 : W.cell? ⟨b, 1, none⟩ = some (.int .i64 x.n)
  c2 : W.cell? ⟨b, 2, none⟩ = some (.string x.key)
  c3 : W.cell? ⟨b, 3, none⟩ = some (.int .u64 (t : Int))
  c4 : W.cell? ⟨b, 4, none⟩ = some (.bool x.keep)
theorem DeCall.lt {W : World} {b t : Nat} {x : Dd} (h : DeCall W b x t) : b < W.heap.size := block_of_cell (a := ⟨b, 0, none⟩) h.c0
theorem DeCall.only {q : List Nat} {W W' : World} {b t : Nat} {x : Dd} (h : DeCall W b x t) (o : Only q W W') (hn : b ∉ q) : DeCall W' b x t :=
  ⟨(o.cell (p := ⟨b, 0, none⟩) h.lt hn).trans h.c0, (o.cell (p := ⟨b, 1, none⟩) h.lt hn).trans h.c1, (o.cell (p := ⟨b, 2, none⟩) h.lt hn).trans h.c2, (o.cell (p := ⟨b, 3, none⟩) h.lt hn).trans h.c3, (o.cell (p := ⟨b, 4, none⟩) h.lt hn).trans h.c4⟩
/-- two pools, and a call that was read beside them -/
structure PlayQ (w W : World) (g gm : Nat) (f fm : List Nat) (b : Nat) (x : Dd) (t : Nat) (s sm : Pv) : Prop where
  p : PairQ w W g gm f fm s sm
  c : DeCall W b x t
  n0 : b ∉ f
  n1 : b ∉ fm
section
variable {w W W' : World} {g gm b t : Nat} {f fm f' : List Nat} {x : Dd} {s sm s' : Pv}
theorem PairQ.stepP (h : PairQ w W g gm f fm s sm) (p : PoNew w W' g f' s') (o : Only f W W') (m : More W.heap.size f f') : PairQ w W' g gm f' fm s' sm :=
  ⟨p, h.m.only o (fun x hx hm => h.d x hm hx), h.n, fun x hx hm => by rcases m x hx with h1 | h1; exact h.d x h1 hm; exact absurd (h.m.lt hm) (Nat.not_lt.2 h1)⟩
theorem PairQ.stepM (h : PairQ w W g gm f fm s sm) (p : RpF W' gm f' s') (o : Only fm W W') (m : More W.heap.size fm f') : PairQ w W' g gm f f' s s' :=
  ⟨h.p.off o (fun x hx => ⟨h.n x hx, fun hm => h.d x hm hx⟩), p, fun x hx => by rcases m x hx with h1 | h1; exact h.n x h1; exact Nat.le_trans h.p.b.size h1,
    fun x hx hm => by rcases m x hm with h1 | h1; exact h.d x hx h1; exact absurd (h.p.p.lt hx) (Nat.not_lt.2 h1)⟩
theorem PairQ.old (h : PairQ w W g gm f fm s sm) (o : Only [] W W') : PairQ w W' g gm f fm s sm := ⟨h.p.old o, h.m.old o, h.n, h.d⟩
theorem PlayQ.stepP (h : PlayQ w W g gm f fm b x t s sm) (p : PoNew w W' g f' s') (o : Only f W W') (m : More W.heap.size f f') : PlayQ w W' g gm f' fm b x t s' sm :=
  ⟨h.p.stepP p o m, h.c.only o h.n0, fun hm => by rcases m _ hm with h1 | h1; exact h.n0 h1; exact absurd h.c.lt (Nat.not_lt.2 h1), h.n1⟩
theorem PlayQ.stepM (h : PlayQ w W g gm f fm b x t s sm) (p : RpF W' gm f' s') (o : Only fm W W') (m : More W.heap.size fm f') : PlayQ w W' g gm f f' b x t s s' :=
  ⟨h.p.stepM p o m, h.c.only o h.n1, h.n0, fun hm => by rcases m _ hm with h1 | h1; exact h.n1 h1; exact absurd h.c.lt (Nat.not_lt.2 h1)⟩
theorem PlayQ.old (h : PlayQ w W g gm f fm b x t s sm) (o : Only [] W W') : PlayQ w W' g gm f fm b x t s sm := ⟨h.p.old o, h.c.only o (by simp), h.n0, h.n1⟩
theorem yTake_any (k : ByteArray) (now : Nat) (h : PlayQ w W g gm f fm b x t s sm) (hla : s.last ≤ 1000000000) :
    Calls Try.prog 15 #[.pointer (some ⟨g, 0, none⟩), .string k, .int .u64 (now : Int)] W fun e W' =>
      e = .returned (.tuple #[.int .i64 (takeN k now s : Int), .bool (takeF k now s), .int .i64 (takeC k s : Int)]) ∧ ∃ f', PlayQ w W' g gm f' fm b x t (takeS k now s) sm :=
  (nTake_any k now h.p.p hla).mono fun _ _ ⟨e, f', p, o, m⟩ => ⟨e, f', h.stepP p o m⟩
theorem zTake_any (k : ByteArray) (now : Nat) (h : PlayQ w W g gm f fm b x t s sm) (hla : sm.last ≤ 1000000000) :
    Calls Try.prog 16 #[.pointer (some ⟨gm, 0, none⟩), .string k, .int .u64 (now : Int)] W fun e W' =>
      e = .returned (.tuple #[.int .i64 (takeN k now sm : Int), .bool (takeF k now sm), .int .i64 (takeC k sm : Int)]) ∧ ∃ f', PlayQ w W' g gm f f' b x t s (takeS k now sm) :=
  (hTake_any k now h.p.m hla).mono fun _ _ ⟨e, f', p, o, m⟩ => ⟨e, f', h.stepM p o m⟩
theorem yGive_any (i : Int) (now : Nat) (kb : Bool) (h : PlayQ w W g gm f fm b x t s sm) (hn : now < 18446744073709551616) :
    Calls Try.prog 17 #[.pointer (some ⟨g, 0, none⟩), .int .i64 i, .int .u64 (now : Int), .bool kb] W fun e W' =>
      e = .returned (.int .i64 (giveC i s : Int)) ∧ ∃ f', PlayQ w W' g gm f' fm b x t (giveS i now kb s) sm :=
  (nGive_any i now kb h.p.p hn).mono fun _ _ ⟨e, f', p, o, m⟩ => ⟨e, f', h.stepP p o m⟩
theorem zGive_any (i : Int) (now : Nat) (kb : Bool) (h : PlayQ w W g gm f fm b x t s sm) (hn : now < 18446744073709551616) :
    Calls Try.prog 18 #[.pointer (some ⟨gm, 0, none⟩), .int .i64 i, .int .u64 (now : Int), .bool kb] W fun e W' =>
      e = .returned (.int .i64 (giveC i sm : Int)) ∧ ∃ f', PlayQ w W' g gm f f' b x t s (giveS i now kb sm) :=
  (hGive_any i now kb h.p.m hn).mono fun _ _ ⟨e, f', p, o, m⟩ => ⟨e, f', h.stepM p o m⟩
theorem yExpire_any (now : Nat) (h : PlayQ w W g gm f fm b x t s sm) :
    Calls Try.prog 20 #[.pointer (some ⟨g, 0, none⟩), .int .u64 (now : Int)] W fun e W' =>
      ∃ r f', e = .returned r ∧ IRow W' r (shutG (dueB now) s) ∧ (∀ y ∈ ownL r, y ∉ fm) ∧ PlayQ w W' g gm f' fm b x t (shutP (dueB now) s) sm :=
  (nExpire_any now h.p.p).mono fun _ _ ⟨r, f', e, h1, h2, p, o, m⟩ => ⟨r, f', e, h1, fun y hy hm => absurd (h.p.m.lt hm) (Nat.not_lt.2 (h2 y hy)), h.stepP p o m⟩
theorem zExpire_any (now : Nat) (h : PlayQ w W g gm f fm b x t s sm) :
    Calls Try.prog 21 #[.pointer (some ⟨gm, 0, none⟩), .int .u64 (now : Int)] W fun e W' =>
      ∃ r f', e = .returned r ∧ IRow W' r (shutG (dueB now) sm) ∧ Only fm W W' ∧ PlayQ w W' g gm f f' b x t s (shutP (dueB now) sm) :=
  (hExpire_any now h.p.m).mono fun _ _ ⟨r, e, h1, _, f', p, o, m⟩ => ⟨r, f', e, h1, o, h.stepM p o m⟩
end
end Go.Proofs.Ytbnmldfiheffoaa
