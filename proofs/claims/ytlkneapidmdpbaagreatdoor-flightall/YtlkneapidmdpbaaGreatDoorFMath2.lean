/-
  Plain mathematics of preflights: a preflight may be; what it wants is what its request wants; its headers. No conditions beyond those of each statement.
-/
import Derived.Test.YtlkneapidmdpbaaGreatDoorFMath
namespace Go.Proofs.YtlkneapidmdpbaaGreatDoor

theorem ftight {l : List UInt8} (h : ∀ b ∈ l, Lk.sp b = false) : Lk.Tight l := by
  by_cases hn : l = []
  · exact .inl hn
  · right
    refine ⟨⟨l.head hn, l.tail, (List.cons_head_tail hn).symm, h _ (List.head_mem hn)⟩, ⟨l.getLast hn, l.dropLast, (List.dropLast_concat_getLast hn).symm, h _ (List.getLast_mem hn)⟩⟩
theorem ftrim {l : List UInt8} (h : ∀ b ∈ l, Lk.sp b = false) : Lk.trimL l = l := Lk.trim_of_tight (ftight h)
/-- bytes that a value may have anywhere -/
def vis (b : UInt8) : Prop := 33 ≤ b.toNat
theorem vis_sp {b : UInt8} (h : vis b) : Lk.sp b = false := by
  unfold vis at h
  cases hs : Lk.sp b
  · rfl
  · exfalso; simp [Lk.sp, Lk.spB] at hs; omega
theorem vis_trim {l : List UInt8} (h : ∀ b ∈ l, vis b) : Lk.trimL l = l := ftrim fun b hb => vis_sp (h b hb)
theorem vis_bad {l : List UInt8} (h : ∀ b ∈ l, vis b) : badB l = false := by
  have key : ∀ c : Int, c < 33 → Lk.inL c l = false := by
    intro c hc
    unfold Lk.inL
    rw [List.any_eq_false]
    intro b hb
    have := h b hb
    unfold vis at this
    simp; omega
  unfold badB
  rw [key 0 (by omega), key 10 (by omega), key 13 (by omega)]; rfl
theorem tok_vis {b : UInt8} (h : Lk.tokB b.toNat = true) : vis b := by
  unfold vis
  by_cases h0 : 33 ≤ b.toNat
  · exact h0
  · exfalso
    have key : ∀ n : Fin 33, Lk.tokB (n.val : Int) = false := by decide
    have := key ⟨b.toNat, by omega⟩
    rw [this] at h
    cases h
theorem tokl_vis {l : List UInt8} (h : Lk.tokL l = true) : ∀ b ∈ l, vis b := by
  unfold Lk.tokL at h
  simp only [Bool.and_eq_true, List.all_eq_true] at h
  exact fun b hb => tok_vis (h.1 b hb)
theorem meth_parts {m : List UInt8} (h : Lk.methI m = 0) : Lk.tokL m = true ∧ m.length ≤ 32 ∧ Lk.barsL m = false := by
  unfold Lk.methI at h
  split at h
  · rename_i h1
    unfold Lk.okL at h1
    simp only [Bool.and_eq_true, decide_eq_true_eq, Bool.not_eq_true'] at h1
    exact ⟨h1.1.2, h1.1.1, h1.2⟩
  · simp at h
theorem want_meth {q : Rq} (h : askI q = 0) : (wantQ q).m = Lk.normL q.m ∧ Lk.methI (wantQ q).m = 0 := by
  have e : (wantQ q).m = Lk.normL q.m := by rw [want_0 h]; exact (norm_mode h).2.2.2
  exact ⟨e, by rw [e, Lk.meth_norm]; exact (fields_0 (ask_0 h).2.2.1).1⟩
theorem want_tok {q : Rq} (h : askI q = 0) : Lk.tokL (wantQ q).m = true ∧ (wantQ q).m.length ≤ 32 := by
  have := meth_parts (want_meth h).2
  exact ⟨this.1, this.2.1⟩
/-- the names: tokens, small letters, not too long, not too many -/
theorem names_toks {q : Rq} : (∀ x ∈ namesQ q, Lk.tokL x = true ∧ x.length ≤ 64 ∧ Lk.lower x = x) ∧ (namesQ q).length ≤ 32 := by
  unfold namesQ
  split
  · rename_i h
    have hc := (fields_0 (ask_0 h).2.2.1).2.2.1
    unfold checkH at hc
    split at hc
    · simp at hc
    rename_i h1
    split at hc
    · rename_i h2
      refine ⟨fun x hx => ?_, ?_⟩
      · obtain ⟨g, hg, e⟩ := (names_mem q.hs x).1 (safeNames_lows hx)
        have h3 := List.all_eq_true.1 h2 g hg
        unfold okH nameOk at h3
        simp only [Bool.and_eq_true, decide_eq_true_eq] at h3
        rw [← e]
        exact ⟨by rw [Lk.tokL_lower]; exact h3.1.2, by rw [Lk.lower_len]; exact h3.1.1, Lk.lower_lower _⟩
      · have := safeNames_len q.hs; omega
    · simp at hc
  · simp
theorem com_mem : ∀ {l : List (List UInt8)} {b : UInt8}, b ∈ comL l → b = 44 ∨ ∃ x ∈ l, b ∈ x
  | [], b, h => by simp [comL] at h
  | [x], b, h => .inr ⟨x, by simp, h⟩
  | x :: y :: r, b, h => by
    rw [comL, List.mem_append, List.mem_cons] at h
    rcases h with h | h | h
    · exact .inr ⟨x, by simp, h⟩
    · exact .inl h
    · rcases com_mem (l := y :: r) h with h | ⟨z, hz, hb⟩
      · exact .inl h
      · exact .inr ⟨z, by simp [List.mem_cons.1 hz], hb⟩
theorem coml_vis {q : Rq} : ∀ b ∈ comL (namesQ q), vis b := by
  intro b hb
  rcases com_mem hb with rfl | ⟨x, hx, hb⟩
  · show 33 ≤ _; decide
  · exact tokl_vis (names_toks.1 x hx).1 b hb
theorem coml_len {q : Rq} : (comL (namesQ q)).length ≤ 2080 := by
  have h1 := com_len (namesQ q)
  have h2 := sum_le8 (fun x hx => (names_toks (q := q)).1 x hx |>.2.1)
  have h3 := (names_toks (q := q)).2
  have h4 : 64 * (namesQ q).length ≤ 64 * 32 := Nat.mul_le_mul_left _ h3
  omega
/-- an origin as it is shown -/
theorem dig_vis {l : List UInt8} (h : Lk.digL l = true) : ∀ b ∈ l, vis b := fun b hb => by have := dig_all h b hb; unfold vis; omega
theorem show_vis {sc h : List UInt8} {p : Int} : ∀ b ∈ showL sc h p, vis b := by
  intro b hb
  unfold showL at hb
  split at hb
  · rename_i hc
    obtain ⟨h1, h2, h3, h4⟩ := check_parts hc
    have hs : ∀ b ∈ sc, vis b := by
      rcases def_cases h1 with ⟨rfl, _⟩ | ⟨rfl, _⟩ <;> (intro b hb; simp at hb; rcases hb with rfl | rfl | rfl | rfl | rfl <;> (show 33 ≤ _; decide))
    have hh : ∀ b ∈ h, vis b := by
      intro b hb
      rcases host_bytes h2 b hb with rfl | h5
      · show 33 ≤ _; decide
      · have := hostB_bd h5; unfold vis; omega
    have hx : ∀ b ∈ ([58, 47, 47] : List UInt8), vis b := by intro b hb; simp at hb; rcases hb with rfl | rfl | rfl <;> (show 33 ≤ _; decide)
    have hn : ∀ b ∈ numL p.toNat, vis b := dig_vis (numL_ok (n := p.toNat) (by unfold Lk.M64; omega)).1
    split at hb
    · rw [List.mem_append, List.mem_append] at hb
      rcases hb with (hb | hb) | hb
      · exact hs b hb
      · exact hx b hb
      · exact hh b hb
    · rw [List.mem_append, List.mem_append, List.mem_append, List.mem_append] at hb
      rcases hb with (((hb | hb) | hb) | hb) | hb
      · exact hs b hb
      · exact hx b hb
      · exact hh b hb
      · simp at hb; subst hb; show 33 ≤ _; decide
      · exact hn b hb
  · simp at hb
theorem fwant_o {q : Rq} (h : askI q = 0) : (wantQ q).o = showL (orgO q.o).1 (orgO q.o).2.1 (orgO q.o).2.2 := by rw [want_0 h, norm_is h]
theorem want_o_vis {q : Rq} (h : askI q = 0) : (∀ b ∈ (wantQ q).o, vis b) ∧ (wantQ q).o.length ≤ 270 ∧ (wantQ q).o ≠ [] := by
  rw [fwant_o h]
  refine ⟨show_vis, show_len, ?_⟩
  have hc := (org_ok (ask_0 h).2.1).2
  intro e
  have := parse_show hc
  rw [e] at this
  rw [show parseL [] = none by decide] at this; cases this
theorem val_ok {v : List UInt8} (h : ∀ b ∈ v, vis b) (hl : v.length ≤ 4096) : valOk (Lk.trimL v) = true := by
  rw [vis_trim h]; unfold valOk; rw [vis_bad h, decide_eq_true hl]; rfl
theorem want_nq {q : Rq} (h : askI q = 0) : (wantQ q).n = comL (namesQ q) := by rw [want_0 h]
theorem hdsF_ok {q : Rq} (h : askI q = 0) : checkH (hdsF (wantQ q)) = 0 := by
  have h1 : okH (accL, anyL) = true := by decide
  have n2 : nameOk rmL = true := by decide
  have n3 : nameOk rhL = true := by decide
  have n4 : nameOk orL = true := by decide
  have v2 := val_ok (tokl_vis (want_tok h).1) (by have := (want_tok h).2; omega)
  have v3 : valOk (Lk.trimL (wantQ q).n) = true := by rw [want_nq h]; exact val_ok coml_vis (by have := coml_len (q := q); omega)
  have v4 := val_ok (want_o_vis h).1 (by have := (want_o_vis h).2.1; omega)
  have h2 : okH (rmL, (wantQ q).m) = true := by unfold okH; rw [n2, v2]; rfl
  have h3 : okH (rhL, (wantQ q).n) = true := by unfold okH; rw [n3, v3]; rfl
  have h4 : okH (orL, (wantQ q).o) = true := by unfold okH; rw [n4, v4]; rfl
  unfold checkH
  by_cases h0 : (wantQ q).n = []
  · rw [hdsF_no h0]; simp [h1, h2, h4]
  · rw [hdsF_yes h0]; simp [h1, h2, h3, h4]
theorem pre_ask {q : Rq} (h : needsQ q = true) : askI (preQ q) = 0 := by
  have h0 := needs_ok h
  have hn := (fields_0 (ask_0 h0).2.2.1).2.2.2
  refine ask_of ?_ ?_ ?_ rfl
  · show (tgtL (wantQ q).u).2 = 0
    rw [want_0 h0, norm_u h0]
  · show orgI (wantQ q).o = 0
    rw [want_0 h0]; exact (norm_o h0).1
  · have e1 : Lk.methI (preQ q).m = 0 := by show Lk.methI optL = 0; decide
    have e2 : checkH (preQ q).hs = 0 := hdsF_ok h0
    rw [fields_nums e1 rfl e2]; exact hn
theorem pre_norm {q : Rq} (h : needsQ q = true) : (normQ (preQ q)).o = (normQ q).o ∧ (normQ (preQ q)).u = (normQ q).u := by
  have h0 := needs_ok h
  have hp := pre_ask h
  have e1 : (preQ q).u = (normQ q).u := by show (wantQ q).u = _; rw [want_0 h0]
  have e2 : (preQ q).o = (normQ q).o := by show (wantQ q).o = _; rw [want_0 h0]
  constructor
  · rw [norm_is hp]
    show showL (orgO (preQ q).o).1 _ _ = _
    rw [e2, (norm_o h0).2, norm_is h0]
  · rw [norm_is hp]
    show (tgtL (preQ q).u).1.show_ = _
    rw [e1, norm_u h0, norm_is h0]
theorem pre_want {q : Rq} (h : needsQ q = true) : (wantQ (preQ q)).o = (wantQ q).o ∧ (wantQ (preQ q)).u = (wantQ q).u := by
  rw [want_0 (pre_ask h), want_0 (needs_ok h)]; exact pre_norm h
theorem pre_key {q : Rq} (h : needsQ q = true) : keyQ (preQ q) = keyQ q := key_same (pre_ask h) (needs_ok h) (pre_norm h).2
def rmC : List UInt8 := [65, 99, 99, 101, 115, 115, 45, 67, 111, 110, 116, 114, 111, 108, 45, 82, 101, 113, 117, 101, 115, 116, 45, 77, 101, 116, 104, 111, 100]
theorem pre_get {q : Rq} (h : askI q = 0) : gotH (hdsF (wantQ q)) rmC = true ∧ getH (hdsF (wantQ q)) rmC = (wantQ q).m ∧ gotH (hdsF (wantQ q)) rhL = decide (0 < (namesQ q).length) ∧ getH (hdsF (wantQ q)) rhL = (wantQ q).n := by
  have a1 : Lk.foldL accL rmC = false := by decide
  have a2 : Lk.foldL rmL rmC = true := by decide
  have a3 : Lk.foldL rhL rmC = false := by decide
  have a4 : Lk.foldL orL rmC = false := by decide
  have b1 : Lk.foldL accL rhL = false := by decide
  have b2 : Lk.foldL rmL rhL = false := by decide
  have b3 : Lk.foldL rhL rhL = true := by decide
  have b4 : Lk.foldL orL rhL = false := by decide
  have t2 := vis_trim (tokl_vis (want_tok h).1)
  have t3 : Lk.trimL (wantQ q).n = (wantQ q).n := by rw [want_nq h]; exact vis_trim coml_vis
  by_cases h0 : (wantQ q).n = []
  · have h1 := (want_n h).1 h0
    rw [hdsF_no h0, h1]
    simp only [got_cons, getH, vals_cons, vals_nil, a1, a2, a4, b1, b2, b4, t2]
    simp [gotH, Lk.joinL, h0]
  · have h1 : namesQ q ≠ [] := fun e => h0 ((want_n h).2 e)
    have h2 : 0 < (namesQ q).length := List.length_pos_iff.2 h1
    rw [hdsF_yes h0]
    simp only [got_cons, getH, vals_cons, vals_nil, a1, a2, a3, a4, b1, b2, b3, b4, t2, t3]
    simp [gotH, Lk.joinL, h2]
theorem build_yes {q : Rq} (h : needsQ q = true) : buildQ q = preQ q := by unfold buildQ; rw [if_pos h]
theorem build_no {q : Rq} (h : needsQ q = false) : buildQ q = Rq.zero := by unfold buildQ; rw [h]; rfl
end Go.Proofs.YtlkneapidmdpbaaGreatDoor
