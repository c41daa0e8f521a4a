/-
  The walk of the law TargetOrigins: whatever the texts, it returns true, and nothing that was there has turned. Conditions: each text has at most 2^47 bytes, as any that comes in; the library's variables are as they are laid.
-/
import Derived.Test.YtfamllkmmiajoaaDoorHWords
import Derived.Test.YtfamllkmmiajoaaDoorGRef2
namespace Go.Proofs.YtfamllkmmiajoaaDoor
open Go.RowKit

theorem inL_no {c : UInt8} {l : List UInt8} (h : Lk.inL (c.toNat : Int) l = false) : ∀ x ∈ l, x ≠ c := by
  intro x hx e
  subst e
  unfold Lk.inL at h
  rw [List.any_eq_false] at h
  exact h x hx (by simp)
theorem slash_mk (s t : ByteArray) : s ++ ByteArray.mk #[47] ++ t = mk (s.data.toList ++ 47 :: t.data.toList) := by
  show s ++ mk [47] ++ t = _
  conv => lhs; rw [← mk_eq s, ← mk_eq t]
  rw [mk_append, mk_append, List.append_assoc]; rfl
theorem parseV_none {l : List UInt8} (hl : l.length ≤ 512) (h : parseL l = none) : parseV l = .tuple #[.agg #[.string ⟨#[]⟩, .string ⟨#[]⟩, .int .i64 0], .int .i64 3] := by
  rw [parseV, if_neg (by omega), h]; rfl
theorem parseV_some {l sc h : List UInt8} {n : Int} (hl : l.length ≤ 512) (e : parseL l = some (sc, h, n)) : parseV l = .tuple #[.agg #[.string (mk sc), .string (mk h), .int .i64 n], .int .i64 0] := by
  rw [parseV, if_neg (by omega), e]; rfl
theorem tgtV_some {l sc h pa q : List UInt8} {n : Int} (e : tgtL l = (⟨sc, h, n, pa, q⟩, 0)) : tgtV l = .tuple #[.agg #[.string (mk sc), .string (mk h), .int .i64 n, .string (mk pa), .string (mk q)], .int .i64 0] := by
  rw [tgtV, e]; rfl

set_option maxHeartbeats 4000000 in
theorem walk_TargetOrigins (s p : ByteArray) (w : World) (hs : s.size ≤ 140737488355328) (hp : p.size ≤ 140737488355328) (he : Env w) :
    Calls Tryd.prog 10 #[.string s, .string p] w fun e w' => e = .returned (.bool true) ∧ Below w.heap.size w w' := by
  have HE := Lib.hid he
  clear he
  have hsm : s.size ≤ maxLen := by unfold maxLen; omega
  have hpm : p.size ≤ maxLen := by unfold maxLen; omega
  obtain ⟨k, hk⟩ : ∃ k, k = behindV s.data.toList := ⟨_, rfl⟩
  have HK : Hid (Calls Tryd.prog 23 #[.string s] w fun e w' => e = .returned (.int .i64 k) ∧ w = w') := by rw [hk]; exact refBehind_any s w hs
  cases hl : Lk.longL 500 [s.size, p.size]
  rotate_left
  · have HL : Hid (Lk.longL (500 : Int).toNat ([s, p].map ByteArray.size) = true) := hl
    clear hl hk
    go_enter Tryd.func10, Tryd.ntmps10
    go_wp2_with fail
    refine HK.out.mono ?_
    rintro e w' ⟨rfl, rfl⟩
    go_wp2_with fail
    refine (Long_any _ _ _ _ [s, p] _ _ (by decide) (by decide) rfl (SRow.two_at _ _ _ _ _ rfl) (by simp [maxLen]) (by simpa using ⟨hsm, hpm⟩)).mono ?_
    rintro e w1 ⟨rfl, hw⟩
    rw [HL.out]
    have HB1 : Hid (Below w.heap.size w w1) := by rw [← hw]; exact (Below.refl _ _).alloc (Nat.le_refl _) _
    clear hw
    go_wp2_with fail
    refine (awake_from HE.out HB1.out).mono ?_
    rintro e w2 ⟨rfl, hb⟩
    go_wp2
    go_ret
    exact ⟨rfl, hb⟩
  have hsum := Lk.long_no _ _ hl
  simp at hsum
  have HL : Hid (Lk.longL (500 : Int).toNat ([s, p].map ByteArray.size) = false) := hl
  clear hl
  have hsl : s.data.toList.length = s.size := by simp
  have hpl : p.data.toList.length = p.size := by simp
  cases hsk : seek s.data.toList with
  | none =>
    have hk0 : k < 0 := by rw [hk, behindV, hsk]; decide
    clear hk hsk hsl hpl
    go_enter Tryd.func10, Tryd.ntmps10
    go_wp2_with fail
    refine HK.out.mono ?_
    rintro e w' ⟨rfl, rfl⟩
    go_wp2_with fail
    refine (Long_any _ _ _ _ [s, p] _ _ (by decide) (by decide) rfl (SRow.two_at _ _ _ _ _ rfl) (by simp [maxLen]) (by simpa using ⟨hsm, hpm⟩)).mono ?_
    rintro e w1 ⟨rfl, hw⟩
    rw [HL.out]
    have HB1 : Hid (Below w.heap.size w w1) := by rw [← hw]; exact (Below.refl _ _).alloc (Nat.le_refl _) _
    clear hw
    go_wp2_with fail
    refine (awake_from HE.out HB1.out).mono ?_
    rintro e w2 ⟨rfl, hb⟩
    go_wp2
    go_ret
    exact ⟨rfl, hb⟩
  | some qq =>
    obtain ⟨a, b⟩ := qq
    have hka : k = (a.length : Int) := by rw [hk, behindV, hsk]
    subst hka
    have es := seek_eq _ _ _ hsk
    have hlen : s.size = a.length + 3 + b.length := by have := congrArg List.length es; simp at this; omega
    have eb : s.extract (a.length + 3) s.size = mk b := by rw [Lib.extract_eq, es]; simp [mk, hlen]
    obtain ⟨t, ht⟩ : ∃ t, t = mk b := ⟨_, rfl⟩
    have htl : t.data.toList = b := by rw [ht, mk_data]
    have htz : t.size ≤ maxLen := by rw [ht, mk_size]; unfold maxLen; omega
    rw [← ht] at eb
    have hle3 : a.length + 3 ≤ s.size := by omega
    have hw3 : IntKind.i64.wrap ((a.length : Int) + 3) = (a.length : Int) + 3 := IntWalk.i64_in _ (by omega)
    have HMAIN : Hid (Lk.inL 35 s.data.toList = false → Lk.inL 47 t.data.toList = false → Lk.inL 63 s.data.toList = false →
        (parseL s.data.toList = none ∧ tgtL (s.data.toList ++ 47 :: p.data.toList) = (Url.zero, 3)) ∨
        ∃ sc h n, parseL s.data.toList = some (sc, h, n) ∧ (tgtL (s.data.toList ++ 47 :: p.data.toList) = (Url.zero, 3) ∨ ∃ pa q, tgtL (s.data.toList ++ 47 :: p.data.toList) = (⟨sc, h, n, pa, q⟩, 0))) := by
      intro h1 h2 h3
      exact tgt_origin hsk (by omega) (inL_no h1) (by rw [← htl]; exact inL_no h2) (inL_no h3)
    clear hk hsk es hlen ht htl
    go_enter Tryd.func10, Tryd.ntmps10
    go_wp2_with fail
    refine HK.out.mono ?_
    rintro e w' ⟨rfl, rfl⟩
    go_wp2_with fail
    refine (Long_any _ _ _ _ [s, p] _ _ (by decide) (by decide) rfl (SRow.two_at _ _ _ _ _ rfl) (by simp [maxLen]) (by simpa using ⟨hsm, hpm⟩)).mono ?_
    rintro e w1 ⟨rfl, hw⟩
    rw [HL.out]
    have HB1 : Hid (Below w.heap.size w w1) := by rw [← hw]; exact (Below.refl _ _).alloc (Nat.le_refl _) _
    clear hw
    go_wp2_with fail
    refine (In_any 35 s _ hsm).mono ?_
    rintro e w' ⟨rfl, rfl⟩
    cases h35 : Lk.inL 35 s.data.toList
    rotate_left
    · go_wp2_with fail
      refine (awake_from HE.out HB1.out).mono ?_
      rintro e w2 ⟨rfl, hb⟩
      go_wp2
      go_ret
      exact ⟨rfl, hb⟩
    have H35 := Lib.hid h35
    clear h35
    go_wp2_with fail
    refine (In_any 47 t _ htz).mono ?_
    rintro e w' ⟨rfl, rfl⟩
    cases h47 : Lk.inL 47 t.data.toList
    rotate_left
    · go_wp2_with fail
      refine (awake_from HE.out HB1.out).mono ?_
      rintro e w2 ⟨rfl, hb⟩
      go_wp2
      go_ret
      exact ⟨rfl, hb⟩
    have H47 := Lib.hid h47
    clear h47
    go_wp2_with fail
    refine (In_any 63 s _ hsm).mono ?_
    rintro e w' ⟨rfl, rfl⟩
    cases h63 : Lk.inL 63 s.data.toList
    rotate_left
    · go_wp2_with fail
      refine (awake_from HE.out HB1.out).mono ?_
      rintro e w2 ⟨rfl, hb⟩
      go_wp2
      go_ret
      exact ⟨rfl, hb⟩
    have hmain := HMAIN.out H35.out H47.out h63
    clear h63 HMAIN
    have hcz : (s ++ ByteArray.mk #[47] ++ p).size ≤ maxLen := by rw [slash_mk, mk_size, List.length_append, List.length_cons]; unfold maxLen; omega
    have HCZ := Lib.hid hcz
    have HTD : Hid ((s ++ ByteArray.mk #[47] ++ p).data.toList = s.data.toList ++ 47 :: p.data.toList) := by show _ = _; rw [slash_mk, mk_data]
    have HSL := Lib.hid hsl
    clear hcz hsl hpl
    rcases hmain with ⟨m1, m2⟩ | ⟨sc, h, n, m1, m2 | ⟨pa, q, m2⟩⟩
    · have V1 := Lib.hid (parseV_none (by rw [HSL.out]; omega) m1)
      have V2 := Lib.hid (tgtV_err m2)
      clear m1 m2
      go_wp2_with fail
      refine (Parse_any s _ hsm (HE.out.below HB1.out)).mono ?_
      rintro e w2 ⟨rfl, hb2⟩
      rw [V1.out]
      have HB2 : Hid (Below w.heap.size w (w2.alloc (.cells #[.string ⟨#[]⟩, .string ⟨#[]⟩, .int .i64 0] 25))) := by
        have := HB1.out.trans (hb2.mono HB1.out.size); exact this.alloc this.size _
      clear hb2
      go_wp2_with fail
      refine (tParse_any (s ++ ByteArray.mk #[47] ++ p) _ HCZ.out (HE.out.below HB2.out)).mono ?_
      rintro e w3 ⟨rfl, hb3⟩
      rw [HTD.out, V2.out]
      have HB3 : Hid (Below w.heap.size w (w3.alloc (.cells #[.string ⟨#[]⟩, .string ⟨#[]⟩, .int .i64 0, .string ⟨#[]⟩, .string ⟨#[]⟩] 27))) := by
        have := HB2.out.trans (hb3.mono HB2.out.size); exact this.alloc this.size _
      clear hb3
      go_wp2_with fail
      refine (awake_from HE.out HB3.out).mono ?_
      rintro e w4 ⟨rfl, hb⟩
      go_wp2
      go_ret
      exact ⟨rfl, hb⟩
    · have V1 := Lib.hid (parseV_some (by rw [HSL.out]; omega) m1)
      have V2 := Lib.hid (tgtV_err m2)
      clear m1 m2
      generalize mk sc = A at *
      generalize mk h = B at *
      go_wp2_with fail
      refine (Parse_any s _ hsm (HE.out.below HB1.out)).mono ?_
      rintro e w2 ⟨rfl, hb2⟩
      rw [V1.out]
      have HB2 : Hid (Below w.heap.size w (w2.alloc (.cells #[.string A, .string B, .int .i64 n] 25))) := by
        have := HB1.out.trans (hb2.mono HB1.out.size); exact this.alloc this.size _
      clear hb2
      go_wp2_with fail
      refine (tParse_any (s ++ ByteArray.mk #[47] ++ p) _ HCZ.out (HE.out.below HB2.out)).mono ?_
      rintro e w3 ⟨rfl, hb3⟩
      rw [HTD.out, V2.out]
      have HB3 : Hid (Below w.heap.size w (w3.alloc (.cells #[.string ⟨#[]⟩, .string ⟨#[]⟩, .int .i64 0, .string ⟨#[]⟩, .string ⟨#[]⟩] 27))) := by
        have := HB2.out.trans (hb3.mono HB2.out.size); exact this.alloc this.size _
      clear hb3
      go_wp2_with fail
      refine (awake_from HE.out HB3.out).mono ?_
      rintro e w4 ⟨rfl, hb⟩
      go_wp2
      go_ret
      exact ⟨rfl, hb⟩
    · have V1 := Lib.hid (parseV_some (by rw [HSL.out]; omega) m1)
      have V2 := Lib.hid (tgtV_some m2)
      clear m1 m2
      generalize mk sc = A at *
      generalize mk h = B at *
      generalize mk pa = C at *
      generalize mk q = D at *
      go_wp2_with fail
      refine (Parse_any s _ hsm (HE.out.below HB1.out)).mono ?_
      rintro e w2 ⟨rfl, hb2⟩
      rw [V1.out]
      have HO2 := Lib.hid (OrgAt.new w2 A B n 25)
      have HB2 : Hid (Below w.heap.size w (w2.alloc (.cells #[.string A, .string B, .int .i64 n] 25))) := by
        have := HB1.out.trans (hb2.mono HB1.out.size); exact this.alloc this.size _
      clear hb2
      go_wp2_with fail
      refine (tParse_any (s ++ ByteArray.mk #[47] ++ p) _ HCZ.out (HE.out.below HB2.out)).mono ?_
      rintro e w3 ⟨rfl, hb3⟩
      rw [HTD.out, V2.out]
      have HB3 : Hid (Below w.heap.size w (w3.alloc (.cells #[.string A, .string B, .int .i64 n, .string C, .string D] 27))) := by
        have := HB2.out.trans (hb3.mono HB2.out.size); exact this.alloc this.size _
      have ho3 : OrgAt w3 w2.heap.size A B n := HO2.out.below hb3 (by simp)
      have ho4 : OrgAt (w3.alloc (.cells #[.string A, .string B, .int .i64 n, .string C, .string D] 27)) w2.heap.size A B n := OrgAt.below ho3 ((Below.refl _ _).alloc (Nat.le_refl _) _) ho3.lt
      clear hb3 ho3
      obtain ⟨o0, o1, o2⟩ := ho4
      go_wp2_with fail
      refine (awake_from HE.out HB3.out).mono ?_
      rintro e w4 ⟨rfl, hb⟩
      go_wp2
      go_ret
      exact ⟨rfl, hb⟩
end Go.Proofs.YtfamllkmmiajoaaDoor
