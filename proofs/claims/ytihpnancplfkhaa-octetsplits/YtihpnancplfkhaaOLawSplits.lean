/-
  The walk of the law OctetSplits: whatever the texts, it returns true, and nothing that was there has turned. Conditions: the slice is as any that comes in.
-/
import Derived.Test.YtihpnancplfkhaaOJoin
import Derived.Test.YtihpnancplfkhaaOArgs
namespace Go.Proofs.Ytihpnancplfkhaa
open Go.RowKit

set_option maxHeartbeats 1000000 in
theorem walk_OctetSplits (a0 : Option Addr) (c0 : Nat) (x0 : List ByteArray) (w : World) (h0 : SArg w a0 c0 x0) :
    Calls Try.prog 6 #[.slice a0 x0.length c0] w fun e w' => e = .returned (.bool true) ∧ Below w.heap.size w w' := by
  obtain ⟨hr, hz, hlc, hcm⟩ := h0
  have HR := Lib.hid hr
  have HZ := Lib.hid hz
  have hx0 : x0.length ≤ maxLen := by omega
  clear hr hz
  cases hl : Lk.longL 2000 (x0.map ByteArray.size)
  · have hsz : (x0.map ByteArray.size).sum + x0.length ≤ 2000 := by have := Lk.long_no _ _ hl; simpa using this
    have HL : Hid (Lk.longL (2000 : Int).toNat (x0.map ByteArray.size) = false) := hl
    have hlen : x0.length ≤ 2000 := by omega
    have HSZ := Lib.hid hsz
    clear hl hsz
    obtain ⟨i0, hi, hz0, hz1, hz2⟩ := info_parts infoS
    go_enter Try.func6, Try.ntmps6
    go_wp2_with fail
    refine (Long_any _ _ _ _ x0 _ _ (by decide) (by decide) rfl HR.out hx0 HZ.out).mono ?_
    rintro e w' ⟨rfl, rfl⟩
    rw [HL.out]
    go_wp2_with fail
    go_loopw [3, 4, 5] (fun v i _ wr => ∃ k : Nat, k ≤ x0.length ∧ i = .int .i64 k ∧ (∀ x ∈ x0.take k, ∀ b ∈ x.data.toList, b ≠ 44) ∧ wr.ownsRow w.heap.size 9 1 v (Lk.keep (dat (x0.take k))).length ((Lk.keep (dat (x0.take k))).map sv) ∧ Below w.heap.size w wr)
      (fun _ i _ _ => x0.length - (intOf i).toNat)
    case atStart => exact ⟨0, Nat.zero_le _, rfl, by simp, World.ownsRow_nil _ _ _ _, Below.refl _ _⟩
    case round =>
      obtain ⟨k, hk, rfl, hno, hown, hb⟩ := hrel
      have HNO := Lib.hid hno
      have hkl : (Lk.keep (dat (x0.take k))).length ≤ k := by
        have := Lk.keep_len (dat (x0.take k))
        rw [dat_len, List.length_take] at this; omega
      have hwr := hb.size
      clear hno
      by_cases hlt : k < x0.length
      · obtain ⟨ad, hA, _, hc⟩ := HR.out.below hb k x0[k] (List.getElem?_eq_getElem hlt)
        have hxz := HZ.out x0[k] (List.getElem_mem hlt)
        have HTK : Hid (x0.take (k + 1) = x0.take k ++ [x0[k]]) := List.take_succ_eq_append_getElem hlt
        generalize x0[k] = x at *
        subst hA
        cases hin : Lk.inL 44 x.data.toList
        · have HN2 : Hid (∀ y ∈ x0.take (k + 1), ∀ b ∈ y.data.toList, b ≠ 44) := by
            show ∀ y ∈ x0.take (k + 1), ∀ b ∈ y.data.toList, b ≠ 44
            rw [HTK.out]
            intro y hy
            rcases List.mem_append.1 hy with hy | hy
            · exact HNO.out y hy
            · simp at hy; subst hy; exact Lk.inL_no (c := 44) hin
          obtain ⟨t, ht⟩ : ∃ t : ByteArray, t = ⟨(Lk.trimL x.data.toList).toArray⟩ := ⟨_, rfl⟩
          have HT := Lib.hid ht
          clear ht
          by_cases he : t.data.toList = []
          · have e1 := ba_isEmpty he
            have E := Lib.hid he
            clear he
            go_wp2_with fail
            refine (In_any _ _ _ hxz).mono ?_
            rintro e w' ⟨rfl, rfl⟩
            go_wp2_with fail
            refine (Trim_as x t _ hxz HT.out).mono ?_
            rintro e w' ⟨rfl, rfl⟩
            go_wp2_with fail
            go_roundw
            case rel =>
              refine ⟨k + 1, by omega, by go_num, HN2.out, ?_, hb⟩
              rw [HTK.out, dat_snoc, Lk.keep_snoc_nil (by rw [← ba_eq HT.out]; exact E.out)]
              exact hown
            case measure => simp [intOf]; omega
          · have e1 := ba_notEmpty he
            have E := Lib.hid he
            clear he
            go_wp2_with fail
            refine (In_any _ _ _ hxz).mono ?_
            rintro e w' ⟨rfl, rfl⟩
            go_wp2_with fail
            refine (Trim_as x t _ hxz HT.out).mono ?_
            rintro e w' ⟨rfl, rfl⟩
            go_wp2_with (at_builtin; refine wpList_append_own _ rfl (.tmp 28) (.tmp 30) 22 rfl w.heap.size 9 i0 (.string ⟨#[]⟩) 1 16 Try.underlying22 hi hz0 hz1 hz2 rfl (by decide) _ _ _ rfl (hown.alloc _) ⟨wr.heap.size, 0, none⟩ 1 1 [.string t] rfl rfl ?c1 ?c2 ?c3 ?c4 ?c5 ?_)
            case c1 => exact cell_one_new _ _ _
            case c2 => intro u hu; simp at hu; subst hu; rfl
            case c3 => unfold maxLen; omega
            case c4 => omega
            case c5 => simp; omega
            intro v' w1 hown' hgrow _
            have hb1 : Below w.heap.size w w1 := Below.grown (hb.alloc hwr _) hgrow (by simp; omega) (fun j hj => (hown.lt j hj).1)
            have ho2 : Hid (w1.ownsRow w.heap.size 9 1 v' (Lk.keep (dat (x0.take (k + 1)))).length ((Lk.keep (dat (x0.take (k + 1)))).map sv)) := by
              show World.ownsRow _ _ _ _ _ _ _
              rw [HTK.out, dat_snoc, Lk.keep_snoc (by rw [← ba_eq HT.out]; exact E.out), List.length_append, List.map_append]
              have e := sv_eq HT.out
              rw [← show [Value.string t] = List.map sv [Lk.trimL x.data.toList] by rw [e]; rfl]
              exact hown'
            clear hown' hgrow
            go_wp2_with fail
            go_roundw
            case rel => exact ⟨k + 1, by omega, by go_num, HN2.out, ho2.out, hb1⟩
            case measure => simp [intOf]; omega
        · go_wp2_with fail
          refine (In_any _ _ _ hxz).mono ?_
          rintro e w' ⟨rfl, rfl⟩
          go_wp2_with fail
          refine (awake_any _).mono ?_
          rintro e w7 ⟨rfl, hb7⟩
          go_wp2
          go_ret
          exact ⟨rfl, hb.trans (hb7.mono hwr)⟩
      · have HTA : Hid (x0.take k = x0) := List.take_of_length_le (by omega)
        have HSP : Hid (Lk.splitL (Lk.joinL (dat x0)) = Lk.keep (dat (x0.take k))) := by
          show _ = _
          rw [HTA.out]
          refine Lk.split_join _ ?_
          intro x hx
          obtain ⟨y, hy, rfl⟩ := List.mem_map.1 hx
          exact HNO.out y (by rw [HTA.out]; exact hy)
        have hj : (Lk.joinL (dat x0)).length ≤ 4000 := by
          have h1 := Lk.join_len (dat x0)
          have h2 := HSZ.out
          rw [dat_sum, dat_len] at h1
          omega
        obtain ⟨A4, c4, e4, r4⟩ := srow_of hown
        have R4 := Lib.hid r4
        have R0 := Lib.hid (HR.out.below hb)
        clear r4 hown
        subst e4
        go_wp2_with fail
        refine (Join_any _ _ _ w.heap.size _ _ rfl R0.out hwr hlc (by omega) (by omega)).mono ?_
        rintro e w3 ⟨rfl, hb3⟩
        go_wp2_with fail
        refine (Split_any _ _ (by rw [mk_size]; omega)).mono ?_
        rintro e w5 ⟨v5, rfl, ho5, hb5⟩
        rw [mk_data, HSP.out] at ho5
        obtain ⟨A5, c5, e5, r5⟩ := srow_of ho5
        have R5 := Lib.hid r5
        have hb35 : Below wr.heap.size wr w5 := hb3.trans (hb5.mono hb3.size)
        have B5 : Hid (Below w.heap.size w w5) := hb.trans (hb35.mono hwr)
        have R4' : Hid (SRow w5 wr.heap.size A4 ((Lk.keep (dat (x0.take k))).map mk)) := R4.out.below hb35
        clear r5 ho5 hb5 hb3 hb35
        subst e5
        go_wp2_with fail
        refine (Texts_same _ _ _ _ _ _ _ _ _ _ (by simp) (by simp) (by simp [maxLen]; omega) R5.out R4'.out).mono ?_
        rintro e w6 ⟨rfl, n, rfl⟩
        go_wp2_with fail
        refine (awake_any _).mono ?_
        rintro e w7 ⟨rfl, hb7⟩
        go_wp2
        go_ret
        exact ⟨rfl, (below_drewN B5.out n).trans (hb7.mono B5.out.size)⟩
  · have HL : Hid (Lk.longL (2000 : Int).toNat (x0.map ByteArray.size) = true) := hl
    clear hl
    go_enter Try.func6, Try.ntmps6
    go_wp2_with fail
    refine (Long_any _ _ _ _ x0 _ _ (by decide) (by decide) rfl HR.out hx0 HZ.out).mono ?_
    rintro e w' ⟨rfl, rfl⟩
    rw [HL.out]
    go_wp2_with fail
    refine (awake_any _).mono ?_
    rintro e w' ⟨rfl, hb⟩
    go_wp2
    go_ret
    exact ⟨rfl, hb⟩
end Go.Proofs.Ytihpnancplfkhaa
