/-
  The walk of the law OriginPorts: whatever the number, the noughts and the scheme, it returns true, and nothing that was there has turned. Conditions: the arguments are such as any that come in; the library's variables are as they are laid.
-/
import Derived.Test.YtbnkfocaegcjdaaDoorGLawBack
import Derived.Test.YtbnkfocaegcjdaaDoorONum
namespace Go.Proofs.YtbnkfocaegcjdaaDoor
open Go.RowKit

theorem ports_seek (sc : ByteArray) (hd : defL sc.data.toList ≠ 0) (k n : Nat) (hk : k ≤ 2) (hn : n ≤ Lk.M64) (t : ByteArray) (ht : t = sc ++ ByteArray.mk #[58, 47, 47, 104, 58] ++ mk (List.replicate k 48) ++ mk (numL n)) :
    t.data.toList.length ≤ 512 ∧ parseL t.data.toList = if checkL sc.data.toList [104] (portL (List.replicate k 48 ++ numL n) : Int) then some (sc.data.toList, [104], (portL (List.replicate k 48 ++ numL n) : Int)) else none := by
  have hs := scheme_small hd
  have hnd := (numL_ok hn).1
  have hnl := (numL_ok hn).2.2
  have e : t.data.toList = sc.data.toList ++ [58, 47, 47] ++ ([104] ++ 58 :: (List.replicate k 48 ++ numL n)) := by
    rw [ht]
    have : sc ++ ByteArray.mk #[58, 47, 47, 104, 58] ++ mk (List.replicate k 48) ++ mk (numL n) = mk (sc.data.toList ++ [58, 47, 47, 104, 58] ++ List.replicate k 48 ++ numL n) := by
      show sc ++ mk [58, 47, 47, 104, 58] ++ mk (List.replicate k 48) ++ mk (numL n) = _
      conv => lhs; rw [← mk_eq sc]
      rw [mk_append, mk_append, mk_append]
    rw [this, mk_data]; simp
  have hlow : Lk.lower t.data.toList = t.data.toList := by
    refine lower_id ?_
    intro b hb
    rw [e] at hb
    simp only [List.mem_append, List.mem_cons, List.not_mem_nil, or_false, List.mem_replicate] at hb
    rcases hb with (hb | rfl | rfl | rfl) | rfl | rfl | ⟨_, rfl⟩ | hb
    · exact (hs.1 b hb).1
    · decide
    · decide
    · decide
    · decide
    · decide
    · decide
    · have := dig_all hnd b hb; omega
  refine ⟨by rw [e]; have h5 := hs.2; simp at h5 ⊢; omega, ?_⟩
  unfold parseL
  rw [hlow, e, seek_mk _ _ (fun x hx => (hs.1 x hx).2)]
  simp only [split1_at 58 [104] (List.replicate k 48 ++ numL n) (by decide), portAt]
theorem ports_bad (sc : ByteArray) (hd : defL sc.data.toList ≠ 0) (k n : Nat) (hk : k ≤ 2) (hn : n ≤ Lk.M64) (h : 0 < k ∨ n < 1 ∨ 65535 < n) (t : ByteArray) (ht : t = sc ++ ByteArray.mk #[58, 47, 47, 104, 58] ++ mk (List.replicate k 48) ++ mk (numL n)) :
    parseV t.data.toList = .tuple #[.agg #[.string ⟨#[]⟩, .string ⟨#[]⟩, .int .i64 0], .int .i64 3] ∧ t.size ≤ maxLen := by
  obtain ⟨hl, hp⟩ := ports_seek sc hd k n hk hn t ht
  have hbad : portL (List.replicate k 48 ++ numL n) = 0 ∨ 65535 < portL (List.replicate k 48 ++ numL n) := by
    rcases Nat.eq_zero_or_pos k with rfl | hk0
    · simp only [List.replicate_zero, List.nil_append]
      rcases h with h | h | h
      · omega
      · obtain rfl : n = 0 := by omega
        exact .inl (by rw [num_zero]; rfl)
      · rcases port_num_or hn with h0 | h0
        · exact .inl h0
        · exact .inr (by omega)
    · refine .inl (port_zero _ ?_)
      obtain ⟨j, rfl⟩ : ∃ j, k = j + 1 := ⟨k - 1, by omega⟩
      simp [List.replicate_succ]
  have hc := check_port (sc := sc.data.toList) (h := [104]) hbad
  rw [hc] at hp
  refine ⟨by rw [parseV, if_neg (by omega), hp]; rfl, ?_⟩
  simp at hl
  unfold maxLen; omega
theorem ports_good (sc : ByteArray) (hd : defL sc.data.toList ≠ 0) (n : Nat) (h1 : 1 ≤ n) (h2 : n ≤ 65535) (t : ByteArray) (ht : t = sc ++ ByteArray.mk #[58, 47, 47, 104, 58] ++ mk (List.replicate 0 48) ++ mk (numL n)) :
    parseV t.data.toList = .tuple #[.agg #[.string sc, .string ⟨#[104]⟩, .int .i64 n], .int .i64 0] ∧ t.size ≤ maxLen ∧ checkL sc.data.toList [104] n = true := by
  obtain ⟨hl, hp⟩ := ports_seek sc hd 0 n (by omega) (by unfold Lk.M64; omega) t ht
  have hc : checkL sc.data.toList [104] n = true := by
    unfold checkL
    have e1 : (defL sc.data.toList != 0) = true := by rw [bne_iff_ne]; exact hd
    have e2 : hostL [104] = true := by decide
    rw [e1, e2]; simp; omega
  simp only [List.replicate_zero, List.nil_append] at hp
  rw [port_num h1 h2, if_pos hc] at hp
  refine ⟨by rw [parseV, if_neg (by omega), hp]; simp only [orgV, mk_eq]; rfl, ?_, hc⟩
  simp at hl
  unfold maxLen; omega
theorem ports_own (sc : ByteArray) (n : Nat) (hc : checkL sc.data.toList [104] n = true) (hd : (n : Int) = defL sc.data.toList) : mk (showL sc.data.toList (ByteArray.mk #[104]).data.toList n) = sc ++ ByteArray.mk #[58, 47, 47, 104] := by
  show mk (showL sc.data.toList [104] n) = sc ++ mk [58, 47, 47, 104]
  conv => rhs; rw [← mk_eq sc]
  rw [show_bare hc hd, mk_append]; simp
theorem ports_other (sc : ByteArray) (n : Nat) (hc : checkL sc.data.toList [104] n = true) (hd : (n : Int) ≠ defL sc.data.toList) : mk (showL sc.data.toList (ByteArray.mk #[104]).data.toList n) = sc ++ ByteArray.mk #[58, 47, 47, 104] ++ ByteArray.mk #[58] ++ mk (numL n) := by
  show mk (showL sc.data.toList [104] n) = sc ++ mk [58, 47, 47, 104] ++ mk [58] ++ mk (numL n)
  conv => rhs; rw [← mk_eq sc]
  rw [show_key (.inr hd), key_eq hc, mk_append, mk_append, mk_append]; simp

set_option maxHeartbeats 4000000 in
theorem walk_OriginPorts (a0 : Int) (a1 : Int) (a2 : Bool) (w : World) (h0 : (Lit.int .u64 a0).wf = true) (_h1 : (Lit.int .i64 a1).wf = true) (he : Env w) :
    Calls Tryd.prog 6 #[.int .u64 a0, .int .i64 a1, .bool a2] w fun e w' => e = .returned (.bool true) ∧ Below w.heap.size w w' := by
  have hbd := wfU h0
  obtain ⟨n, rfl⟩ := Int.eq_ofNat_of_zero_le hbd.1
  have hn : n ≤ Lk.M64 := by unfold Lk.M64; omega
  have HE := Lib.hid he
  clear he h0 _h1
  have hlo := lowV_bd a1 (n := 3) (by decide)
  obtain ⟨k, hk⟩ := Int.eq_ofNat_of_zero_le hlo.1
  have hk2 : k ≤ 2 := by omega
  have HK := Lib.hid hk
  clear hlo hk
  have z1 : (mk (List.replicate k 48)).size ≤ 2 := by rw [mk_size]; simp; omega
  have z2 : (mk (numL n)).size ≤ 26 := by rw [mk_size]; exact (numL_ok hn).2.2
  cases a2
  · have HD : Hid (defL (ByteArray.mk #[104, 116, 116, 112]).data.toList = 80) := by show _ = _; decide
    have HN : Hid (defL (ByteArray.mk #[104, 116, 116, 112]).data.toList ≠ 0) := by show _ ≠ _; decide
    obtain ⟨t, ht⟩ : ∃ t : ByteArray, t = (ByteArray.mk #[104, 116, 116, 112]) ++ ByteArray.mk #[58, 47, 47, 104, 58] ++ mk (List.replicate k 48) ++ mk (numL n) := ⟨_, rfl⟩
    have HT := Lib.hid ht
    by_cases hbad : 0 < k ∨ n < 1 ∨ 65535 < n
    · have ⟨t1, tz⟩ := ports_bad _ HN.out k n hk2 hn hbad t ht
      have T1 := Lib.hid t1
      clear ht t1
      by_cases b1 : 0 < (k : Int)
      · clear hbad
        go_enter Tryd.func6, Tryd.ntmps6
        go_wp2_with fail
        refine (Low_any _ _ _ (by decide) (by decide)).mono ?_
        rintro e w' ⟨rfl, rfl⟩
        rw [HK.out]
        go_wp2_with fail
        refine (Text_any k 48 _ (by omega)).mono ?_
        rintro e w1 ⟨rfl, hb1⟩
        have HB1 := Lib.hid hb1
        clear hb1
        go_wp2_with fail
        refine (Num_any n _ hn).mono ?_
        rintro e w' ⟨rfl, rfl⟩
        go_wp2_with fail
        rw [← HT.out]
        refine (Parse_any t _ tz (HE.out.below HB1.out)).mono ?_
        rintro e w2 ⟨rfl, hb⟩
        rw [T1.out]
        have HB2 : Hid (Below w.heap.size w w2) := HB1.out.trans (hb.mono HB1.out.size)
        clear hb
        go_wp2_with fail
        refine (awake3_any _ ((HE.out.below HB2.out).alloc _)).mono ?_
        rintro e w3 ⟨rfl, hb⟩
        go_wp2
        go_ret
        exact ⟨rfl, (HB2.out.alloc HB2.out.size _).trans (hb.mono (by have := HB2.out.size; simp; omega))⟩
      by_cases b2 : (n : Int) < 1
      · clear hbad
        go_enter Tryd.func6, Tryd.ntmps6
        go_wp2_with fail
        refine (Low_any _ _ _ (by decide) (by decide)).mono ?_
        rintro e w' ⟨rfl, rfl⟩
        rw [HK.out]
        go_wp2_with fail
        refine (Text_any k 48 _ (by omega)).mono ?_
        rintro e w1 ⟨rfl, hb1⟩
        have HB1 := Lib.hid hb1
        clear hb1
        go_wp2_with fail
        refine (Num_any n _ hn).mono ?_
        rintro e w' ⟨rfl, rfl⟩
        go_wp2_with fail
        rw [← HT.out]
        refine (Parse_any t _ tz (HE.out.below HB1.out)).mono ?_
        rintro e w2 ⟨rfl, hb⟩
        rw [T1.out]
        have HB2 : Hid (Below w.heap.size w w2) := HB1.out.trans (hb.mono HB1.out.size)
        clear hb
        go_wp2_with fail
        refine (awake3_any _ ((HE.out.below HB2.out).alloc _)).mono ?_
        rintro e w3 ⟨rfl, hb⟩
        go_wp2
        go_ret
        exact ⟨rfl, (HB2.out.alloc HB2.out.size _).trans (hb.mono (by have := HB2.out.size; simp; omega))⟩
      have b3 : 65535 < (n : Int) := by omega
      clear hbad
      go_enter Tryd.func6, Tryd.ntmps6
      go_wp2_with fail
      refine (Low_any _ _ _ (by decide) (by decide)).mono ?_
      rintro e w' ⟨rfl, rfl⟩
      rw [HK.out]
      go_wp2_with fail
      refine (Text_any k 48 _ (by omega)).mono ?_
      rintro e w1 ⟨rfl, hb1⟩
      have HB1 := Lib.hid hb1
      clear hb1
      go_wp2_with fail
      refine (Num_any n _ hn).mono ?_
      rintro e w' ⟨rfl, rfl⟩
      go_wp2_with fail
      rw [← HT.out]
      refine (Parse_any t _ tz (HE.out.below HB1.out)).mono ?_
      rintro e w2 ⟨rfl, hb⟩
      rw [T1.out]
      have HB2 : Hid (Below w.heap.size w w2) := HB1.out.trans (hb.mono HB1.out.size)
      clear hb
      go_wp2_with fail
      refine (awake3_any _ ((HE.out.below HB2.out).alloc _)).mono ?_
      rintro e w3 ⟨rfl, hb⟩
      go_wp2
      go_ret
      exact ⟨rfl, (HB2.out.alloc HB2.out.size _).trans (hb.mono (by have := HB2.out.size; simp; omega))⟩
    · obtain ⟨k0, n1, n2⟩ : k = 0 ∧ 1 ≤ n ∧ n ≤ 65535 := by omega
      have ⟨t1, tz, hc⟩ := ports_good _ HN.out n n1 n2 t (by rw [ht, k0])
      have T1 := Lib.hid t1
      clear ht t1 hbad
      have b1 : ¬ 0 < (k : Int) := by omega
      have b2 : ¬ (n : Int) < 1 := by omega
      have b3 : ¬ 65535 < (n : Int) := by omega
      clear k0
      by_cases hown : (n : Int) = 80
      · have HS := Lib.hid (ports_own _ n hc (hown.trans HD.out.symm))
        have hq : ((n : Int) != 80) = false := by rw [hown]; rfl
        clear hown hc
        go_enter Tryd.func6, Tryd.ntmps6
        go_wp2_with fail
        refine (Low_any _ _ _ (by decide) (by decide)).mono ?_
        rintro e w' ⟨rfl, rfl⟩
        rw [HK.out]
        go_wp2_with fail
        refine (Text_any k 48 _ (by omega)).mono ?_
        rintro e w1 ⟨rfl, hb1⟩
        have HB1 := Lib.hid hb1
        clear hb1
        go_wp2_with fail
        refine (Num_any n _ hn).mono ?_
        rintro e w' ⟨rfl, rfl⟩
        go_wp2_with fail
        rw [← HT.out]
        refine (Parse_any t _ tz (HE.out.below HB1.out)).mono ?_
        rintro e w2 ⟨rfl, hb⟩
        rw [T1.out]
        have HB2 : Hid (Below w.heap.size w w2) := HB1.out.trans (hb.mono HB1.out.size)
        clear hb
        go_wp2_with fail
        refine (Show_any _ _ _ _ (by decide) ((HE.out.below HB2.out).alloc _)).mono ?_
        rintro e w3 ⟨rfl, hb⟩
        rw [HS.out]
        have HB3 : Hid (Below w.heap.size w w3) := (HB2.out.alloc HB2.out.size _).trans (hb.mono (by have := HB2.out.size; simp; omega))
        clear hb
        go_wp2_with fail
        refine (awake3_any _ (HE.out.below HB3.out)).mono ?_
        rintro e w4 ⟨rfl, hb⟩
        go_wp2
        go_ret
        exact ⟨rfl, HB3.out.trans (hb.mono HB3.out.size)⟩
      · have HS := Lib.hid (ports_other _ n hc (fun e => hown (e.trans HD.out)))
        have hq : ((n : Int) != 80) = true := by rw [bne_iff_ne]; exact hown
        clear hown hc
        go_enter Tryd.func6, Tryd.ntmps6
        go_wp2_with fail
        refine (Low_any _ _ _ (by decide) (by decide)).mono ?_
        rintro e w' ⟨rfl, rfl⟩
        rw [HK.out]
        go_wp2_with fail
        refine (Text_any k 48 _ (by omega)).mono ?_
        rintro e w1 ⟨rfl, hb1⟩
        have HB1 := Lib.hid hb1
        clear hb1
        go_wp2_with fail
        refine (Num_any n _ hn).mono ?_
        rintro e w' ⟨rfl, rfl⟩
        go_wp2_with fail
        rw [← HT.out]
        refine (Parse_any t _ tz (HE.out.below HB1.out)).mono ?_
        rintro e w2 ⟨rfl, hb⟩
        rw [T1.out]
        have HB2 : Hid (Below w.heap.size w w2) := HB1.out.trans (hb.mono HB1.out.size)
        clear hb
        go_wp2_with fail
        refine (Num_any n _ hn).mono ?_
        rintro e w' ⟨rfl, rfl⟩
        go_wp2_with fail
        refine (Show_any _ _ _ _ (by decide) ((HE.out.below HB2.out).alloc _)).mono ?_
        rintro e w3 ⟨rfl, hb⟩
        rw [HS.out]
        have HB3 : Hid (Below w.heap.size w w3) := (HB2.out.alloc HB2.out.size _).trans (hb.mono (by have := HB2.out.size; simp; omega))
        clear hb
        go_wp2_with fail
        refine (awake3_any _ (HE.out.below HB3.out)).mono ?_
        rintro e w4 ⟨rfl, hb⟩
        go_wp2
        go_ret
        exact ⟨rfl, HB3.out.trans (hb.mono HB3.out.size)⟩
  · have HD : Hid (defL (ByteArray.mk #[104, 116, 116, 112, 115]).data.toList = 443) := by show _ = _; decide
    have HN : Hid (defL (ByteArray.mk #[104, 116, 116, 112, 115]).data.toList ≠ 0) := by show _ ≠ _; decide
    obtain ⟨t, ht⟩ : ∃ t : ByteArray, t = (ByteArray.mk #[104, 116, 116, 112, 115]) ++ ByteArray.mk #[58, 47, 47, 104, 58] ++ mk (List.replicate k 48) ++ mk (numL n) := ⟨_, rfl⟩
    have HT := Lib.hid ht
    by_cases hbad : 0 < k ∨ n < 1 ∨ 65535 < n
    · have ⟨t1, tz⟩ := ports_bad _ HN.out k n hk2 hn hbad t ht
      have T1 := Lib.hid t1
      clear ht t1
      by_cases b1 : 0 < (k : Int)
      · clear hbad
        go_enter Tryd.func6, Tryd.ntmps6
        go_wp2_with fail
        refine (Low_any _ _ _ (by decide) (by decide)).mono ?_
        rintro e w' ⟨rfl, rfl⟩
        rw [HK.out]
        go_wp2_with fail
        refine (Text_any k 48 _ (by omega)).mono ?_
        rintro e w1 ⟨rfl, hb1⟩
        have HB1 := Lib.hid hb1
        clear hb1
        go_wp2_with fail
        refine (Num_any n _ hn).mono ?_
        rintro e w' ⟨rfl, rfl⟩
        go_wp2_with fail
        rw [← HT.out]
        refine (Parse_any t _ tz (HE.out.below HB1.out)).mono ?_
        rintro e w2 ⟨rfl, hb⟩
        rw [T1.out]
        have HB2 : Hid (Below w.heap.size w w2) := HB1.out.trans (hb.mono HB1.out.size)
        clear hb
        go_wp2_with fail
        refine (awake3_any _ ((HE.out.below HB2.out).alloc _)).mono ?_
        rintro e w3 ⟨rfl, hb⟩
        go_wp2
        go_ret
        exact ⟨rfl, (HB2.out.alloc HB2.out.size _).trans (hb.mono (by have := HB2.out.size; simp; omega))⟩
      by_cases b2 : (n : Int) < 1
      · clear hbad
        go_enter Tryd.func6, Tryd.ntmps6
        go_wp2_with fail
        refine (Low_any _ _ _ (by decide) (by decide)).mono ?_
        rintro e w' ⟨rfl, rfl⟩
        rw [HK.out]
        go_wp2_with fail
        refine (Text_any k 48 _ (by omega)).mono ?_
        rintro e w1 ⟨rfl, hb1⟩
        have HB1 := Lib.hid hb1
        clear hb1
        go_wp2_with fail
        refine (Num_any n _ hn).mono ?_
        rintro e w' ⟨rfl, rfl⟩
        go_wp2_with fail
        rw [← HT.out]
        refine (Parse_any t _ tz (HE.out.below HB1.out)).mono ?_
        rintro e w2 ⟨rfl, hb⟩
        rw [T1.out]
        have HB2 : Hid (Below w.heap.size w w2) := HB1.out.trans (hb.mono HB1.out.size)
        clear hb
        go_wp2_with fail
        refine (awake3_any _ ((HE.out.below HB2.out).alloc _)).mono ?_
        rintro e w3 ⟨rfl, hb⟩
        go_wp2
        go_ret
        exact ⟨rfl, (HB2.out.alloc HB2.out.size _).trans (hb.mono (by have := HB2.out.size; simp; omega))⟩
      have b3 : 65535 < (n : Int) := by omega
      clear hbad
      go_enter Tryd.func6, Tryd.ntmps6
      go_wp2_with fail
      refine (Low_any _ _ _ (by decide) (by decide)).mono ?_
      rintro e w' ⟨rfl, rfl⟩
      rw [HK.out]
      go_wp2_with fail
      refine (Text_any k 48 _ (by omega)).mono ?_
      rintro e w1 ⟨rfl, hb1⟩
      have HB1 := Lib.hid hb1
      clear hb1
      go_wp2_with fail
      refine (Num_any n _ hn).mono ?_
      rintro e w' ⟨rfl, rfl⟩
      go_wp2_with fail
      rw [← HT.out]
      refine (Parse_any t _ tz (HE.out.below HB1.out)).mono ?_
      rintro e w2 ⟨rfl, hb⟩
      rw [T1.out]
      have HB2 : Hid (Below w.heap.size w w2) := HB1.out.trans (hb.mono HB1.out.size)
      clear hb
      go_wp2_with fail
      refine (awake3_any _ ((HE.out.below HB2.out).alloc _)).mono ?_
      rintro e w3 ⟨rfl, hb⟩
      go_wp2
      go_ret
      exact ⟨rfl, (HB2.out.alloc HB2.out.size _).trans (hb.mono (by have := HB2.out.size; simp; omega))⟩
    · obtain ⟨k0, n1, n2⟩ : k = 0 ∧ 1 ≤ n ∧ n ≤ 65535 := by omega
      have ⟨t1, tz, hc⟩ := ports_good _ HN.out n n1 n2 t (by rw [ht, k0])
      have T1 := Lib.hid t1
      clear ht t1 hbad
      have b1 : ¬ 0 < (k : Int) := by omega
      have b2 : ¬ (n : Int) < 1 := by omega
      have b3 : ¬ 65535 < (n : Int) := by omega
      clear k0
      by_cases hown : (n : Int) = 443
      · have HS := Lib.hid (ports_own _ n hc (hown.trans HD.out.symm))
        have hq : ((n : Int) != 443) = false := by rw [hown]; rfl
        clear hown hc
        go_enter Tryd.func6, Tryd.ntmps6
        go_wp2_with fail
        refine (Low_any _ _ _ (by decide) (by decide)).mono ?_
        rintro e w' ⟨rfl, rfl⟩
        rw [HK.out]
        go_wp2_with fail
        refine (Text_any k 48 _ (by omega)).mono ?_
        rintro e w1 ⟨rfl, hb1⟩
        have HB1 := Lib.hid hb1
        clear hb1
        go_wp2_with fail
        refine (Num_any n _ hn).mono ?_
        rintro e w' ⟨rfl, rfl⟩
        go_wp2_with fail
        rw [← HT.out]
        refine (Parse_any t _ tz (HE.out.below HB1.out)).mono ?_
        rintro e w2 ⟨rfl, hb⟩
        rw [T1.out]
        have HB2 : Hid (Below w.heap.size w w2) := HB1.out.trans (hb.mono HB1.out.size)
        clear hb
        go_wp2_with fail
        refine (Show_any _ _ _ _ (by decide) ((HE.out.below HB2.out).alloc _)).mono ?_
        rintro e w3 ⟨rfl, hb⟩
        rw [HS.out]
        have HB3 : Hid (Below w.heap.size w w3) := (HB2.out.alloc HB2.out.size _).trans (hb.mono (by have := HB2.out.size; simp; omega))
        clear hb
        go_wp2_with fail
        refine (awake3_any _ (HE.out.below HB3.out)).mono ?_
        rintro e w4 ⟨rfl, hb⟩
        go_wp2
        go_ret
        exact ⟨rfl, HB3.out.trans (hb.mono HB3.out.size)⟩
      · have HS := Lib.hid (ports_other _ n hc (fun e => hown (e.trans HD.out)))
        have hq : ((n : Int) != 443) = true := by rw [bne_iff_ne]; exact hown
        clear hown hc
        go_enter Tryd.func6, Tryd.ntmps6
        go_wp2_with fail
        refine (Low_any _ _ _ (by decide) (by decide)).mono ?_
        rintro e w' ⟨rfl, rfl⟩
        rw [HK.out]
        go_wp2_with fail
        refine (Text_any k 48 _ (by omega)).mono ?_
        rintro e w1 ⟨rfl, hb1⟩
        have HB1 := Lib.hid hb1
        clear hb1
        go_wp2_with fail
        refine (Num_any n _ hn).mono ?_
        rintro e w' ⟨rfl, rfl⟩
        go_wp2_with fail
        rw [← HT.out]
        refine (Parse_any t _ tz (HE.out.below HB1.out)).mono ?_
        rintro e w2 ⟨rfl, hb⟩
        rw [T1.out]
        have HB2 : Hid (Below w.heap.size w w2) := HB1.out.trans (hb.mono HB1.out.size)
        clear hb
        go_wp2_with fail
        refine (Num_any n _ hn).mono ?_
        rintro e w' ⟨rfl, rfl⟩
        go_wp2_with fail
        refine (Show_any _ _ _ _ (by decide) ((HE.out.below HB2.out).alloc _)).mono ?_
        rintro e w3 ⟨rfl, hb⟩
        rw [HS.out]
        have HB3 : Hid (Below w.heap.size w w3) := (HB2.out.alloc HB2.out.size _).trans (hb.mono (by have := HB2.out.size; simp; omega))
        clear hb
        go_wp2_with fail
        refine (awake3_any _ (HE.out.below HB3.out)).mono ?_
        rintro e w4 ⟨rfl, hb⟩
        go_wp2
        go_ret
        exact ⟨rfl, HB3.out.trans (hb.mono HB3.out.size)⟩
end Go.Proofs.YtbnkfocaegcjdaaDoor
