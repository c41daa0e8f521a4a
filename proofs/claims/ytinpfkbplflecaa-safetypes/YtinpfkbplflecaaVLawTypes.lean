/-
  The walk of the law SafeTypes: whatever the input, it returns true, and nothing that was there has turned. Conditions: the arguments are such as any that come in.
-/
import Derived.Test.YtinpfkbplflecaaVAwake
namespace Go.Proofs.Ytinpfkbplflecaa
open Go.RowKit

theorem split47_lower : ∀ l : List UInt8, split1 47 (Lk.lower l) = (Lk.lower (split1 47 l).1, (split1 47 l).2.map Lk.lower)
  | [] => rfl
  | b :: l => by
    have e : Lk.lower (b :: l) = Lk.lowU b :: Lk.lower l := rfl
    rw [e, split1, split1, split47_lower l]
    by_cases h : b = 47
    · rw [if_pos h, if_pos ((low_low47 b).2 h)]; rfl
    · rw [if_neg h, if_neg (fun x => h ((low_low47 b).1 x))]; rfl
theorem type_lower (l : List UInt8) : typeL (Lk.lower l) = typeL l := by
  unfold typeL
  rw [split47_lower]
  cases h : split1 47 l with
  | mk a b =>
    cases b with
    | none => rfl
    | some b => simp [Lk.tokL_lower, Lk.lower_lower]
/-- bytes of which the names of types are made, in small letters -/
def tyB (b : UInt8) : Bool := Lk.smB b.toNat || b == 47 || b == 45
theorem ty_ok (b : UInt8) (h : tyB (Lk.lowU b) = true) : byteOk b = true ∧ b ≠ 59 ∧ Lk.sp b = false := by
  have h2 : ∀ n : Fin 256, tyB (Lk.lowU (UInt8.ofNat n.val)) = true → byteOk (UInt8.ofNat n.val) = true ∧ UInt8.ofNat n.val ≠ 59 ∧ Lk.sp (UInt8.ofNat n.val) = false := by decide +kernel
  have := h2 ⟨b.toNat, by have := b.toNat_lt; omega⟩
  simp only [UInt8.ofNat_toNat] at this
  exact this h
theorem ty_each {F t : List UInt8} (hl : Lk.lower F = t) (ht : t.all tyB = true) : ∀ b ∈ F, byteOk b = true ∧ b ≠ 59 ∧ Lk.sp b = false := by
  intro b hb
  refine ty_ok b ?_
  have : Lk.lowU b ∈ t := by rw [← hl]; exact List.mem_map.2 ⟨b, hb, rfl⟩
  exact List.all_eq_true.1 ht _ this
def formTT (t : List UInt8) : Bool := ((typeL t).getD [] == formT1) || ((typeL t).getD [] == formT2) || ((typeL t).getD [] == formT3)
theorem ends_of {F : List UInt8} (h : F ≠ []) : ∃ r c, F = r ++ [c] := ⟨F.dropLast, F.getLast h, (List.dropLast_concat_getLast h).symm⟩
def ctypeC : List UInt8 := [67, 111, 110, 116, 101, 110, 116, 45, 84, 121, 112, 101]
theorem safe_type {F t more : List UInt8} (hl : Lk.lower F = t) (ht : t.all tyB = true) (hne : t ≠ []) (hz : F.length + more.length ≤ 120) :
    safeH (ctypeC, F ++ [32, 59] ++ more ++ [59]) = (bytesOk more && formTT t) := by
  have hF := ty_each hl ht
  have hFne : F ≠ [] := by rintro rfl; apply hne; rw [← hl]; rfl
  have htrim : Lk.trimL (F ++ [32, 59] ++ more ++ [59]) = F ++ [32, 59] ++ more ++ [59] := by
    apply Lk.trim_of_tight
    refine .inr ⟨?_, 59, F ++ [32, 59] ++ more, rfl, by decide⟩
    cases F with
    | nil => exact absurd rfl hFne
    | cons c r => exact ⟨c, r ++ [32, 59] ++ more ++ [59], rfl, (hF c (by simp)).2.2⟩
  have hall : bytesOk (F ++ [32, 59] ++ more ++ [59]) = bytesOk more := by
    unfold bytesOk
    rw [List.all_append, List.all_append, List.all_append]
    have h1 : F.all byteOk = true := List.all_eq_true.2 fun b hb => (hF b hb).1
    have h2 : [32, 59].all byteOk = true := by decide
    have h3 : [59].all byteOk = true := by decide
    rw [h1, h2, h3]; simp
  have hess : essL (F ++ [32, 59] ++ more ++ [59]) = typeL t := by
    unfold essL
    have e : F ++ [32, 59] ++ more ++ [59] = (F ++ [32]) ++ 59 :: (more ++ [59]) := by simp
    rw [e, split1_at 59 (F ++ [32]) _ (by
      intro x hx
      rcases List.mem_append.1 hx with hx | hx
      · exact (hF x hx).2.1
      · obtain rfl : x = 32 := by simpa using hx
        decide)]
    have ht2 : Lk.trimL (F ++ [32]) = F := by
      have := Lk.trim_eq (a := []) (x := F) (b := [32]) rfl (by decide) (by
        refine .inr ⟨?_, ?_⟩
        · cases F with
          | nil => exact absurd rfl hFne
          | cons c r => exact ⟨c, r, rfl, (hF c (by simp)).2.2⟩
        · obtain ⟨r, c, e⟩ := ends_of hFne
          exact ⟨c, r, e, (hF c (by rw [e]; simp)).2.2⟩)
      simpa using this
    show typeL (Lk.trimL (F ++ [32])) = _
    rw [ht2, ← type_lower, hl]
  unfold safeH
  show (decide ((Lk.trimL (F ++ [32, 59] ++ more ++ [59])).length ≤ 128) && kindOk (Lk.lower ctypeC) (Lk.trimL (F ++ [32, 59] ++ more ++ [59]))) = _
  rw [htrim, decide_eq_true (by simp; omega), Bool.true_and, show Lk.lower ctypeC = ctypeT by decide]
  unfold kindOk
  rw [if_neg (by decide), if_neg (by decide), if_neg (by decide), if_pos rfl, hall]
  unfold formL essT formTT
  rw [hess]

def arr6 : Value := .agg #[.string ⟨#[97, 112, 112, 108, 105, 99, 97, 116, 105, 111, 110, 47, 120, 45, 119, 119, 119, 45, 102, 111, 114, 109, 45, 117, 114, 108, 101, 110, 99, 111, 100, 101, 100]⟩, .string ⟨#[109, 117, 108, 116, 105, 112, 97, 114, 116, 47, 102, 111, 114, 109, 45, 100, 97, 116, 97]⟩, .string ⟨#[116, 101, 120, 116, 47, 112, 108, 97, 105, 110]⟩, .string ⟨#[116, 101, 120, 116, 47, 104, 116, 109, 108]⟩, .string ⟨#[116, 101, 120, 116]⟩, .string ⟨#[116, 101, 120, 116, 47, 112, 108, 97, 105, 110, 47, 120]⟩]
def typ6 (m : Nat) : ByteArray := if m = 0 then ⟨#[97, 112, 112, 108, 105, 99, 97, 116, 105, 111, 110, 47, 120, 45, 119, 119, 119, 45, 102, 111, 114, 109, 45, 117, 114, 108, 101, 110, 99, 111, 100, 101, 100]⟩ else if m = 1 then ⟨#[109, 117, 108, 116, 105, 112, 97, 114, 116, 47, 102, 111, 114, 109, 45, 100, 97, 116, 97]⟩ else if m = 2 then ⟨#[116, 101, 120, 116, 47, 112, 108, 97, 105, 110]⟩ else if m = 3 then ⟨#[116, 101, 120, 116, 47, 104, 116, 109, 108]⟩ else if m = 4 then ⟨#[116, 101, 120, 116]⟩ else ⟨#[116, 101, 120, 116, 47, 112, 108, 97, 105, 110, 47, 120]⟩
theorem ix6_0 (w : World) : (Instr.index 52 arr6 (.int .i64 0)).run Try.prog w = .ok (.string (typ6 0)) w := by kernel_rfl
theorem ix6_1 (w : World) : (Instr.index 52 arr6 (.int .i64 1)).run Try.prog w = .ok (.string (typ6 1)) w := by kernel_rfl
theorem ix6_2 (w : World) : (Instr.index 52 arr6 (.int .i64 2)).run Try.prog w = .ok (.string (typ6 2)) w := by kernel_rfl
theorem ix6_3 (w : World) : (Instr.index 52 arr6 (.int .i64 3)).run Try.prog w = .ok (.string (typ6 3)) w := by kernel_rfl
theorem ix6_4 (w : World) : (Instr.index 52 arr6 (.int .i64 4)).run Try.prog w = .ok (.string (typ6 4)) w := by kernel_rfl
theorem ix6_5 (w : World) : (Instr.index 52 arr6 (.int .i64 5)).run Try.prog w = .ok (.string (typ6 5)) w := by kernel_rfl
theorem typ6_view {m : Nat} (h : m < 6) : (∀ w, (Instr.index 52 arr6 (.int .i64 (m : Int))).run Try.prog w = .ok (.string (typ6 m)) w) ∧ (typ6 m).size ≤ 33 ∧ (typ6 m).data.toList.all tyB = true ∧ Lk.lower (typ6 m).data.toList = (typ6 m).data.toList ∧
    (typ6 m).data.toList ≠ [] ∧ formTT (typ6 m).data.toList = decide ((m : Int) < 3) := by
  rcases (by omega : m = 0 ∨ m = 1 ∨ m = 2 ∨ m = 3 ∨ m = 4 ∨ m = 5) with rfl | rfl | rfl | rfl | rfl | rfl
  · exact ⟨ix6_0, by decide, by decide, by decide, by decide, by decide⟩
  · exact ⟨ix6_1, by decide, by decide, by decide, by decide, by decide⟩
  · exact ⟨ix6_2, by decide, by decide, by decide, by decide, by decide⟩
  · exact ⟨ix6_3, by decide, by decide, by decide, by decide, by decide⟩
  · exact ⟨ix6_4, by decide, by decide, by decide, by decide, by decide⟩
  · exact ⟨ix6_5, by decide, by decide, by decide, by decide, by decide⟩

set_option maxRecDepth 100000 in
set_option maxHeartbeats 4000000 in
theorem walk_SafeTypes (a0 a1 : Int) (more : ByteArray) (w : World) (_h0 : (Lit.int .i64 a0).wf = true) (h1 : (Lit.int .u64 a1).wf = true) (h2 : more.size ≤ maxLen) :
    Calls Try.prog 6 #[.int .i64 a0, .int .u64 a1, .string more] w fun e w' => e = .returned (.bool true) ∧ Below w.heap.size w w' := by
  have b1 := wfU h1
  clear h1
  have HT2 := Lib.hid h2
  clear h2
  cases hz : Lk.longL 60 ([more].map ByteArray.size)
  case true =>
    have HZ := Lib.hid hz
    clear hz
    go_enter Try.func6, Try.ntmps6
    go_wp2_with fail
    refine (Long_any 60 _ 1 1 [more] _ (w.heap.size + 1) (by omega) (by omega) rfl (SRow.one_at _ _ _ _ rfl) (by unfold maxLen; simp) (by intro x hx; simp at hx; subst hx; exact HT2.out)).mono ?_
    rintro e w1 ⟨rfl, hwn⟩
    have HB1 : Hid (Below w.heap.size w w1) := by show Below _ _ _; rw [← hwn]; exact (Below.refl _ _).alloc (Nat.le_refl _) _
    clear hwn
    rw [show Lk.longL (60 : Int).toNat ([more].map ByteArray.size) = true from HZ.out]
    go_wp2_with fail
    refine (awake7_any _).mono ?_
    rintro e w2 ⟨rfl, hb⟩
    go_wp2
    go_ret
    exact ⟨rfl, HB1.out.trans (hb.mono HB1.out.size)⟩
  have HZ := Lib.hid hz
  have hsz := Lk.long_no _ _ hz
  simp at hsz
  clear hz
  obtain ⟨m, hm, hm6⟩ := low_nat a0 6 (by decide)
  have HM : Hid (lowV a0 6 = (m : Int)) := hm
  clear hm
  obtain ⟨hix, t1, t2, t3, t4, t5⟩ := typ6_view hm6
  unfold arr6 at hix
  obtain ⟨F, hF⟩ : ∃ F : ByteArray, F = mk (flipL a1 (typ6 m).data.toList) := ⟨_, rfl⟩
  have hFz : F.size ≤ 33 := by rw [hF, mk_size, flip_len]; simpa using t1
  have hFl : Lk.lower F.data.toList = (typ6 m).data.toList := by rw [hF, mk_data, flip_low, t3]
  obtain ⟨v, hv⟩ : ∃ v : ByteArray, v = F ++ ⟨#[32, 59]⟩ ++ more ++ ⟨#[59]⟩ := ⟨_, rfl⟩
  have hvd : v.data.toList = F.data.toList ++ [32, 59] ++ more.data.toList ++ [59] := by rw [hv]; simp
  have hvz : v.size ≤ 1000 := by have := congrArg List.length hvd; simp at this; omega
  have HSF : Hid (safeH (hd (⟨#[67, 111, 110, 116, 101, 110, 116, 45, 84, 121, 112, 101]⟩, v)) = (decide ((m : Int) < 3) && more.data.toList.all byteOk)) := by
    show _ = _
    show safeH (ctypeC, v.data.toList) = _
    rw [hvd, safe_type hFl t2 t4 (by simp; omega), t5, Bool.and_comm]
    rfl
  have HFE : Hid (mk (flipL a1 (typ6 m).data.toList) = F) := hF.symm
  have HVE : Hid (F ++ ⟨#[32, 59]⟩ ++ more ++ ⟨#[59]⟩ = v) := hv.symm
  clear hF hFl hv hvd t2 t3 t4 t5
  generalize typ6 m = T at *
  go_enter Try.func6, Try.ntmps6
  go_wp2_with fail
  refine (Long_any 60 _ 1 1 [more] _ (w.heap.size + 1) (by omega) (by omega) rfl (SRow.one_at _ _ _ _ rfl) (by unfold maxLen; simp) (by intro x hx; simp at hx; subst hx; exact HT2.out)).mono ?_
  rintro e w1 ⟨rfl, hwn⟩
  have HB1 : Hid (Below w.heap.size w w1) := by show Below _ _ _; rw [← hwn]; exact (Below.refl _ _).alloc (Nat.le_refl _) _
  clear hwn
  rw [show Lk.longL (60 : Int).toNat ([more].map ByteArray.size) = false from HZ.out]
  go_wp2_with fail
  refine (Low_any _ _ _ (by decide) (by decide)).mono ?_
  rintro e w' ⟨rfl, rfl⟩
  rw [HM.out]
  go_wp2_with fail
  refine (Low_any _ _ _ (by decide) (by decide)).mono ?_
  rintro e w' ⟨rfl, rfl⟩
  rw [HM.out]
  go_wp2
  go_loop [8, 9] (fun o i => ∃ (n : Nat) (ob : Bool), n ≤ more.size ∧ i = .int .i64 n ∧ o = .bool ob ∧ ob = (decide ((m : Int) < 3) && (more.data.toList.take n).all byteOk)) (fun _ i => more.size - (intOf i).toNat)
  case atStart => exact ⟨0, decide ((m : Int) < 3), Nat.zero_le _, rfl, rfl, by simp⟩
  case round =>
    obtain ⟨n, ob, hn, rfl, rfl, hob⟩ := hrel
    have HOB := Lib.hid hob
    clear hob
    by_cases hlt : n < more.size
    · have HNX : Hid ((more.data.toList.take (n + 1)).all byteOk = ((more.data.toList.take n).all byteOk && byteOk more[n])) := by
        show _ = _
        rw [Lk.take_snoc more n hlt, List.all_append]; simp
      cases ob
      · go_wp2
        go_round
        case rel => exact ⟨n + 1, false, by omega, by go_num, rfl, by rw [HNX.out, ← Bool.and_assoc, ← HOB.out]; rfl⟩
        case measure => simp [intOf]; omega
      · go_wp2_with fail
        refine (Byte_any _ _).mono ?_
        rintro e w' ⟨rfl, rfl⟩
        have HBY : Hid (byteOk more[n] = (decide ((m : Int) < 3) && (more.data.toList.take (n + 1)).all byteOk)) := by
          show _ = _
          rw [HNX.out, ← Bool.and_assoc, ← HOB.out]; rfl
        generalize byteOk more[n] = bo at *
        go_wp2
        go_round
        case rel => exact ⟨n + 1, bo, by omega, by go_num, rfl, HBY.out⟩
        case measure => simp [intOf]; omega
    · have HOE : Hid (safeH (hd (⟨#[67, 111, 110, 116, 101, 110, 116, 45, 84, 121, 112, 101]⟩, v)) = ob) := by
        show _ = _
        rw [HSF.out, HOB.out, Lk.take_all more n (by omega)]
      go_wp2_with fail
      refine (FlipF_any T a1 _ (by unfold maxLen; omega) b1.1 b1.2).mono ?_
      rintro e w2 ⟨rfl, hb2⟩
      rw [HFE.out]
      have HB2 : Hid (Below w.heap.size w w2) := HB1.out.trans (hb2.mono HB1.out.size)
      clear hb2
      go_wp2_with fail
      rw [HVE.out]
      refine (Header_any ⟨#[67, 111, 110, 116, 101, 110, 116, 45, 84, 121, 112, 101]⟩ v _ (by unfold maxLen; decide) (by unfold maxLen; omega)).mono ?_
      rintro e w3 ⟨rfl, hb3⟩
      rw [HOE.out]
      have HB3 : Hid (Below w.heap.size w w3) := HB2.out.trans (hb3.mono HB2.out.size)
      clear hb3
      cases ob
      · go_wp2_with fail
        refine (awake7_any _).mono ?_
        rintro e w4 ⟨rfl, hb⟩
        go_wp2
        go_ret
        exact ⟨rfl, HB3.out.trans (hb.mono HB3.out.size)⟩
      · go_wp2_with fail
        refine (awake7_any _).mono ?_
        rintro e w4 ⟨rfl, hb⟩
        go_wp2
        go_ret
        exact ⟨rfl, HB3.out.trans (hb.mono HB3.out.size)⟩
end Go.Proofs.Ytinpfkbplflecaa
