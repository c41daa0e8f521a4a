/-
  Plain mathematics of preflights: what is built, what an answer is told, what is kept. It speaks of no program. No conditions beyond those of each statement.
-/
import Derived.Test.YtlkneapidmdpbaaGreatDoorLAsk
import Derived.Test.YtlkneapidmdpbaaGreatDoorLAllow
import Derived.Test.YtlkneapidmdpbaaGreatDoorLCors
namespace Go.Proofs.YtlkneapidmdpbaaGreatDoor

def optL : List UInt8 := [79, 80, 84, 73, 79, 78, 83]
def accL : List UInt8 := [97, 99, 99, 101, 112, 116]
def anyL : List UInt8 := [42, 47, 42]
def rmL : List UInt8 := [97, 99, 99, 101, 115, 115, 45, 99, 111, 110, 116, 114, 111, 108, 45, 114, 101, 113, 117, 101, 115, 116, 45, 109, 101, 116, 104, 111, 100]
def rhL : List UInt8 := [97, 99, 99, 101, 115, 115, 45, 99, 111, 110, 116, 114, 111, 108, 45, 114, 101, 113, 117, 101, 115, 116, 45, 104, 101, 97, 100, 101, 114, 115]
def orL : List UInt8 := [111, 114, 105, 103, 105, 110]
/-- the headers of a preflight -/
def hdsF (z : Wq) : List Hd := (accL, anyL) :: (rmL, z.m) :: ((if z.n = [] then [] else [(rhL, z.n)]) ++ [(orL, z.o)])
theorem hdsF_no {z : Wq} (h : z.n = []) : hdsF z = [(accL, anyL), (rmL, z.m), (orL, z.o)] := by unfold hdsF; rw [if_pos h]; rfl
theorem hdsF_yes {z : Wq} (h : ¬ z.n = []) : hdsF z = [(accL, anyL), (rmL, z.m), (rhL, z.n), (orL, z.o)] := by unfold hdsF; rw [if_neg h]; rfl
def preQ (q : Rq) : Rq := ⟨optL, (wantQ q).u, (wantQ q).o, 3, false, hdsF (wantQ q), q.cl, q.tm, q.gr, q.sg⟩
def buildQ (q : Rq) : Rq := if needsQ q then preQ q else Rq.zero
/-- what an answer is told: a code -/
def judgeI (q : Rq) (st : Int) (H : List Hd) : Int :=
  if needsQ q = false then 2 else if chkH (wantQ q).o q.cr H ≠ 0 then chkH (wantQ q).o q.cr H
  else if st < 200 ∨ 299 < st then 14 else if readI H ≠ 0 then readI H
  else if hasA (readA H).ms (wantQ q).m q.cr = false then 5
  else if (namesQ q).all (fun s => covA (readA H).hs s q.cr) = false then 6 else 0
def judgeA (q : Rq) (st : Int) (H : List Hd) : Al := if judgeI q st H = 0 then readA H else Al.zero
theorem judge_2 {q : Rq} {st : Int} {H : List Hd} (h : needsQ q = false) : judgeI q st H = 2 := by unfold judgeI; rw [if_pos h]
theorem judge_c {q : Rq} {st : Int} {H : List Hd} {k : Int} (h : needsQ q = true) (h1 : chkH (wantQ q).o q.cr H = k) (hk : k ≠ 0) : judgeI q st H = k := by unfold judgeI; rw [h1, if_neg (by simp [h]), if_pos hk]
theorem judge_14 {q : Rq} {st : Int} {H : List Hd} (h : needsQ q = true) (h1 : chkH (wantQ q).o q.cr H = 0) (h2 : st < 200 ∨ 299 < st) : judgeI q st H = 14 := by
  unfold judgeI; rw [h1, if_neg (by simp [h]), if_neg (by simp), if_pos h2]
theorem judge_r {q : Rq} {st : Int} {H : List Hd} {k : Int} (h : needsQ q = true) (h1 : chkH (wantQ q).o q.cr H = 0) (h2 : ¬ (st < 200 ∨ 299 < st)) (h3 : readI H = k) (hk : k ≠ 0) : judgeI q st H = k := by
  unfold judgeI; rw [h1, if_neg (by simp [h]), if_neg (by simp), if_neg h2, h3, if_pos hk]
theorem judge_5 {q : Rq} {st : Int} {H : List Hd} (h : needsQ q = true) (h1 : chkH (wantQ q).o q.cr H = 0) (h2 : ¬ (st < 200 ∨ 299 < st)) (h3 : readI H = 0) (h4 : hasA (readA H).ms (wantQ q).m q.cr = false) : judgeI q st H = 5 := by
  unfold judgeI; rw [h1, if_neg (by simp [h]), if_neg (by simp), if_neg h2, h3, if_neg (by simp), if_pos h4]
theorem judge_6 {q : Rq} {st : Int} {H : List Hd} (h : needsQ q = true) (h1 : chkH (wantQ q).o q.cr H = 0) (h2 : ¬ (st < 200 ∨ 299 < st)) (h3 : readI H = 0) (h4 : hasA (readA H).ms (wantQ q).m q.cr = true) (h5 : (namesQ q).all (fun s => covA (readA H).hs s q.cr) = false) : judgeI q st H = 6 := by
  unfold judgeI; rw [h1, if_neg (by simp [h]), if_neg (by simp), if_neg h2, h3, if_neg (by simp), if_neg (by simp [h4]), if_pos h5]
theorem judge_0 {q : Rq} {st : Int} {H : List Hd} (h : needsQ q = true) (h1 : chkH (wantQ q).o q.cr H = 0) (h2 : ¬ (st < 200 ∨ 299 < st)) (h3 : readI H = 0) (h4 : hasA (readA H).ms (wantQ q).m q.cr = true) (h5 : (namesQ q).all (fun s => covA (readA H).hs s q.cr) = true) : judgeI q st H = 0 := by
  unfold judgeI; rw [h1, if_neg (by simp [h]), if_neg (by simp), if_neg h2, h3, if_neg (by simp), if_neg (by simp [h4]), if_neg (by simp [h5])]
theorem judgeA_no {q : Rq} {st : Int} {H : List Hd} {k : Int} (h : judgeI q st H = k) (hk : k ≠ 0) : judgeA q st H = Al.zero := by unfold judgeA; rw [h, if_neg hk]
theorem judgeA_yes {q : Rq} {st : Int} {H : List Hd} (h : judgeI q st H = 0) : judgeA q st H = readA H := by unfold judgeA; rw [if_pos h]
theorem judge_all {q : Rq} {st : Int} {H : List Hd} (h : judgeI q st H = 0) : needsQ q = true ∧ chkH (wantQ q).o q.cr H = 0 ∧ ¬ (st < 200 ∨ 299 < st) ∧ readI H = 0 ∧ hasA (readA H).ms (wantQ q).m q.cr = true ∧ (namesQ q).all (fun s => covA (readA H).hs s q.cr) = true := by
  unfold judgeI at h
  split at h
  · simp at h
  rename_i h1
  split at h
  · contradiction
  rename_i h2
  split at h
  · simp at h
  rename_i h3
  split at h
  · contradiction
  rename_i h4
  split at h
  · simp at h
  rename_i h5
  split at h
  · simp at h
  rename_i h6
  exact ⟨by simpa using h1, by simpa using h2, h3, by simpa using h4, by simpa using h5, by simpa using h6⟩
/-- texts in their order, each once -/
def addO (acc : List (List UInt8)) (x : List UInt8) : List (List UInt8) := if memS acc x then acc else acc ++ [x]
def onceL (l : List (List UInt8)) : List (List UInt8) := l.foldl addO []
theorem onceL_take {l : List (List UInt8)} {k : Nat} (h : k < l.length) : onceL (l.take (k + 1)) = addO (onceL (l.take k)) l[k] := by
  rw [List.take_succ_eq_append_getElem h, onceL, List.foldl_append]; rfl
theorem addO_len (acc : List (List UInt8)) (x : List UInt8) : (addO acc x).length ≤ acc.length + 1 := by unfold addO; split <;> simp
theorem fold_addO_len (l : List (List UInt8)) : ∀ acc, (l.foldl addO acc).length ≤ acc.length + l.length := by
  induction l with
  | nil => simp
  | cons x r ih => intro acc; have h1 := ih (addO acc x); have h2 := addO_len acc x; rw [List.foldl_cons, List.length_cons]; omega
theorem onceL_len (l : List (List UInt8)) : (onceL l).length ≤ l.length := by have := fold_addO_len l []; simpa [onceL] using this
theorem addO_mem (acc : List (List UInt8)) (x y : List UInt8) : y ∈ addO acc x ↔ y ∈ acc ∨ y = x := by
  unfold addO
  split
  · rename_i h
    rw [memS_iff] at h
    exact ⟨.inl, fun h1 => h1.elim id (fun e => e ▸ h)⟩
  · simp
theorem fold_addO_mem (l : List (List UInt8)) (y : List UInt8) : ∀ acc, y ∈ l.foldl addO acc ↔ y ∈ acc ∨ y ∈ l := by
  induction l with
  | nil => simp
  | cons x r ih => intro acc; rw [List.foldl_cons, ih, addO_mem, List.mem_cons, or_assoc]
theorem onceL_mem (l : List (List UInt8)) (y : List UInt8) : y ∈ onceL l ↔ y ∈ l := by rw [onceL, fold_addO_mem]; simp
theorem addO_nodup {acc : List (List UInt8)} (h : acc.Nodup) (x : List UInt8) : (addO acc x).Nodup := by
  unfold addO
  split
  · exact h
  · rename_i h1
    rw [memS_iff] at h1
    rw [List.nodup_append]
    refine ⟨h, by simp, ?_⟩
    intro a ha b hb e
    simp at hb
    subst hb e
    exact h1 ha
theorem fold_addO_nodup (l : List (List UInt8)) : ∀ acc : List (List UInt8), acc.Nodup → (l.foldl addO acc).Nodup := by
  induction l with
  | nil => intro acc h; exact h
  | cons x r ih => intro acc h; exact ih _ (addO_nodup h x)
theorem onceL_nodup (l : List (List UInt8)) : (onceL l).Nodup := fold_addO_nodup l [] (by simp)
theorem onceL_nil {l : List (List UInt8)} : onceL l = [] ↔ l = [] := by
  constructor
  · intro h
    cases l with
    | nil => rfl
    | cons x r => have : x ∈ onceL (x :: r) := (onceL_mem _ _).2 (by simp); rw [h] at this; simp at this
  · rintro rfl; rfl
theorem needs_ok {q : Rq} (h : needsQ q = true) : askI q = 0 := by
  by_cases h0 : askI q = 0
  · exact h0
  · unfold needsQ crossQ at h; rw [if_neg h0] at h; simp at h
theorem want_0 {q : Rq} (h : askI q = 0) : wantQ q = ⟨(normQ q).o, (normQ q).u, q.cr, (normQ q).m, comL (namesQ q)⟩ := by unfold wantQ namesQ; rw [if_pos h, if_pos h]
theorem com_nil {l : List (List UInt8)} (h : ∀ x ∈ l, x ≠ []) : comL l = [] ↔ l = [] := by
  constructor
  · intro e
    cases l with
    | nil => rfl
    | cons x r =>
      cases r with
      | nil => exact absurd e (h x (by simp))
      | cons y r => simp [comL] at e
  · rintro rfl; rfl
theorem names_ne {q : Rq} : ∀ x ∈ namesQ q, x ≠ [] := by
  unfold namesQ
  split
  · rename_i h; exact fun x hx => (names_plain h x hx).2
  · simp
theorem want_n {q : Rq} (h : askI q = 0) : (wantQ q).n = [] ↔ namesQ q = [] := by rw [want_0 h]; exact com_nil names_ne
end Go.Proofs.YtlkneapidmdpbaaGreatDoor
