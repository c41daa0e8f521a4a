/-
  Plain mathematics of cors: whether another origin may read an answer, and which of its headers. No conditions beyond those of each statement.
-/
import Derived.Test.YtpfbkcibpmndoaaLHdr
namespace Go.Proofs.Ytpfbkcibpmndoaa

def orgN : List UInt8 := [97, 99, 99, 101, 115, 115, 45, 99, 111, 110, 116, 114, 111, 108, 45, 97, 108, 108, 111, 119, 45, 111, 114, 105, 103, 105, 110]
def crdN : List UInt8 := [97, 99, 99, 101, 115, 115, 45, 99, 111, 110, 116, 114, 111, 108, 45, 97, 108, 108, 111, 119, 45, 99, 114, 101, 100, 101, 110, 116, 105, 97, 108, 115]
def expN : List UInt8 := [97, 99, 99, 101, 115, 115, 45, 99, 111, 110, 116, 114, 111, 108, 45, 101, 120, 112, 111, 115, 101, 45, 104, 101, 97, 100, 101, 114, 115]
def truL : List UInt8 := [116, 114, 117, 101]
def cookL : List UInt8 := [115, 101, 116, 45, 99, 111, 111, 107, 105, 101]
def cook2L : List UInt8 := [115, 101, 116, 45, 99, 111, 111, 107, 105, 101, 50]
def plainL : List (List UInt8) := [[99, 97, 99, 104, 101, 45, 99, 111, 110, 116, 114, 111, 108], [99, 111, 110, 116, 101, 110, 116, 45, 108, 97, 110, 103, 117, 97, 103, 101], [99, 111, 110, 116, 101, 110, 116, 45, 108, 101, 110, 103, 116, 104], [99, 111, 110, 116, 101, 110, 116, 45, 116, 121, 112, 101], [101, 120, 112, 105, 114, 101, 115], [108, 97, 115, 116, 45, 109, 111, 100, 105, 102, 105, 101, 100], [112, 114, 97, 103, 109, 97]]
/-- is a text one of these? -/
def memS (l : List (List UInt8)) (s : List UInt8) : Bool := l.any (fun x => x == s)
def chk (got wild cr same tru : Bool) : Int := if !got then 15 else if wild && !cr then 0 else if !same then 15 else if cr && !tru then 15 else 0
def truH (l : List Hd) : Bool := getH l crdN == truL
def chkH (o : List UInt8) (cr : Bool) (l : List Hd) : Int := chk (gotH l orgN) (getH l orgN == [42]) cr (getH l orgN == o) (truH l)
def hidS (n : List UInt8) : Bool := n == cookL || n == cook2L
def shownH (l : List Hd) : List (List UInt8) := (Lk.splitL (getH l expN)).map Lk.lower
def seesH (cr : Bool) (S : List (List UInt8)) (n : List UInt8) : Bool := !hidS n && ((memS S [42] && !cr) || (memS plainL n || memS S n))
def seenH (cr : Bool) (l : List Hd) : List Hd := (normL l).filter (fun h => seesH cr (shownH l) h.1)
/-- the document's own answer to one name -/
def okS (cr : Bool) (N : List (List UInt8)) (n : List UInt8) : Bool := N.any (fun x => Lk.foldL x n || (x == [42] && !cr))
def namesE (l : List Hd) : List (List UInt8) := Lk.splitL (getH l expN) ++ plainL
def rseesH (cr : Bool) (N : List (List UInt8)) (n : List UInt8) : Bool := okS cr N n && (!(n == cookL) && !(n == cook2L))

theorem memS_nil (s : List UInt8) : memS [] s = false := rfl
theorem memS_snoc (l : List (List UInt8)) (x s : List UInt8) : memS (l ++ [x]) s = (memS l s || x == s) := by simp [memS]
theorem memS_append (l m : List (List UInt8)) (s : List UInt8) : memS (l ++ m) s = (memS l s || memS m s) := by simp [memS]
theorem memS_iff (l : List (List UInt8)) (s : List UInt8) : memS l s = true ↔ s ∈ l := by
  unfold memS
  rw [List.any_eq_true]
  constructor
  · rintro ⟨x, hx, e⟩
    rw [← eq_of_beq e]; exact hx
  · intro h
    exact ⟨s, h, by simp⟩
theorem okS_snoc (cr : Bool) (N : List (List UInt8)) (x n : List UInt8) : okS cr (N ++ [x]) n = (okS cr N n || (Lk.foldL x n || (x == [42] && !cr))) := by simp [okS]
theorem okS_append (cr : Bool) (N M : List (List UInt8)) (n : List UInt8) : okS cr (N ++ M) n = (okS cr N n || okS cr M n) := by simp [okS]
theorem lower_star {x : List UInt8} : (Lk.lower x == [42]) = (x == [42]) := by
  match x with
  | [] => rfl
  | [a] =>
    have h : (Lk.lowU a == 42) = (a == 42) := by
      have e : Lk.lowU 42 = 42 := by decide
      cases h1 : a == 42
      · cases h2 : Lk.lowU a == 42
        · rfl
        · exfalso
          have h3 := (Lk.lowU_inj a 42).1 (by rw [e]; exact eq_of_beq h2)
          have h4 : Lk.lowI (42 : UInt8).toNat = 42 := by decide
          rw [h4] at h3
          have h5 : (a.toNat : Int) = 42 := by
            unfold Lk.lowI at h3
            split at h3
            · rename_i hu
              unfold Lk.upB at hu
              simp at hu
              omega
            · exact h3
          have : a = 42 := UInt8.toNat_inj.1 (by simp; omega)
          rw [this] at h1
          cases h1
      · rw [eq_of_beq h1, e]; rfl
    simpa [Lk.lower] using h
  | a :: b :: r => simp [Lk.lower]
/-- the two ways to ask come to the same -/
theorem sees_same (cr : Bool) (l : List Hd) (n : List UInt8) (hn : Lk.lower n = n) : rseesH cr (namesE l) n = seesH cr (shownH l) n := by
  have h1 : okS cr (Lk.splitL (getH l expN)) n = (memS (shownH l) n || (memS (shownH l) [42] && !cr)) := by
    unfold okS memS shownH
    generalize Lk.splitL (getH l expN) = L
    induction L with
    | nil => rfl
    | cons x r ih =>
      rw [List.any_cons, ih, List.map_cons, List.any_cons, List.any_cons, lower_star]
      have : Lk.foldL x n = (Lk.lower x == n) := by unfold Lk.foldL; rw [hn]
      rw [this]
      cases Lk.lower x == n <;> cases x == [42] <;> cases cr <;> cases (r.map Lk.lower).any (fun x => x == n) <;> cases (r.map Lk.lower).any (fun x => x == [42]) <;> rfl
  have h2 : okS cr plainL n = memS plainL n := by
    have e : ∀ x ∈ plainL, Lk.lower x = x ∧ (x == [42]) = false := by decide
    revert e
    generalize plainL = L
    intro e
    unfold okS memS
    induction L with
    | nil => rfl
    | cons x r ih =>
      obtain ⟨e1, e2⟩ := e x (by simp)
      rw [List.any_cons, List.any_cons, ih (fun y hy => e y (List.mem_cons_of_mem _ hy)), e2]
      have : Lk.foldL x n = (x == n) := by unfold Lk.foldL; rw [hn, e1]
      rw [this]
      simp
  unfold rseesH namesE seesH hidS
  rw [okS_append, h1, h2]
  cases n == cookL <;> cases n == cook2L <;> cases memS (shownH l) n <;> cases memS (shownH l) [42] <;> cases cr <;> cases memS plainL n <;> rfl
theorem seen_same (cr : Bool) (l : List Hd) : (normL l).filter (fun h => rseesH cr (namesE l) h.1) = seenH cr l := by
  unfold seenH
  apply List.filter_congr
  intro h hh
  obtain ⟨x, _, rfl⟩ := List.mem_map.1 hh
  exact sees_same cr l _ (Lk.lower_lower x.1)
theorem filter_take {p : Hd → Bool} {l : List Hd} {k : Nat} (h : k < l.length) : (l.take (k + 1)).filter p = (l.take k).filter p ++ (if p l[k] then [l[k]] else []) := by
  rw [List.take_succ_eq_append_getElem h, List.filter_append]
  cases hp : p l[k] <;> simp [hp]
theorem okS_take {cr : Bool} {N : List (List UInt8)} {n : List UInt8} {k : Nat} (h : k < N.length) : okS cr (N.take (k + 1)) n = (okS cr (N.take k) n || (Lk.foldL N[k] n || (N[k] == [42] && !cr))) := by
  rw [List.take_succ_eq_append_getElem h, okS_snoc]
theorem beq_l {t : ByteArray} {L : List UInt8} (h : t.data.toList = L) (l : List UInt8) : (t.toList == l) = (L == l) := by rw [ByteArray.toList_eq, h]
end Go.Proofs.Ytpfbkcibpmndoaa
