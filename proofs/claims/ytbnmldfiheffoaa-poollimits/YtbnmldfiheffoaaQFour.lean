/-
  The four names of the statements, and numbers of connections in their order. Plain lists and numbers; the array of names over this seat's program. No conditions beyond those of each statement.
-/
import Derived.Test.YtbnmldfiheffoaaQAwake
namespace Go.Proofs.Ytbnmldfiheffoaa
open Go.RowKit

/-- the names a, b, c, d -/
def kE (q : Nat) : ByteArray := ⟨#[UInt8.ofNat (97 + q)]⟩
theorem kE_inj {i j : Nat} (hi : i < 4) (hj : j < 4) (h : kE i = kE j) : i = j := by
  unfold kE at h
  injection h with h
  have h1 := congrArg (fun x : Array UInt8 => (x.toList.map UInt8.toNat)) h
  simp at h1
  omega
def arr4 : Value := .agg #[.string ⟨#[97]⟩, .string ⟨#[98]⟩, .string ⟨#[99]⟩, .string ⟨#[100]⟩]
theorem idx4_0 (w : World) : (Instr.index 51 arr4 (.int .i64 0)).run Try.prog w = .ok (.string ⟨#[97]⟩) w := by kernel_rfl
theorem idx4_1 (w : World) : (Instr.index 51 arr4 (.int .i64 1)).run Try.prog w = .ok (.string ⟨#[98]⟩) w := by kernel_rfl
theorem idx4_2 (w : World) : (Instr.index 51 arr4 (.int .i64 2)).run Try.prog w = .ok (.string ⟨#[99]⟩) w := by kernel_rfl
theorem idx4_3 (w : World) : (Instr.index 51 arr4 (.int .i64 3)).run Try.prog w = .ok (.string ⟨#[100]⟩) w := by kernel_rfl
theorem idx4 {q : Nat} (h : q < 4) (w : World) : (Instr.index 51 (.agg #[.string ⟨#[97]⟩, .string ⟨#[98]⟩, .string ⟨#[99]⟩, .string ⟨#[100]⟩]) (.int .i64 (q : Int))).run Try.prog w = .ok (.string (kE q)) w := by
  rcases (by omega : q = 0 ∨ q = 1 ∨ q = 2 ∨ q = 3) with rfl | rfl | rfl | rfl
  · exact idx4_0 w
  · exact idx4_1 w
  · exact idx4_2 w
  · exact idx4_3 w
/-- rising numbers are sorted -/
theorem sortI_up {l : List Int} (h : l.Pairwise (fun a b => a < b)) : sortI l = l :=
  List.mergeSort_of_pairwise (h.imp (fun hab => decide_eq_true (Int.le_of_lt hab)))
/-- the numbers below n for which p holds, each one more -/
def upsP (p : Nat → Bool) (n : Nat) : List Int := ((List.range n).filter p).map (fun q => ((q + 1 : Nat) : Int))
theorem upsP_succ (p : Nat → Bool) (n : Nat) : upsP p (n + 1) = if p n then upsP p n ++ [((n + 1 : Nat) : Int)] else upsP p n := by
  unfold upsP
  rw [List.range_succ, List.filter_append, List.map_append]
  by_cases h : p n = true
  · rw [if_pos h]; simp [h]
  · rw [if_neg h]; simp [h]
theorem upsP_sorted (p : Nat → Bool) (n : Nat) : sortI (upsP p n) = upsP p n := by
  refine sortI_up ?_
  unfold upsP
  rw [List.pairwise_map]
  exact (List.Pairwise.filter p (List.pairwise_lt_range)).imp (fun h => by omega)
theorem upsP_len (p : Nat → Bool) (n : Nat) : (upsP p n).length ≤ n := by
  unfold upsP
  rw [List.length_map]
  have := List.length_filter_le p (List.range n)
  rw [List.length_range] at this
  exact this
end Go.Proofs.Ytbnmldfiheffoaa
