/-
  How structs are compared, over this seat's program: origins, cells, wants. No conditions.
-/
import Derived.Test.YticedcnmajcgbaaGreatDoorAReq
namespace Go.Proofs.YticedcnmajcgbaaGreatDoor
open Go.RowKit

theorem eq_org (a b s h : ByteArray) (n k : Int) (w : World) : (Op.equalIn 10000 50 (.agg #[.string a, .string b, .int .i64 n]) (.agg #[.string s, .string h, .int .i64 k])).run Tryz.prog w = .ok ((a.toList == s.toList) && (b.toList == h.toList) && (n == k)) w := by
  cases h1 : a.toList == s.toList <;> cases h2 : b.toList == h.toList <;> cases h3 : n == k <;> simp [go_sem, h1, h2, h3]
theorem eq_cell (a b s h : ByteArray) (n k : Bool) (w : World) : (Op.equalIn 10000 37 (.agg #[.string a, .string b, .bool n]) (.agg #[.string s, .string h, .bool k])).run Tryz.prog w = .ok ((a.toList == s.toList) && (b.toList == h.toList) && (n == k)) w := by
  cases h1 : a.toList == s.toList <;> cases h2 : b.toList == h.toList <;> cases h3 : n == k <;> simp [go_sem, h1, h2, h3]
theorem neq_org (a b s h : ByteArray) (n k : Int) (w : World) : (binOp .neq 50 (.agg #[.string a, .string b, .int .i64 n]) (.agg #[.string s, .string h, .int .i64 k])).run Tryz.prog w = .ok (.bool (!((a.toList == s.toList) && (b.toList == h.toList) && (n == k)))) w := by
  rw [run_neq_struct, eq_org]; rfl
theorem eql_cell (a b s h : ByteArray) (n k : Bool) (w : World) : (binOp .eql 37 (.agg #[.string a, .string b, .bool n]) (.agg #[.string s, .string h, .bool k])).run Tryz.prog w = .ok (.bool ((a.toList == s.toList) && (b.toList == h.toList) && (n == k))) w := by
  rw [run_eql_struct, eq_cell]; rfl
theorem eql_want (a b : ByteArray) (n : Bool) (c d s h : ByteArray) (k : Bool) (e f : ByteArray) (w : World) : (binOp .eql 40 (.agg #[.string a, .string b, .bool n, .string c, .string d]) (.agg #[.string s, .string h, .bool k, .string e, .string f])).run Tryz.prog w =
    .ok (.bool ((a.toList == s.toList) && (b.toList == h.toList) && (n == k) && (c.toList == e.toList) && (d.toList == f.toList))) w := by
  rw [run_eql_struct]
  cases h1 : a.toList == s.toList <;> cases h2 : b.toList == h.toList <;> cases h3 : n == k <;> cases h4 : c.toList == e.toList <;> cases h5 : d.toList == f.toList <;> simp [go_sem, h1, h2, h3, h4, h5]
end Go.Proofs.YticedcnmajcgbaaGreatDoor
