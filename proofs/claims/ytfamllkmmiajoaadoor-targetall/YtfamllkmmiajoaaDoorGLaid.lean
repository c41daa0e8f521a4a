/-
  What the rows' own condition on the library's variables gives: the table of powers, and that the search's limit is some number. Conditions: the row's.
-/
import Derived.Test.YtfamllkmmiajoaaDoorGEnv
import Derived.Test.YtfamllkmmiajoaaDoorRows
import Derived.Shelf.Vars
import Derived.LaidSub
import Derived.MakeChecks
import Derived.Lib.LaidTab
namespace Go.Proofs.YtfamllkmmiajoaaDoor

theorem gPow : Tryd.prog.globalNamed "internal/strconv.uint64pow10" = some 1 := by kernel_rfl
theorem gPowType : (Tryd.prog.globals[1]?).map (·.type) = some 93 := by kernel_rfl
theorem cellsPow : Tryd.prog.cellsOf 93 = 20 := by kernel_rfl
theorem cellsU64 : Tryd.prog.cellsOf 37 = 1 := by kernel_rfl
def laid3 : List (String × DataW Unit) := [("math/bits.deBruijn32tab", Rows.laid_math_bits_deBruijn32tab), ("math/bits.deBruijn64tab", Rows.laid_math_bits_deBruijn64tab), ("internal/strconv.uint64pow10", Rows.laid_internal_strconv_uint64pow10)]
theorem laid_pow : laid3.filter (fun x => x.1 == "internal/strconv.uint64pow10") = [("internal/strconv.uint64pow10", Lib.tabData .u64 Lib.pow10Tab)] := by kernel_rfl
theorem env_of {W : World} (h : laidMetH Tryd.prog laid3 W) (hs : W.ShapedOpen Tryd.prog) : Env W := by
  refine ⟨Go.Proofs.cell_of_shapedOpen_int (zero := #[.int .i64 0]) (t := 3) hs (of_decide_eq_true (by kernel_rfl)) (by kernel_rfl) rfl (by kernel_rfl) (by kernel_rfl) Tryd.underlying3, ?_⟩
  have h2 := h.filter (fun x => x.1 == "internal/strconv.uint64pow10")
  rw [laid_pow, MakeChecks.laidMetH_plain _ _ _ (by kernel_rfl)] at h2
  exact Lib.tabIs_of_head gPow gPowType Tryd.underlying93 Tryd.underlying37 cellsU64 cellsPow h2
end Go.Proofs.YtfamllkmmiajoaaDoor
