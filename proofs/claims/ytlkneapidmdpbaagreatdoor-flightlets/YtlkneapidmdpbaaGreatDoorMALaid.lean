/-
  What the rows' own condition on the variables gives: the library's tables, the tables of methods. Conditions: the row's.
-/
import Derived.Test.YtlkneapidmdpbaaGreatDoorLAsk
import Derived.Test.YtlkneapidmdpbaaGreatDoorKLaid
import Derived.Test.YtlkneapidmdpbaaGreatDoorRows
import Derived.KernelRfl
import Derived.Shelf.Vars
import Derived.LaidSub
import Derived.MakeChecks
import Derived.Lib.LaidTab
namespace Go.Proofs.YtlkneapidmdpbaaGreatDoor

theorem gPow : Tryz.prog.globalNamed "internal/strconv.uint64pow10" = some 3 := by kernel_rfl
theorem gPowType : (Tryz.prog.globals[(3 : Nat)]?).map (·.type) = some 207 := by kernel_rfl
theorem cellsPow : Tryz.prog.cellsOf 207 = 20 := by kernel_rfl
theorem cellsU64 : Tryz.prog.cellsOf 23 = 1 := by kernel_rfl
theorem gUs : Tryz.prog.globalNamed "lockkeeper/method.usual" = some 0 := by kernel_rfl
theorem gBa : Tryz.prog.globalNamed "lockkeeper/method.barred" = some 1 := by kernel_rfl
theorem gUsType : (Tryz.prog.globals[(0 : Nat)]?).map (·.type) = some 124 := by kernel_rfl
theorem gBaType : (Tryz.prog.globals[(1 : Nat)]?).map (·.type) = some 181 := by kernel_rfl
theorem cells6 : Tryz.prog.cellsOf 124 = 6 := by kernel_rfl
theorem cells3 : Tryz.prog.cellsOf 181 = 3 := by kernel_rfl
theorem cellsS : Tryz.prog.cellsOf 9 = 1 := by kernel_rfl
theorem menv_of {l : List (String × DataW Unit)} {W : World} (h : laidMet Tryz.prog l W) (h1 : ("lockkeeper/method.usual", strsData Lk.usL) ∈ l) (h2 : ("lockkeeper/method.barred", strsData Lk.baL) ∈ l) : MEnv W :=
  ⟨strs_laid h h1 gUs gUsType Tryz.underlying124 Tryz.underlying9 cellsS cells6, strs_laid h h2 gBa gBaType Tryz.underlying181 Tryz.underlying9 cellsS cells3⟩
def laid5 : List (String × DataW Unit) := [("math/bits.deBruijn32tab", Rows.laid_math_bits_deBruijn32tab), ("math/bits.deBruijn64tab", Rows.laid_math_bits_deBruijn64tab), ("internal/strconv.uint64pow10", Rows.laid_internal_strconv_uint64pow10), ("lockkeeper/method.usual", Rows.laid_lockkeeper_method_usual), ("lockkeeper/method.barred", Rows.laid_lockkeeper_method_barred)]
theorem laid_pow : laid5.filter (fun x => x.1 == "internal/strconv.uint64pow10") = [("internal/strconv.uint64pow10", Lib.tabData .u64 Lib.pow10Tab)] := by kernel_rfl
theorem laid_meth : laid5.filter (fun x => x.1 == "lockkeeper/method.usual" || x.1 == "lockkeeper/method.barred") = [("lockkeeper/method.usual", strsData Lk.usL), ("lockkeeper/method.barred", strsData Lk.baL)] := by kernel_rfl
theorem env_of {W : World} (h : laidMetH Tryz.prog laid5 W) (hs : W.ShapedOpen Tryz.prog) : Env8 W := by
  refine ⟨⟨Go.Proofs.cell_of_shapedOpen_int (zero := #[.int .i64 0]) (t := 3) hs (of_decide_eq_true (by kernel_rfl)) (by kernel_rfl) rfl (by kernel_rfl) (by kernel_rfl) Tryz.underlying3, ?_⟩, ?_⟩
  · have h2 := h.filter (fun x => x.1 == "internal/strconv.uint64pow10")
    rw [laid_pow, MakeChecks.laidMetH_plain _ _ _ (by kernel_rfl)] at h2
    exact Lib.tabIs_of_head gPow gPowType Tryz.underlying207 Tryz.underlying23 cellsU64 cellsPow h2
  · have h2 := h.filter (fun x => x.1 == "lockkeeper/method.usual" || x.1 == "lockkeeper/method.barred")
    rw [laid_meth, MakeChecks.laidMetH_plain _ _ _ (by kernel_rfl)] at h2
    exact menv_of h2 (List.mem_cons_self ..) (List.mem_cons_of_mem _ (List.mem_cons_self ..))
end Go.Proofs.YtlkneapidmdpbaaGreatDoor
