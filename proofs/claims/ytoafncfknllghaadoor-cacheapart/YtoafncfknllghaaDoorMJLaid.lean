/-
  What the rows' own condition on the tables of methods gives. Conditions: the row's.
-/
import Derived.Test.YtoafncfknllghaaDoorLMeth
import Derived.Test.YtoafncfknllghaaDoorKLaid
import Derived.Test.YtoafncfknllghaaDoorRows
import Derived.KernelRfl
namespace Go.Proofs.YtoafncfknllghaaDoor

theorem gUs : Tryd.prog.globalNamed "lockkeeper/method.usual" = some 0 := by kernel_rfl
theorem gUsType : (Tryd.prog.globals[(0 : Nat)]?).map (·.type) = some 66 := by kernel_rfl
theorem cells6 : Tryd.prog.cellsOf 66 = 6 := by kernel_rfl
theorem cellsS : Tryd.prog.cellsOf 9 = 1 := by kernel_rfl
theorem menv_one {l : List (String × DataW Unit)} {W : World} (h : laidMet Tryd.prog l W) (h1 : ("lockkeeper/method.usual", strsData Lk.usL) ∈ l) : MEnv W :=
  ⟨strs_laid h h1 gUs gUsType Tryd.underlying66 Tryd.underlying9 cellsS cells6⟩
def laid1 : List (String × DataW Unit) := [("lockkeeper/method.usual", Rows.laid_lockkeeper_method_usual)]
theorem env_of {W : World} (h : laidMetH Tryd.prog laid1 W) (_hs : W.ShapedOpen Tryd.prog) : MEnv W := by
  rw [MakeChecks.laidMetH_plain _ _ _ (by kernel_rfl)] at h
  exact menv_one h (List.mem_cons_self ..)
end Go.Proofs.YtoafncfknllghaaDoor
