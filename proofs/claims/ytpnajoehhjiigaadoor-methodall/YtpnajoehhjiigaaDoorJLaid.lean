/-
  What the rows' own condition on the tables of methods gives. Conditions: the row's.
-/
import Derived.Test.YtpnajoehhjiigaaDoorJEnv
import Derived.Test.YtpnajoehhjiigaaDoorKLaid
import Derived.Test.YtpnajoehhjiigaaDoorRows
import Derived.KernelRfl
namespace Go.Proofs.YtpnajoehhjiigaaDoor

theorem gUs : Tryd.prog.globalNamed "lockkeeper/method.usual" = some 0 := by kernel_rfl
theorem gBa : Tryd.prog.globalNamed "lockkeeper/method.barred" = some 1 := by kernel_rfl
theorem gUsType : (Tryd.prog.globals[(0 : Nat)]?).map (·.type) = some 29 := by kernel_rfl
theorem gBaType : (Tryd.prog.globals[(1 : Nat)]?).map (·.type) = some 31 := by kernel_rfl
theorem cells6 : Tryd.prog.cellsOf 29 = 6 := by kernel_rfl
theorem cells3 : Tryd.prog.cellsOf 31 = 3 := by kernel_rfl
theorem cellsS : Tryd.prog.cellsOf 9 = 1 := by kernel_rfl
theorem menv_of {l : List (String × DataW Unit)} {W : World} (h : laidMet Tryd.prog l W) (h1 : ("lockkeeper/method.usual", strsData Lk.usL) ∈ l) (h2 : ("lockkeeper/method.barred", strsData Lk.baL) ∈ l) : MEnv W :=
  ⟨strs_laid h h1 gUs gUsType Tryd.underlying29 Tryd.underlying9 cellsS cells6, strs_laid h h2 gBa gBaType Tryd.underlying31 Tryd.underlying9 cellsS cells3⟩
def laid2 : List (String × DataW Unit) := [("lockkeeper/method.usual", Rows.laid_lockkeeper_method_usual), ("lockkeeper/method.barred", Rows.laid_lockkeeper_method_barred)]
theorem env_of {W : World} (h : laidMetH Tryd.prog laid2 W) (_hs : W.ShapedOpen Tryd.prog) : MEnv W := by
  rw [MakeChecks.laidMetH_plain _ _ _ (by kernel_rfl)] at h
  exact menv_of h (List.mem_cons_self ..) (List.mem_cons_of_mem _ (List.mem_cons_self ..))
end Go.Proofs.YtpnajoehhjiigaaDoor
