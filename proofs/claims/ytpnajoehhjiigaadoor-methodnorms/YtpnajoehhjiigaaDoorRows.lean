/-
  NARROWER THAN 'FOR EVERY INPUT', by the rows' own cells (each row's printed sentence says how): MethodAll: laid · MethodTable: laid · MethodNorms: laid · MethodSizes: laid.
  DERIVED. THE GIVEN ROWS OF THIS SEAT. 4 by the template 'for every input the law returns true; each argument reads behind the call as it read before'; 0 by the template 'total and deterministic' (their statements: YtpnajoehhjiigaaDoorTotals.lean).
  GIVEN WITH THE SEED: the statements are not yours to turn. If you find one false, say at which input.
  Laid BY PROGRAM, IN A SANDBOX (cutbox-rows.mjs): the forced cells as the released guide's own fill.sh prints them over the translation 551c040273f37b3f… (all of the seat's roots in one cut). By AI agents, Wed Nov 11 2026. No macro, syntax, notation, axiom, sorry.
-/
import Derived.Test.YtpnajoehhjiigaaDoorChecked
import GoSem.Claim
import GoSem.ClaimJoined
import GoSem.ClaimMapViews
import Derived.JoinedTies
import Derived.KernelRfl
namespace Go.Proofs.YtpnajoehhjiigaaDoor
/- THE CELL 'sum', in the pinned program and in every row, IS THE sha256 OF THE DUMP (.gsa) THAT YtpnajoehhjiigaaDoorProg.lean LOADS. Nothing in Lean hashes anything: it is a label: what it is worth is what the hold of that sum in a sandbox is worth. -/
noncomputable def Tryd.pinned : Pinned := { name := "ytpnajoehhjiigaadoor", sum := "551c040273f37b3f2e61c602ed8021baf0342be4945c3d37c0c96f1ce915a289", checked := Tryd.checked }
namespace Rows
def none {H : Type} : Left H := { results := [], args := [] }

/- WHAT THE LISTED PACKAGE-LEVEL VARIABLES READ AS WHEN THE CALL BEGINS. Each datum BY PROGRAM (the guide's laid-datum.mjs) off the statement by which the dump's own 'gosem.cut.vars' lays the variable. In a bare row this is a premise. The card (YtpnajoehhjiigaaDoorCards.lean) ties it to the program's text. -/
def laid_lockkeeper_method_usual {H : Type} : DataW H := .agg [.lit (.string [68, 69, 76, 69, 84, 69]), .lit (.string [71, 69, 84]), .lit (.string [72, 69, 65, 68]), .lit (.string [79, 80, 84, 73, 79, 78, 83]), .lit (.string [80, 79, 83, 84]), .lit (.string [80, 85, 84])]
def laid_lockkeeper_method_barred {H : Type} : DataW H := .agg [.lit (.string [67, 79, 78, 78, 69, 67, 84]), .lit (.string [84, 82, 65, 67, 69]), .lit (.string [84, 82, 65, 67, 75])]

/-- 'lockkeeperlaw5.MethodAll': WHATEVER THE INPUT: true; the input reads as it did. -/
def methodAllSpec : ChangeSpec := { name := "methodAll", fn := fun _ => fun
  | [d] => { results := [.lit (.bool true)], args := [d] }
  | _ => none }
def methodAllRow : OpenClaim := { program := "ytpnajoehhjiigaadoor", sum := "551c040273f37b3f2e61c602ed8021baf0342be4945c3d37c0c96f1ce915a289", func := "lockkeeper/lockkeeperlaw5.MethodAll", spec := "methodAll", named := ["lockkeeper/method.usual", "lockkeeper/method.barred"], apart := false, laid := [("lockkeeper/method.usual", laid_lockkeeper_method_usual), ("lockkeeper/method.barred", laid_lockkeeper_method_barred)] }
def MethodAllSaid : Prop := methodAllRow.holds Tryd.pinned (OpenSpec.ofChange methodAllSpec)

/-- ITS FALSE NEIGHBOUR: 'it returns false'. Refute it at one input. -/
def methodAllWrong : ChangeSpec := { name := "methodAll", fn := fun _ => fun
  | [d] => { results := [.lit (.bool false)], args := [d] }
  | _ => none }
def MethodAllWrongFalsely : Prop := methodAllRow.holds Tryd.pinned (OpenSpec.ofChange methodAllWrong)

/-- 'lockkeeperlaw5.MethodTable': WHATEVER THE INPUT: true; the input reads as it did. -/
def methodTableSpec : ChangeSpec := { name := "methodTable", fn := fun _ => fun
  | [d] => { results := [.lit (.bool true)], args := [d] }
  | _ => none }
def methodTableRow : OpenClaim := { program := "ytpnajoehhjiigaadoor", sum := "551c040273f37b3f2e61c602ed8021baf0342be4945c3d37c0c96f1ce915a289", func := "lockkeeper/lockkeeperlaw5.MethodTable", spec := "methodTable", named := ["lockkeeper/method.usual", "lockkeeper/method.barred"], apart := false, laid := [("lockkeeper/method.usual", laid_lockkeeper_method_usual), ("lockkeeper/method.barred", laid_lockkeeper_method_barred)] }
def MethodTableSaid : Prop := methodTableRow.holds Tryd.pinned (OpenSpec.ofChange methodTableSpec)

/-- ITS FALSE NEIGHBOUR: 'it returns false'. Refute it at one input. -/
def methodTableWrong : ChangeSpec := { name := "methodTable", fn := fun _ => fun
  | [d] => { results := [.lit (.bool false)], args := [d] }
  | _ => none }
def MethodTableWrongFalsely : Prop := methodTableRow.holds Tryd.pinned (OpenSpec.ofChange methodTableWrong)

/-- 'lockkeeperlaw5.MethodNorms': WHATEVER THE INPUT: true; the input reads as it did. -/
def methodNormsSpec : ChangeSpec := { name := "methodNorms", fn := fun _ => fun
  | [d] => { results := [.lit (.bool true)], args := [d] }
  | _ => none }
def methodNormsRow : OpenClaim := { program := "ytpnajoehhjiigaadoor", sum := "551c040273f37b3f2e61c602ed8021baf0342be4945c3d37c0c96f1ce915a289", func := "lockkeeper/lockkeeperlaw5.MethodNorms", spec := "methodNorms", named := ["lockkeeper/method.usual", "lockkeeper/method.barred"], apart := false, laid := [("lockkeeper/method.usual", laid_lockkeeper_method_usual), ("lockkeeper/method.barred", laid_lockkeeper_method_barred)] }
def MethodNormsSaid : Prop := methodNormsRow.holds Tryd.pinned (OpenSpec.ofChange methodNormsSpec)

/-- ITS FALSE NEIGHBOUR: 'it returns false'. Refute it at one input. -/
def methodNormsWrong : ChangeSpec := { name := "methodNorms", fn := fun _ => fun
  | [d] => { results := [.lit (.bool false)], args := [d] }
  | _ => none }
def MethodNormsWrongFalsely : Prop := methodNormsRow.holds Tryd.pinned (OpenSpec.ofChange methodNormsWrong)

/-- 'lockkeeperlaw5.MethodSizes': WHATEVER THE INPUT: true; the input reads as it did. -/
def methodSizesSpec : ChangeSpec := { name := "methodSizes", fn := fun _ => fun
  | [d] => { results := [.lit (.bool true)], args := [d] }
  | _ => none }
def methodSizesRow : OpenClaim := { program := "ytpnajoehhjiigaadoor", sum := "551c040273f37b3f2e61c602ed8021baf0342be4945c3d37c0c96f1ce915a289", func := "lockkeeper/lockkeeperlaw5.MethodSizes", spec := "methodSizes", named := ["lockkeeper/method.barred", "lockkeeper/method.usual"], apart := false, laid := [("lockkeeper/method.usual", laid_lockkeeper_method_usual), ("lockkeeper/method.barred", laid_lockkeeper_method_barred)] }
def MethodSizesSaid : Prop := methodSizesRow.holds Tryd.pinned (OpenSpec.ofChange methodSizesSpec)

/-- ITS FALSE NEIGHBOUR: 'it returns false'. Refute it at one input. -/
def methodSizesWrong : ChangeSpec := { name := "methodSizes", fn := fun _ => fun
  | [d] => { results := [.lit (.bool false)], args := [d] }
  | _ => none }
def MethodSizesWrongFalsely : Prop := methodSizesRow.holds Tryd.pinned (OpenSpec.ofChange methodSizesWrong)

/- THE SECOND FORM. 'bulk': how many values and letters a reading holds, each counted each time it is reached (what is shared counts as often as it is met; a slice's spare places count too). A statement '..UptoSaid' is the law's where the arguments, and the package variables that the reading takes, are together of bulk at most 1048576: NARROWER than '..Said'. Prove '..Said' where nothing that the law and all that it calls make is longer than what came in: it says more and counts as full. Else prove '..UptoSaid'. A law counts once. -/
mutual
def uptoBulk {H : Type} : DataW H → Nat
  | .lit (.string bytes) => bytes.length + 1
  | .lit _ => 1
  | .nil => 1
  | .ptr d => uptoBulk d + 1
  | .slice elems spare => uptoBulkAll elems + uptoBulkAll spare + 1
  | .agg parts => uptoBulkAll parts + 1
  | .iface _ d => uptoBulk d + 1
  | .map entries => uptoBulkEntries entries + 1
  | .held _ => 1
def uptoBulkAll {H : Type} : List (DataW H) → Nat
  | [] => 0
  | d :: r => uptoBulk d + uptoBulkAll r
def uptoBulkEntries {H : Type} : List (Lit × DataW H) → Nat
  | [] => 0
  | x :: r => uptoBulkEntry x + uptoBulkEntries r
def uptoBulkEntry {H : Type} : Lit × DataW H → Nat
  | (.string bytes, d) => bytes.length + uptoBulk d + 1
  | (_, d) => uptoBulk d + 1
 end
def uptoSmall : (H : Type) → List (DataW H) → Bool := fun _ ds => decide (uptoBulkAll ds ≤ 1048576)
def OpenSpec.upto (s : _root_.Go.ChangeSpec) : _root_.Go.OpenSpec := { _root_.Go.OpenSpec.ofChange s with cond := some uptoSmall }

/-- 'lockkeeperlaw5.MethodAll', WHERE WHAT IT READS IS OF BULK AT MOST 1048576: true; the input reads as it did. -/
def methodAllUptoRow : OpenClaim := { program := "ytpnajoehhjiigaadoor", sum := "551c040273f37b3f2e61c602ed8021baf0342be4945c3d37c0c96f1ce915a289", func := "lockkeeper/lockkeeperlaw5.MethodAll", spec := "methodAll", named := ["lockkeeper/method.usual", "lockkeeper/method.barred"], apart := false, laid := [("lockkeeper/method.usual", laid_lockkeeper_method_usual), ("lockkeeper/method.barred", laid_lockkeeper_method_barred)], narrowed := true }
def MethodAllUptoSaid : Prop := methodAllUptoRow.holds Tryd.pinned (OpenSpec.upto methodAllSpec)

/-- 'lockkeeperlaw5.MethodTable', WHERE WHAT IT READS IS OF BULK AT MOST 1048576: true; the input reads as it did. -/
def methodTableUptoRow : OpenClaim := { program := "ytpnajoehhjiigaadoor", sum := "551c040273f37b3f2e61c602ed8021baf0342be4945c3d37c0c96f1ce915a289", func := "lockkeeper/lockkeeperlaw5.MethodTable", spec := "methodTable", named := ["lockkeeper/method.usual", "lockkeeper/method.barred"], apart := false, laid := [("lockkeeper/method.usual", laid_lockkeeper_method_usual), ("lockkeeper/method.barred", laid_lockkeeper_method_barred)], narrowed := true }
def MethodTableUptoSaid : Prop := methodTableUptoRow.holds Tryd.pinned (OpenSpec.upto methodTableSpec)

/-- 'lockkeeperlaw5.MethodNorms', WHERE WHAT IT READS IS OF BULK AT MOST 1048576: true; the input reads as it did. -/
def methodNormsUptoRow : OpenClaim := { program := "ytpnajoehhjiigaadoor", sum := "551c040273f37b3f2e61c602ed8021baf0342be4945c3d37c0c96f1ce915a289", func := "lockkeeper/lockkeeperlaw5.MethodNorms", spec := "methodNorms", named := ["lockkeeper/method.usual", "lockkeeper/method.barred"], apart := false, laid := [("lockkeeper/method.usual", laid_lockkeeper_method_usual), ("lockkeeper/method.barred", laid_lockkeeper_method_barred)], narrowed := true }
def MethodNormsUptoSaid : Prop := methodNormsUptoRow.holds Tryd.pinned (OpenSpec.upto methodNormsSpec)

/-- 'lockkeeperlaw5.MethodSizes', WHERE WHAT IT READS IS OF BULK AT MOST 1048576: true; the input reads as it did. -/
def methodSizesUptoRow : OpenClaim := { program := "ytpnajoehhjiigaadoor", sum := "551c040273f37b3f2e61c602ed8021baf0342be4945c3d37c0c96f1ce915a289", func := "lockkeeper/lockkeeperlaw5.MethodSizes", spec := "methodSizes", named := ["lockkeeper/method.barred", "lockkeeper/method.usual"], apart := false, laid := [("lockkeeper/method.usual", laid_lockkeeper_method_usual), ("lockkeeper/method.barred", laid_lockkeeper_method_barred)], narrowed := true }
def MethodSizesUptoSaid : Prop := methodSizesUptoRow.holds Tryd.pinned (OpenSpec.upto methodSizesSpec)

end Rows
end Go.Proofs.YtpnajoehhjiigaaDoor
