/-
  NARROWER THAN 'FOR EVERY INPUT', by the rows' own cells (each row's printed sentence says how): AllowAll: laid · AllowStars: laid · AllowAges: laid · AllowNames: laid.
  DERIVED. THE GIVEN ROWS OF THIS SEAT. 4 by the template 'for every input the law returns true; each argument reads behind the call as it read before'; 0 by the template 'total and deterministic' (their statements: YtnoiciakbbkngaaDoorTotals.lean).
  GIVEN WITH THE SEED: the statements are not yours to turn. If you find one false, say at which input.
  Laid BY PROGRAM, IN A SANDBOX (cutbox-rows.mjs): the forced cells as the released guide's own fill.sh prints them over the translation f57805b9bf96c6bf… (all of the seat's roots in one cut). By AI agents, Wed Nov 11 2026. No macro, syntax, notation, axiom, sorry.
-/
import Derived.Test.YtnoiciakbbkngaaDoorChecked
import GoSem.Claim
import GoSem.ClaimJoined
import GoSem.ClaimMapViews
import Derived.JoinedTies
import Derived.KernelRfl
namespace Go.Proofs.YtnoiciakbbkngaaDoor
/- THE CELL 'sum', in the pinned program and in every row, IS THE sha256 OF THE DUMP (.gsa) THAT YtnoiciakbbkngaaDoorProg.lean LOADS. Nothing in Lean hashes anything: it is a label: what it is worth is what the hold of that sum in a sandbox is worth. -/
noncomputable def Tryd.pinned : Pinned := { name := "ytnoiciakbbkngaadoor", sum := "f57805b9bf96c6bfafa7dd8092fcc2e5e13bca6e979f7417e230440692f4c9fd", checked := Tryd.checked }
namespace Rows
def none {H : Type} : Left H := { results := [], args := [] }

/- WHAT THE LISTED PACKAGE-LEVEL VARIABLES READ AS WHEN THE CALL BEGINS. Each datum BY PROGRAM (the guide's laid-datum.mjs) off the statement by which the dump's own 'gosem.cut.vars' lays the variable. In a bare row this is a premise. The card (YtnoiciakbbkngaaDoorCards.lean) ties it to the program's text. -/
def laid_lockkeeper_method_usual {H : Type} : DataW H := .agg [.lit (.string [68, 69, 76, 69, 84, 69]), .lit (.string [71, 69, 84]), .lit (.string [72, 69, 65, 68]), .lit (.string [79, 80, 84, 73, 79, 78, 83]), .lit (.string [80, 79, 83, 84]), .lit (.string [80, 85, 84])]

/-- 'lockkeeperlaw14.AllowAll': WHATEVER THE INPUT: true; the input reads as it did. -/
def allowAllSpec : ChangeSpec := { name := "allowAll", fn := fun _ => fun
  | [d1, d2, d3, d4] => { results := [.lit (.bool true)], args := [d1, d2, d3, d4] }
  | _ => none }
def allowAllRow : OpenClaim := { program := "ytnoiciakbbkngaadoor", sum := "f57805b9bf96c6bfafa7dd8092fcc2e5e13bca6e979f7417e230440692f4c9fd", func := "lockkeeper/lockkeeperlaw14.AllowAll", spec := "allowAll", inPlace := ["internal/abi.NoEscape", "internal/bytealg.MakeNoZero", "internal/bytealg.IndexByteString", "internal/bytealg.IndexString"], named := ["internal/bytealg.MaxLen", "lockkeeper/method.usual"], apart := false, laid := [("lockkeeper/method.usual", laid_lockkeeper_method_usual)] }
def AllowAllSaid : Prop := allowAllRow.holds Tryd.pinned (OpenSpec.ofChange allowAllSpec)

/-- ITS FALSE NEIGHBOUR: 'it returns false'. Refute it at one input. -/
def allowAllWrong : ChangeSpec := { name := "allowAll", fn := fun _ => fun
  | [d1, d2, d3, d4] => { results := [.lit (.bool false)], args := [d1, d2, d3, d4] }
  | _ => none }
def AllowAllWrongFalsely : Prop := allowAllRow.holds Tryd.pinned (OpenSpec.ofChange allowAllWrong)

/-- 'lockkeeperlaw14.AllowStars': WHATEVER THE INPUT: true; the input reads as it did. -/
def allowStarsSpec : ChangeSpec := { name := "allowStars", fn := fun _ => fun
  | [d1, d2, d3] => { results := [.lit (.bool true)], args := [d1, d2, d3] }
  | _ => none }
def allowStarsRow : OpenClaim := { program := "ytnoiciakbbkngaadoor", sum := "f57805b9bf96c6bfafa7dd8092fcc2e5e13bca6e979f7417e230440692f4c9fd", func := "lockkeeper/lockkeeperlaw14.AllowStars", spec := "allowStars", inPlace := ["internal/abi.NoEscape", "internal/bytealg.MakeNoZero", "internal/bytealg.IndexByteString", "internal/bytealg.IndexString"], named := ["internal/bytealg.MaxLen", "lockkeeper/method.usual"], apart := false, laid := [("lockkeeper/method.usual", laid_lockkeeper_method_usual)] }
def AllowStarsSaid : Prop := allowStarsRow.holds Tryd.pinned (OpenSpec.ofChange allowStarsSpec)

/-- ITS FALSE NEIGHBOUR: 'it returns false'. Refute it at one input. -/
def allowStarsWrong : ChangeSpec := { name := "allowStars", fn := fun _ => fun
  | [d1, d2, d3] => { results := [.lit (.bool false)], args := [d1, d2, d3] }
  | _ => none }
def AllowStarsWrongFalsely : Prop := allowStarsRow.holds Tryd.pinned (OpenSpec.ofChange allowStarsWrong)

/-- 'lockkeeperlaw14.AllowAges': WHATEVER THE INPUT: true; the input reads as it did. -/
def allowAgesSpec : ChangeSpec := { name := "allowAges", fn := fun _ => fun
  | [d1, d2, d3] => { results := [.lit (.bool true)], args := [d1, d2, d3] }
  | _ => none }
def allowAgesRow : OpenClaim := { program := "ytnoiciakbbkngaadoor", sum := "f57805b9bf96c6bfafa7dd8092fcc2e5e13bca6e979f7417e230440692f4c9fd", func := "lockkeeper/lockkeeperlaw14.AllowAges", spec := "allowAges", inPlace := ["internal/abi.NoEscape", "internal/bytealg.MakeNoZero", "internal/bytealg.IndexByteString", "internal/bytealg.IndexString"], named := ["internal/bytealg.MaxLen", "lockkeeper/method.usual"], apart := false, laid := [("lockkeeper/method.usual", laid_lockkeeper_method_usual)] }
def AllowAgesSaid : Prop := allowAgesRow.holds Tryd.pinned (OpenSpec.ofChange allowAgesSpec)

/-- ITS FALSE NEIGHBOUR: 'it returns false'. Refute it at one input. -/
def allowAgesWrong : ChangeSpec := { name := "allowAges", fn := fun _ => fun
  | [d1, d2, d3] => { results := [.lit (.bool false)], args := [d1, d2, d3] }
  | _ => none }
def AllowAgesWrongFalsely : Prop := allowAgesRow.holds Tryd.pinned (OpenSpec.ofChange allowAgesWrong)

/-- 'lockkeeperlaw14.AllowNames': WHATEVER THE INPUT: true; the input reads as it did. -/
def allowNamesSpec : ChangeSpec := { name := "allowNames", fn := fun _ => fun
  | [d1, d2, d3] => { results := [.lit (.bool true)], args := [d1, d2, d3] }
  | _ => none }
def allowNamesRow : OpenClaim := { program := "ytnoiciakbbkngaadoor", sum := "f57805b9bf96c6bfafa7dd8092fcc2e5e13bca6e979f7417e230440692f4c9fd", func := "lockkeeper/lockkeeperlaw14.AllowNames", spec := "allowNames", inPlace := ["internal/abi.NoEscape", "internal/bytealg.MakeNoZero", "internal/bytealg.IndexByteString", "internal/bytealg.IndexString"], named := ["internal/bytealg.MaxLen", "lockkeeper/method.usual"], apart := false, laid := [("lockkeeper/method.usual", laid_lockkeeper_method_usual)] }
def AllowNamesSaid : Prop := allowNamesRow.holds Tryd.pinned (OpenSpec.ofChange allowNamesSpec)

/-- ITS FALSE NEIGHBOUR: 'it returns false'. Refute it at one input. -/
def allowNamesWrong : ChangeSpec := { name := "allowNames", fn := fun _ => fun
  | [d1, d2, d3] => { results := [.lit (.bool false)], args := [d1, d2, d3] }
  | _ => none }
def AllowNamesWrongFalsely : Prop := allowNamesRow.holds Tryd.pinned (OpenSpec.ofChange allowNamesWrong)

/- THE SECOND FORM. 'bulk': how many values and letters a reading holds, each counted each time it is reached (what is shared counts as often as it is met; a slice's spare places count too). A statement '..UptoSaid' is the law's where the arguments, and the package variables that the reading takes, are together of bulk at most 1048576: NARROWER than '..Said'. Prove '..Said' where nothing that the law and all that it calls make is longer than what came in: it says more and counts as full. Else prove '..UptoSaid'. A law counts once. -/
mutual
def uptoBulk {H : Type} : DataW H → Nat
  | .lit (.string bytes) => bytes.length + 1
  | .lit _ => 1
  | .nil => 1
  | .ptr d => uptoBulk d + 1
  | .slice elems spare => uptoBulkAll elems + uptoBulkAll spare + 1
  | .agg parts => uptoBulkAll parts + 1
  | .iface _ d => uptoBulk d + 1
  | .map entries => uptoBulkEntries entries + 1
  | .held _ => 1
def uptoBulkAll {H : Type} : List (DataW H) → Nat
  | [] => 0
  | d :: r => uptoBulk d + uptoBulkAll r
def uptoBulkEntries {H : Type} : List (Lit × DataW H) → Nat
  | [] => 0
  | x :: r => uptoBulkEntry x + uptoBulkEntries r
def uptoBulkEntry {H : Type} : Lit × DataW H → Nat
  | (.string bytes, d) => bytes.length + uptoBulk d + 1
  | (_, d) => uptoBulk d + 1
 end
def uptoSmall : (H : Type) → List (DataW H) → Bool := fun _ ds => decide (uptoBulkAll ds ≤ 1048576)
def OpenSpec.upto (s : _root_.Go.ChangeSpec) : _root_.Go.OpenSpec := { _root_.Go.OpenSpec.ofChange s with cond := some uptoSmall }

/-- 'lockkeeperlaw14.AllowAll', WHERE WHAT IT READS IS OF BULK AT MOST 1048576: true; the input reads as it did. -/
def allowAllUptoRow : OpenClaim := { program := "ytnoiciakbbkngaadoor", sum := "f57805b9bf96c6bfafa7dd8092fcc2e5e13bca6e979f7417e230440692f4c9fd", func := "lockkeeper/lockkeeperlaw14.AllowAll", spec := "allowAll", inPlace := ["internal/abi.NoEscape", "internal/bytealg.MakeNoZero", "internal/bytealg.IndexByteString", "internal/bytealg.IndexString"], named := ["internal/bytealg.MaxLen", "lockkeeper/method.usual"], apart := false, laid := [("lockkeeper/method.usual", laid_lockkeeper_method_usual)], narrowed := true }
def AllowAllUptoSaid : Prop := allowAllUptoRow.holds Tryd.pinned (OpenSpec.upto allowAllSpec)

/-- 'lockkeeperlaw14.AllowStars', WHERE WHAT IT READS IS OF BULK AT MOST 1048576: true; the input reads as it did. -/
def allowStarsUptoRow : OpenClaim := { program := "ytnoiciakbbkngaadoor", sum := "f57805b9bf96c6bfafa7dd8092fcc2e5e13bca6e979f7417e230440692f4c9fd", func := "lockkeeper/lockkeeperlaw14.AllowStars", spec := "allowStars", inPlace := ["internal/abi.NoEscape", "internal/bytealg.MakeNoZero", "internal/bytealg.IndexByteString", "internal/bytealg.IndexString"], named := ["internal/bytealg.MaxLen", "lockkeeper/method.usual"], apart := false, laid := [("lockkeeper/method.usual", laid_lockkeeper_method_usual)], narrowed := true }
def AllowStarsUptoSaid : Prop := allowStarsUptoRow.holds Tryd.pinned (OpenSpec.upto allowStarsSpec)

/-- 'lockkeeperlaw14.AllowAges', WHERE WHAT IT READS IS OF BULK AT MOST 1048576: true; the input reads as it did. -/
def allowAgesUptoRow : OpenClaim := { program := "ytnoiciakbbkngaadoor", sum := "f57805b9bf96c6bfafa7dd8092fcc2e5e13bca6e979f7417e230440692f4c9fd", func := "lockkeeper/lockkeeperlaw14.AllowAges", spec := "allowAges", inPlace := ["internal/abi.NoEscape", "internal/bytealg.MakeNoZero", "internal/bytealg.IndexByteString", "internal/bytealg.IndexString"], named := ["internal/bytealg.MaxLen", "lockkeeper/method.usual"], apart := false, laid := [("lockkeeper/method.usual", laid_lockkeeper_method_usual)], narrowed := true }
def AllowAgesUptoSaid : Prop := allowAgesUptoRow.holds Tryd.pinned (OpenSpec.upto allowAgesSpec)

/-- 'lockkeeperlaw14.AllowNames', WHERE WHAT IT READS IS OF BULK AT MOST 1048576: true; the input reads as it did. -/
def allowNamesUptoRow : OpenClaim := { program := "ytnoiciakbbkngaadoor", sum := "f57805b9bf96c6bfafa7dd8092fcc2e5e13bca6e979f7417e230440692f4c9fd", func := "lockkeeper/lockkeeperlaw14.AllowNames", spec := "allowNames", inPlace := ["internal/abi.NoEscape", "internal/bytealg.MakeNoZero", "internal/bytealg.IndexByteString", "internal/bytealg.IndexString"], named := ["internal/bytealg.MaxLen", "lockkeeper/method.usual"], apart := false, laid := [("lockkeeper/method.usual", laid_lockkeeper_method_usual)], narrowed := true }
def AllowNamesUptoSaid : Prop := allowNamesUptoRow.holds Tryd.pinned (OpenSpec.upto allowNamesSpec)

end Rows
end Go.Proofs.YtnoiciakbbkngaaDoor
