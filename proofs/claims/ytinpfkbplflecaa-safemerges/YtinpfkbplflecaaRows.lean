/-
  No cell of these rows narrows 'for every input' (looked for: loops, veiled, ifaces, maps, wideKeys, modest, calm, conditions, laid).
  DERIVED. THE GIVEN ROWS OF THIS SEAT. 7 by the template 'for every input the law returns true; each argument reads behind the call as it read before'; 0 by the template 'total and deterministic' (their statements: YtinpfkbplflecaaTotals.lean).
  GIVEN WITH THE SEED: the statements are not yours to turn. If you find one false, say at which input.
  Laid BY PROGRAM, IN A SANDBOX (cutbox-rows.mjs): the forced cells as the released guide's own fill.sh prints them over the translation 9b473109bdf95bab… (all of the seat's roots in one cut). By AI agents, Wed Nov 11 2026. No macro, syntax, notation, axiom, sorry.
-/
import Derived.Test.YtinpfkbplflecaaChecked
import GoSem.Claim
import GoSem.ClaimJoined
import GoSem.ClaimMapViews
import Derived.JoinedTies
import Derived.KernelRfl
namespace Go.Proofs.Ytinpfkbplflecaa
/- THE CELL 'sum', in the pinned program and in every row, IS THE sha256 OF THE DUMP (.gsa) THAT YtinpfkbplflecaaProg.lean LOADS. Nothing in Lean hashes anything: it is a label: what it is worth is what the hold of that sum in a sandbox is worth. -/
noncomputable def Try.pinned : Pinned := { name := "ytinpfkbplflecaa", sum := "9b473109bdf95babda845f28bbd5eb4e2e74622a3a196024c41e0311767e7d31", checked := Try.checked }
namespace Rows
def none {H : Type} : Left H := { results := [], args := [] }

/-- 'lockkeeperlaw6.HeaderAll': WHATEVER THE INPUT: true; the input reads as it did. -/
def headerAllSpec : ChangeSpec := { name := "headerAll", fn := fun _ => fun
  | [d1, d2, d3, d4] => { results := [.lit (.bool true)], args := [d1, d2, d3, d4] }
  | _ => none }
def headerAllRow : OpenClaim := { program := "ytinpfkbplflecaa", sum := "9b473109bdf95babda845f28bbd5eb4e2e74622a3a196024c41e0311767e7d31", func := "lockkeeper/lockkeeperlaw6.HeaderAll", spec := "headerAll", inPlace := ["internal/abi.NoEscape", "internal/bytealg.MakeNoZero", "internal/bytealg.IndexByteString", "internal/bytealg.IndexString"], unfollowed := true, recurses := true, named := ["internal/bytealg.MaxLen"], apart := false }
def HeaderAllSaid : Prop := headerAllRow.holds Try.pinned (OpenSpec.ofChange headerAllSpec)

/-- ITS FALSE NEIGHBOUR: 'it returns false'. Refute it at one input. -/
def headerAllWrong : ChangeSpec := { name := "headerAll", fn := fun _ => fun
  | [d1, d2, d3, d4] => { results := [.lit (.bool false)], args := [d1, d2, d3, d4] }
  | _ => none }
def HeaderAllWrongFalsely : Prop := headerAllRow.holds Try.pinned (OpenSpec.ofChange headerAllWrong)

/-- 'lockkeeperlaw7.SafeAll': WHATEVER THE INPUT: true; the input reads as it did. -/
def safeAllSpec : ChangeSpec := { name := "safeAll", fn := fun _ => fun
  | [d1, d2, d3, d4] => { results := [.lit (.bool true)], args := [d1, d2, d3, d4] }
  | _ => none }
def safeAllRow : OpenClaim := { program := "ytinpfkbplflecaa", sum := "9b473109bdf95babda845f28bbd5eb4e2e74622a3a196024c41e0311767e7d31", func := "lockkeeper/lockkeeperlaw7.SafeAll", spec := "safeAll", inPlace := ["internal/bytealg.IndexByteString", "internal/bytealg.IndexString"], unfollowed := true, recurses := true, named := ["internal/bytealg.MaxLen"], apart := false }
def SafeAllSaid : Prop := safeAllRow.holds Try.pinned (OpenSpec.ofChange safeAllSpec)

/-- ITS FALSE NEIGHBOUR: 'it returns false'. Refute it at one input. -/
def safeAllWrong : ChangeSpec := { name := "safeAll", fn := fun _ => fun
  | [d1, d2, d3, d4] => { results := [.lit (.bool false)], args := [d1, d2, d3, d4] }
  | _ => none }
def SafeAllWrongFalsely : Prop := safeAllRow.holds Try.pinned (OpenSpec.ofChange safeAllWrong)

/-- 'lockkeeperlaw7.SafeRanges': WHATEVER THE INPUT: true; the input reads as it did. -/
def safeRangesSpec : ChangeSpec := { name := "safeRanges", fn := fun _ => fun
  | [d1, d2, d3] => { results := [.lit (.bool true)], args := [d1, d2, d3] }
  | _ => none }
def safeRangesRow : OpenClaim := { program := "ytinpfkbplflecaa", sum := "9b473109bdf95babda845f28bbd5eb4e2e74622a3a196024c41e0311767e7d31", func := "lockkeeper/lockkeeperlaw7.SafeRanges", spec := "safeRanges", inPlace := ["internal/bytealg.IndexByteString", "internal/bytealg.IndexString"], unfollowed := true, recurses := true, named := ["internal/bytealg.MaxLen"], apart := false }
def SafeRangesSaid : Prop := safeRangesRow.holds Try.pinned (OpenSpec.ofChange safeRangesSpec)

/-- ITS FALSE NEIGHBOUR: 'it returns false'. Refute it at one input. -/
def safeRangesWrong : ChangeSpec := { name := "safeRanges", fn := fun _ => fun
  | [d1, d2, d3] => { results := [.lit (.bool false)], args := [d1, d2, d3] }
  | _ => none }
def SafeRangesWrongFalsely : Prop := safeRangesRow.holds Try.pinned (OpenSpec.ofChange safeRangesWrong)

/-- 'lockkeeperlaw7.SafeTypes': WHATEVER THE INPUT: true; the input reads as it did. -/
def safeTypesSpec : ChangeSpec := { name := "safeTypes", fn := fun _ => fun
  | [d1, d2, d3] => { results := [.lit (.bool true)], args := [d1, d2, d3] }
  | _ => none }
def safeTypesRow : OpenClaim := { program := "ytinpfkbplflecaa", sum := "9b473109bdf95babda845f28bbd5eb4e2e74622a3a196024c41e0311767e7d31", func := "lockkeeper/lockkeeperlaw7.SafeTypes", spec := "safeTypes", inPlace := ["internal/bytealg.IndexByteString", "internal/bytealg.IndexString"], unfollowed := true, recurses := true, named := ["internal/bytealg.MaxLen"], apart := false }
def SafeTypesSaid : Prop := safeTypesRow.holds Try.pinned (OpenSpec.ofChange safeTypesSpec)

/-- ITS FALSE NEIGHBOUR: 'it returns false'. Refute it at one input. -/
def safeTypesWrong : ChangeSpec := { name := "safeTypes", fn := fun _ => fun
  | [d1, d2, d3] => { results := [.lit (.bool false)], args := [d1, d2, d3] }
  | _ => none }
def SafeTypesWrongFalsely : Prop := safeTypesRow.holds Try.pinned (OpenSpec.ofChange safeTypesWrong)

/-- 'lockkeeperlaw7.SafeSizes': WHATEVER THE INPUT: true; the input reads as it did. -/
def safeSizesSpec : ChangeSpec := { name := "safeSizes", fn := fun _ => fun
  | [d1, d2, d3] => { results := [.lit (.bool true)], args := [d1, d2, d3] }
  | _ => none }
def safeSizesRow : OpenClaim := { program := "ytinpfkbplflecaa", sum := "9b473109bdf95babda845f28bbd5eb4e2e74622a3a196024c41e0311767e7d31", func := "lockkeeper/lockkeeperlaw7.SafeSizes", spec := "safeSizes", inPlace := ["internal/bytealg.IndexByteString", "internal/bytealg.IndexString"], unfollowed := true, recurses := true, named := ["internal/bytealg.MaxLen"], apart := false }
def SafeSizesSaid : Prop := safeSizesRow.holds Try.pinned (OpenSpec.ofChange safeSizesSpec)

/-- ITS FALSE NEIGHBOUR: 'it returns false'. Refute it at one input. -/
def safeSizesWrong : ChangeSpec := { name := "safeSizes", fn := fun _ => fun
  | [d1, d2, d3] => { results := [.lit (.bool false)], args := [d1, d2, d3] }
  | _ => none }
def SafeSizesWrongFalsely : Prop := safeSizesRow.holds Try.pinned (OpenSpec.ofChange safeSizesWrong)

/-- 'lockkeeperlaw7.SafeNames': WHATEVER THE INPUT: true; the input reads as it did. -/
def safeNamesSpec : ChangeSpec := { name := "safeNames", fn := fun _ => fun
  | [d1, d2] => { results := [.lit (.bool true)], args := [d1, d2] }
  | _ => none }
def safeNamesRow : OpenClaim := { program := "ytinpfkbplflecaa", sum := "9b473109bdf95babda845f28bbd5eb4e2e74622a3a196024c41e0311767e7d31", func := "lockkeeper/lockkeeperlaw7.SafeNames", spec := "safeNames", inPlace := ["internal/bytealg.IndexByteString", "internal/bytealg.IndexString"], unfollowed := true, recurses := true, named := ["internal/bytealg.MaxLen"], apart := false }
def SafeNamesSaid : Prop := safeNamesRow.holds Try.pinned (OpenSpec.ofChange safeNamesSpec)

/-- ITS FALSE NEIGHBOUR: 'it returns false'. Refute it at one input. -/
def safeNamesWrong : ChangeSpec := { name := "safeNames", fn := fun _ => fun
  | [d1, d2] => { results := [.lit (.bool false)], args := [d1, d2] }
  | _ => none }
def SafeNamesWrongFalsely : Prop := safeNamesRow.holds Try.pinned (OpenSpec.ofChange safeNamesWrong)

/-- 'lockkeeperlaw7.SafeMerges': WHATEVER THE INPUT: true; the input reads as it did. -/
def safeMergesSpec : ChangeSpec := { name := "safeMerges", fn := fun _ => fun
  | [d1, d2] => { results := [.lit (.bool true)], args := [d1, d2] }
  | _ => none }
def safeMergesRow : OpenClaim := { program := "ytinpfkbplflecaa", sum := "9b473109bdf95babda845f28bbd5eb4e2e74622a3a196024c41e0311767e7d31", func := "lockkeeper/lockkeeperlaw7.SafeMerges", spec := "safeMerges", inPlace := ["internal/bytealg.IndexByteString", "internal/bytealg.IndexString"], unfollowed := true, recurses := true, named := ["internal/bytealg.MaxLen"], apart := false }
def SafeMergesSaid : Prop := safeMergesRow.holds Try.pinned (OpenSpec.ofChange safeMergesSpec)

/-- ITS FALSE NEIGHBOUR: 'it returns false'. Refute it at one input. -/
def safeMergesWrong : ChangeSpec := { name := "safeMerges", fn := fun _ => fun
  | [d1, d2] => { results := [.lit (.bool false)], args := [d1, d2] }
  | _ => none }
def SafeMergesWrongFalsely : Prop := safeMergesRow.holds Try.pinned (OpenSpec.ofChange safeMergesWrong)

/- THE SECOND FORM. 'bulk': how many values and letters a reading holds, each counted each time it is reached (what is shared counts as often as it is met; a slice's spare places count too). A statement '..UptoSaid' is the law's where the arguments, and the package variables that the reading takes, are together of bulk at most 1048576: NARROWER than '..Said'. Prove '..Said' where nothing that the law and all that it calls make is longer than what came in: it says more and counts as full. Else prove '..UptoSaid'. A law counts once. -/
mutual
def uptoBulk {H : Type} : DataW H → Nat
  | .lit (.string bytes) => bytes.length + 1
  | .lit _ => 1
  | .nil => 1
  | .ptr d => uptoBulk d + 1
  | .slice elems spare => uptoBulkAll elems + uptoBulkAll spare + 1
  | .agg parts => uptoBulkAll parts + 1
  | .iface _ d => uptoBulk d + 1
  | .map entries => uptoBulkEntries entries + 1
  | .held _ => 1
def uptoBulkAll {H : Type} : List (DataW H) → Nat
  | [] => 0
  | d :: r => uptoBulk d + uptoBulkAll r
def uptoBulkEntries {H : Type} : List (Lit × DataW H) → Nat
  | [] => 0
  | x :: r => uptoBulkEntry x + uptoBulkEntries r
def uptoBulkEntry {H : Type} : Lit × DataW H → Nat
  | (.string bytes, d) => bytes.length + uptoBulk d + 1
  | (_, d) => uptoBulk d + 1
 end
def uptoSmall : (H : Type) → List (DataW H) → Bool := fun _ ds => decide (uptoBulkAll ds ≤ 1048576)
def OpenSpec.upto (s : _root_.Go.ChangeSpec) : _root_.Go.OpenSpec := { _root_.Go.OpenSpec.ofChange s with cond := some uptoSmall }

/-- 'lockkeeperlaw6.HeaderAll', WHERE WHAT IT READS IS OF BULK AT MOST 1048576: true; the input reads as it did. -/
def headerAllUptoRow : OpenClaim := { program := "ytinpfkbplflecaa", sum := "9b473109bdf95babda845f28bbd5eb4e2e74622a3a196024c41e0311767e7d31", func := "lockkeeper/lockkeeperlaw6.HeaderAll", spec := "headerAll", inPlace := ["internal/abi.NoEscape", "internal/bytealg.MakeNoZero", "internal/bytealg.IndexByteString", "internal/bytealg.IndexString"], unfollowed := true, recurses := true, named := ["internal/bytealg.MaxLen"], apart := false, narrowed := true }
def HeaderAllUptoSaid : Prop := headerAllUptoRow.holds Try.pinned (OpenSpec.upto headerAllSpec)

/-- 'lockkeeperlaw7.SafeAll', WHERE WHAT IT READS IS OF BULK AT MOST 1048576: true; the input reads as it did. -/
def safeAllUptoRow : OpenClaim := { program := "ytinpfkbplflecaa", sum := "9b473109bdf95babda845f28bbd5eb4e2e74622a3a196024c41e0311767e7d31", func := "lockkeeper/lockkeeperlaw7.SafeAll", spec := "safeAll", inPlace := ["internal/bytealg.IndexByteString", "internal/bytealg.IndexString"], unfollowed := true, recurses := true, named := ["internal/bytealg.MaxLen"], apart := false, narrowed := true }
def SafeAllUptoSaid : Prop := safeAllUptoRow.holds Try.pinned (OpenSpec.upto safeAllSpec)

/-- 'lockkeeperlaw7.SafeRanges', WHERE WHAT IT READS IS OF BULK AT MOST 1048576: true; the input reads as it did. -/
def safeRangesUptoRow : OpenClaim := { program := "ytinpfkbplflecaa", sum := "9b473109bdf95babda845f28bbd5eb4e2e74622a3a196024c41e0311767e7d31", func := "lockkeeper/lockkeeperlaw7.SafeRanges", spec := "safeRanges", inPlace := ["internal/bytealg.IndexByteString", "internal/bytealg.IndexString"], unfollowed := true, recurses := true, named := ["internal/bytealg.MaxLen"], apart := false, narrowed := true }
def SafeRangesUptoSaid : Prop := safeRangesUptoRow.holds Try.pinned (OpenSpec.upto safeRangesSpec)

/-- 'lockkeeperlaw7.SafeTypes', WHERE WHAT IT READS IS OF BULK AT MOST 1048576: true; the input reads as it did. -/
def safeTypesUptoRow : OpenClaim := { program := "ytinpfkbplflecaa", sum := "9b473109bdf95babda845f28bbd5eb4e2e74622a3a196024c41e0311767e7d31", func := "lockkeeper/lockkeeperlaw7.SafeTypes", spec := "safeTypes", inPlace := ["internal/bytealg.IndexByteString", "internal/bytealg.IndexString"], unfollowed := true, recurses := true, named := ["internal/bytealg.MaxLen"], apart := false, narrowed := true }
def SafeTypesUptoSaid : Prop := safeTypesUptoRow.holds Try.pinned (OpenSpec.upto safeTypesSpec)

/-- 'lockkeeperlaw7.SafeSizes', WHERE WHAT IT READS IS OF BULK AT MOST 1048576: true; the input reads as it did. -/
def safeSizesUptoRow : OpenClaim := { program := "ytinpfkbplflecaa", sum := "9b473109bdf95babda845f28bbd5eb4e2e74622a3a196024c41e0311767e7d31", func := "lockkeeper/lockkeeperlaw7.SafeSizes", spec := "safeSizes", inPlace := ["internal/bytealg.IndexByteString", "internal/bytealg.IndexString"], unfollowed := true, recurses := true, named := ["internal/bytealg.MaxLen"], apart := false, narrowed := true }
def SafeSizesUptoSaid : Prop := safeSizesUptoRow.holds Try.pinned (OpenSpec.upto safeSizesSpec)

/-- 'lockkeeperlaw7.SafeNames', WHERE WHAT IT READS IS OF BULK AT MOST 1048576: true; the input reads as it did. -/
def safeNamesUptoRow : OpenClaim := { program := "ytinpfkbplflecaa", sum := "9b473109bdf95babda845f28bbd5eb4e2e74622a3a196024c41e0311767e7d31", func := "lockkeeper/lockkeeperlaw7.SafeNames", spec := "safeNames", inPlace := ["internal/bytealg.IndexByteString", "internal/bytealg.IndexString"], unfollowed := true, recurses := true, named := ["internal/bytealg.MaxLen"], apart := false, narrowed := true }
def SafeNamesUptoSaid : Prop := safeNamesUptoRow.holds Try.pinned (OpenSpec.upto safeNamesSpec)

/-- 'lockkeeperlaw7.SafeMerges', WHERE WHAT IT READS IS OF BULK AT MOST 1048576: true; the input reads as it did. -/
def safeMergesUptoRow : OpenClaim := { program := "ytinpfkbplflecaa", sum := "9b473109bdf95babda845f28bbd5eb4e2e74622a3a196024c41e0311767e7d31", func := "lockkeeper/lockkeeperlaw7.SafeMerges", spec := "safeMerges", inPlace := ["internal/bytealg.IndexByteString", "internal/bytealg.IndexString"], unfollowed := true, recurses := true, named := ["internal/bytealg.MaxLen"], apart := false, narrowed := true }
def SafeMergesUptoSaid : Prop := safeMergesUptoRow.holds Try.pinned (OpenSpec.upto safeMergesSpec)

end Rows
end Go.Proofs.Ytinpfkbplflecaa
