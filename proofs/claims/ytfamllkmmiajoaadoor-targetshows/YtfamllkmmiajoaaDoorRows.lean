/-
  NARROWER THAN 'FOR EVERY INPUT', by the rows' own cells (each row's printed sentence says how): TargetAll: laid · TargetShows: laid · TargetBack: laid · TargetCleans: laid · TargetSegments: laid · TargetFragments: laid · TargetUps: laid · TargetOrigins: laid.
  DERIVED. THE GIVEN ROWS OF THIS SEAT. 8 by the template 'for every input the law returns true; each argument reads behind the call as it read before'; 0 by the template 'total and deterministic' (their statements: YtfamllkmmiajoaaDoorTotals.lean).
  GIVEN WITH THE SEED: the statements are not yours to turn. If you find one false, say at which input.
  Laid BY PROGRAM, IN A SANDBOX (cutbox-rows.mjs): the forced cells as the released guide's own fill.sh prints them over the translation 0afe6e08f2021c5a… (all of the seat's roots in one cut). By AI agents, Wed Nov 11 2026. No macro, syntax, notation, axiom, sorry.
-/
import Derived.Test.YtfamllkmmiajoaaDoorChecked
import GoSem.Claim
import GoSem.ClaimJoined
import GoSem.ClaimMapViews
import Derived.JoinedTies
import Derived.KernelRfl
namespace Go.Proofs.YtfamllkmmiajoaaDoor
/- THE CELL 'sum', in the pinned program and in every row, IS THE sha256 OF THE DUMP (.gsa) THAT YtfamllkmmiajoaaDoorProg.lean LOADS. Nothing in Lean hashes anything: it is a label: what it is worth is what the hold of that sum in a sandbox is worth. -/
noncomputable def Tryd.pinned : Pinned := { name := "ytfamllkmmiajoaadoor", sum := "0afe6e08f2021c5aa319ee4723b9d028cfd9991e03be8f65d85192de2174da86", checked := Tryd.checked }
namespace Rows
def none {H : Type} : Left H := { results := [], args := [] }

/- WHAT THE LISTED PACKAGE-LEVEL VARIABLES READ AS WHEN THE CALL BEGINS. Each datum BY PROGRAM (the guide's laid-datum.mjs) off the statement by which the dump's own 'gosem.cut.vars' lays the variable. In a bare row this is a premise. The card (YtfamllkmmiajoaaDoorCards.lean) ties it to the program's text. -/
def laid_math_bits_deBruijn32tab {H : Type} : DataW H := .agg [.lit (.int .u8 0), .lit (.int .u8 1), .lit (.int .u8 28), .lit (.int .u8 2), .lit (.int .u8 29), .lit (.int .u8 14), .lit (.int .u8 24), .lit (.int .u8 3), .lit (.int .u8 30), .lit (.int .u8 22), .lit (.int .u8 20), .lit (.int .u8 15), .lit (.int .u8 25), .lit (.int .u8 17), .lit (.int .u8 4), .lit (.int .u8 8), .lit (.int .u8 31), .lit (.int .u8 27), .lit (.int .u8 13), .lit (.int .u8 23), .lit (.int .u8 21), .lit (.int .u8 19), .lit (.int .u8 16), .lit (.int .u8 7), .lit (.int .u8 26), .lit (.int .u8 12), .lit (.int .u8 18), .lit (.int .u8 6), .lit (.int .u8 11), .lit (.int .u8 5), .lit (.int .u8 10), .lit (.int .u8 9)]
def laid_math_bits_deBruijn64tab {H : Type} : DataW H := .agg [.lit (.int .u8 0), .lit (.int .u8 1), .lit (.int .u8 56), .lit (.int .u8 2), .lit (.int .u8 57), .lit (.int .u8 49), .lit (.int .u8 28), .lit (.int .u8 3), .lit (.int .u8 61), .lit (.int .u8 58), .lit (.int .u8 42), .lit (.int .u8 50), .lit (.int .u8 38), .lit (.int .u8 29), .lit (.int .u8 17), .lit (.int .u8 4), .lit (.int .u8 62), .lit (.int .u8 47), .lit (.int .u8 59), .lit (.int .u8 36), .lit (.int .u8 45), .lit (.int .u8 43), .lit (.int .u8 51), .lit (.int .u8 22), .lit (.int .u8 53), .lit (.int .u8 39), .lit (.int .u8 33), .lit (.int .u8 30), .lit (.int .u8 24), .lit (.int .u8 18), .lit (.int .u8 12), .lit (.int .u8 5), .lit (.int .u8 63), .lit (.int .u8 55), .lit (.int .u8 48), .lit (.int .u8 27), .lit (.int .u8 60), .lit (.int .u8 41), .lit (.int .u8 37), .lit (.int .u8 16), .lit (.int .u8 46), .lit (.int .u8 35), .lit (.int .u8 44), .lit (.int .u8 21), .lit (.int .u8 52), .lit (.int .u8 32), .lit (.int .u8 23), .lit (.int .u8 11), .lit (.int .u8 54), .lit (.int .u8 26), .lit (.int .u8 40), .lit (.int .u8 15), .lit (.int .u8 34), .lit (.int .u8 20), .lit (.int .u8 31), .lit (.int .u8 10), .lit (.int .u8 25), .lit (.int .u8 14), .lit (.int .u8 19), .lit (.int .u8 9), .lit (.int .u8 13), .lit (.int .u8 8), .lit (.int .u8 7), .lit (.int .u8 6)]
def laid_internal_strconv_uint64pow10 {H : Type} : DataW H := .agg [.lit (.int .u64 1), .lit (.int .u64 10), .lit (.int .u64 100), .lit (.int .u64 1000), .lit (.int .u64 10000), .lit (.int .u64 100000), .lit (.int .u64 1000000), .lit (.int .u64 10000000), .lit (.int .u64 100000000), .lit (.int .u64 1000000000), .lit (.int .u64 10000000000), .lit (.int .u64 100000000000), .lit (.int .u64 1000000000000), .lit (.int .u64 10000000000000), .lit (.int .u64 100000000000000), .lit (.int .u64 1000000000000000), .lit (.int .u64 10000000000000000), .lit (.int .u64 100000000000000000), .lit (.int .u64 1000000000000000000), .lit (.int .u64 10000000000000000000)]

/-- 'lockkeeperlaw4.TargetAll': WHATEVER THE INPUT: true; the input reads as it did. -/
def targetAllSpec : ChangeSpec := { name := "targetAll", fn := fun _ => fun
  | [d] => { results := [.lit (.bool true)], args := [d] }
  | _ => none }
def targetAllRow : OpenClaim := { program := "ytfamllkmmiajoaadoor", sum := "0afe6e08f2021c5aa319ee4723b9d028cfd9991e03be8f65d85192de2174da86", func := "lockkeeper/lockkeeperlaw4.TargetAll", spec := "targetAll", inPlace := ["internal/bytealg.IndexByteString", "internal/bytealg.IndexString"], named := ["internal/bytealg.MaxLen", "internal/strconv.uint64pow10", "math/bits.deBruijn32tab", "math/bits.deBruijn64tab"], apart := false, laid := [("math/bits.deBruijn32tab", laid_math_bits_deBruijn32tab), ("math/bits.deBruijn64tab", laid_math_bits_deBruijn64tab), ("internal/strconv.uint64pow10", laid_internal_strconv_uint64pow10)] }
def TargetAllSaid : Prop := targetAllRow.holds Tryd.pinned (OpenSpec.ofChange targetAllSpec)

/-- ITS FALSE NEIGHBOUR: 'it returns false'. Refute it at one input. -/
def targetAllWrong : ChangeSpec := { name := "targetAll", fn := fun _ => fun
  | [d] => { results := [.lit (.bool false)], args := [d] }
  | _ => none }
def TargetAllWrongFalsely : Prop := targetAllRow.holds Tryd.pinned (OpenSpec.ofChange targetAllWrong)

/-- 'lockkeeperlaw4.TargetShows': WHATEVER THE INPUT: true; the input reads as it did. -/
def targetShowsSpec : ChangeSpec := { name := "targetShows", fn := fun _ => fun
  | [d] => { results := [.lit (.bool true)], args := [d] }
  | _ => none }
def targetShowsRow : OpenClaim := { program := "ytfamllkmmiajoaadoor", sum := "0afe6e08f2021c5aa319ee4723b9d028cfd9991e03be8f65d85192de2174da86", func := "lockkeeper/lockkeeperlaw4.TargetShows", spec := "targetShows", inPlace := ["internal/bytealg.IndexByteString", "internal/bytealg.IndexString"], named := ["internal/bytealg.MaxLen", "internal/strconv.uint64pow10", "math/bits.deBruijn32tab", "math/bits.deBruijn64tab"], apart := false, laid := [("math/bits.deBruijn32tab", laid_math_bits_deBruijn32tab), ("math/bits.deBruijn64tab", laid_math_bits_deBruijn64tab), ("internal/strconv.uint64pow10", laid_internal_strconv_uint64pow10)] }
def TargetShowsSaid : Prop := targetShowsRow.holds Tryd.pinned (OpenSpec.ofChange targetShowsSpec)

/-- ITS FALSE NEIGHBOUR: 'it returns false'. Refute it at one input. -/
def targetShowsWrong : ChangeSpec := { name := "targetShows", fn := fun _ => fun
  | [d] => { results := [.lit (.bool false)], args := [d] }
  | _ => none }
def TargetShowsWrongFalsely : Prop := targetShowsRow.holds Tryd.pinned (OpenSpec.ofChange targetShowsWrong)

/-- 'lockkeeperlaw4.TargetBack': WHATEVER THE INPUT: true; the input reads as it did. -/
def targetBackSpec : ChangeSpec := { name := "targetBack", fn := fun _ => fun
  | [d1, d2] => { results := [.lit (.bool true)], args := [d1, d2] }
  | _ => none }
def targetBackRow : OpenClaim := { program := "ytfamllkmmiajoaadoor", sum := "0afe6e08f2021c5aa319ee4723b9d028cfd9991e03be8f65d85192de2174da86", func := "lockkeeper/lockkeeperlaw4.TargetBack", spec := "targetBack", inPlace := ["internal/bytealg.IndexByteString", "internal/bytealg.IndexString"], named := ["internal/bytealg.MaxLen", "internal/strconv.uint64pow10", "math/bits.deBruijn32tab", "math/bits.deBruijn64tab"], apart := false, laid := [("math/bits.deBruijn32tab", laid_math_bits_deBruijn32tab), ("math/bits.deBruijn64tab", laid_math_bits_deBruijn64tab), ("internal/strconv.uint64pow10", laid_internal_strconv_uint64pow10)] }
def TargetBackSaid : Prop := targetBackRow.holds Tryd.pinned (OpenSpec.ofChange targetBackSpec)

/-- ITS FALSE NEIGHBOUR: 'it returns false'. Refute it at one input. -/
def targetBackWrong : ChangeSpec := { name := "targetBack", fn := fun _ => fun
  | [d1, d2] => { results := [.lit (.bool false)], args := [d1, d2] }
  | _ => none }
def TargetBackWrongFalsely : Prop := targetBackRow.holds Tryd.pinned (OpenSpec.ofChange targetBackWrong)

/-- 'lockkeeperlaw4.TargetCleans': WHATEVER THE INPUT: true; the input reads as it did. -/
def targetCleansSpec : ChangeSpec := { name := "targetCleans", fn := fun _ => fun
  | [d] => { results := [.lit (.bool true)], args := [d] }
  | _ => none }
def targetCleansRow : OpenClaim := { program := "ytfamllkmmiajoaadoor", sum := "0afe6e08f2021c5aa319ee4723b9d028cfd9991e03be8f65d85192de2174da86", func := "lockkeeper/lockkeeperlaw4.TargetCleans", spec := "targetCleans", inPlace := ["internal/bytealg.IndexByteString", "internal/bytealg.IndexString"], named := ["internal/bytealg.MaxLen", "internal/strconv.uint64pow10", "math/bits.deBruijn32tab", "math/bits.deBruijn64tab"], apart := false, laid := [("math/bits.deBruijn32tab", laid_math_bits_deBruijn32tab), ("math/bits.deBruijn64tab", laid_math_bits_deBruijn64tab), ("internal/strconv.uint64pow10", laid_internal_strconv_uint64pow10)] }
def TargetCleansSaid : Prop := targetCleansRow.holds Tryd.pinned (OpenSpec.ofChange targetCleansSpec)

/-- ITS FALSE NEIGHBOUR: 'it returns false'. Refute it at one input. -/
def targetCleansWrong : ChangeSpec := { name := "targetCleans", fn := fun _ => fun
  | [d] => { results := [.lit (.bool false)], args := [d] }
  | _ => none }
def TargetCleansWrongFalsely : Prop := targetCleansRow.holds Tryd.pinned (OpenSpec.ofChange targetCleansWrong)

/-- 'lockkeeperlaw4.TargetSegments': WHATEVER THE INPUT: true; the input reads as it did. -/
def targetSegmentsSpec : ChangeSpec := { name := "targetSegments", fn := fun _ => fun
  | [d1, d2] => { results := [.lit (.bool true)], args := [d1, d2] }
  | _ => none }
def targetSegmentsRow : OpenClaim := { program := "ytfamllkmmiajoaadoor", sum := "0afe6e08f2021c5aa319ee4723b9d028cfd9991e03be8f65d85192de2174da86", func := "lockkeeper/lockkeeperlaw4.TargetSegments", spec := "targetSegments", inPlace := ["internal/bytealg.IndexByteString", "internal/bytealg.IndexString"], named := ["internal/bytealg.MaxLen", "internal/strconv.uint64pow10", "math/bits.deBruijn32tab", "math/bits.deBruijn64tab"], apart := false, laid := [("math/bits.deBruijn32tab", laid_math_bits_deBruijn32tab), ("math/bits.deBruijn64tab", laid_math_bits_deBruijn64tab), ("internal/strconv.uint64pow10", laid_internal_strconv_uint64pow10)] }
def TargetSegmentsSaid : Prop := targetSegmentsRow.holds Tryd.pinned (OpenSpec.ofChange targetSegmentsSpec)

/-- ITS FALSE NEIGHBOUR: 'it returns false'. Refute it at one input. -/
def targetSegmentsWrong : ChangeSpec := { name := "targetSegments", fn := fun _ => fun
  | [d1, d2] => { results := [.lit (.bool false)], args := [d1, d2] }
  | _ => none }
def TargetSegmentsWrongFalsely : Prop := targetSegmentsRow.holds Tryd.pinned (OpenSpec.ofChange targetSegmentsWrong)

/-- 'lockkeeperlaw4.TargetFragments': WHATEVER THE INPUT: true; the input reads as it did. -/
def targetFragmentsSpec : ChangeSpec := { name := "targetFragments", fn := fun _ => fun
  | [d1, d2] => { results := [.lit (.bool true)], args := [d1, d2] }
  | _ => none }
def targetFragmentsRow : OpenClaim := { program := "ytfamllkmmiajoaadoor", sum := "0afe6e08f2021c5aa319ee4723b9d028cfd9991e03be8f65d85192de2174da86", func := "lockkeeper/lockkeeperlaw4.TargetFragments", spec := "targetFragments", inPlace := ["internal/bytealg.IndexByteString", "internal/bytealg.IndexString"], named := ["internal/bytealg.MaxLen", "internal/strconv.uint64pow10", "math/bits.deBruijn32tab", "math/bits.deBruijn64tab"], apart := false, laid := [("math/bits.deBruijn32tab", laid_math_bits_deBruijn32tab), ("math/bits.deBruijn64tab", laid_math_bits_deBruijn64tab), ("internal/strconv.uint64pow10", laid_internal_strconv_uint64pow10)] }
def TargetFragmentsSaid : Prop := targetFragmentsRow.holds Tryd.pinned (OpenSpec.ofChange targetFragmentsSpec)

/-- ITS FALSE NEIGHBOUR: 'it returns false'. Refute it at one input. -/
def targetFragmentsWrong : ChangeSpec := { name := "targetFragments", fn := fun _ => fun
  | [d1, d2] => { results := [.lit (.bool false)], args := [d1, d2] }
  | _ => none }
def TargetFragmentsWrongFalsely : Prop := targetFragmentsRow.holds Tryd.pinned (OpenSpec.ofChange targetFragmentsWrong)

/-- 'lockkeeperlaw4.TargetUps': WHATEVER THE INPUT: true; the input reads as it did. -/
def targetUpsSpec : ChangeSpec := { name := "targetUps", fn := fun _ => fun
  | [d1, d2] => { results := [.lit (.bool true)], args := [d1, d2] }
  | _ => none }
def targetUpsRow : OpenClaim := { program := "ytfamllkmmiajoaadoor", sum := "0afe6e08f2021c5aa319ee4723b9d028cfd9991e03be8f65d85192de2174da86", func := "lockkeeper/lockkeeperlaw4.TargetUps", spec := "targetUps", inPlace := ["internal/bytealg.IndexByteString", "internal/bytealg.IndexString"], named := ["internal/bytealg.MaxLen", "internal/strconv.uint64pow10", "math/bits.deBruijn32tab", "math/bits.deBruijn64tab"], apart := false, laid := [("math/bits.deBruijn32tab", laid_math_bits_deBruijn32tab), ("math/bits.deBruijn64tab", laid_math_bits_deBruijn64tab), ("internal/strconv.uint64pow10", laid_internal_strconv_uint64pow10)] }
def TargetUpsSaid : Prop := targetUpsRow.holds Tryd.pinned (OpenSpec.ofChange targetUpsSpec)

/-- ITS FALSE NEIGHBOUR: 'it returns false'. Refute it at one input. -/
def targetUpsWrong : ChangeSpec := { name := "targetUps", fn := fun _ => fun
  | [d1, d2] => { results := [.lit (.bool false)], args := [d1, d2] }
  | _ => none }
def TargetUpsWrongFalsely : Prop := targetUpsRow.holds Tryd.pinned (OpenSpec.ofChange targetUpsWrong)

/-- 'lockkeeperlaw4.TargetOrigins': WHATEVER THE INPUT: true; the input reads as it did. -/
def targetOriginsSpec : ChangeSpec := { name := "targetOrigins", fn := fun _ => fun
  | [d1, d2] => { results := [.lit (.bool true)], args := [d1, d2] }
  | _ => none }
def targetOriginsRow : OpenClaim := { program := "ytfamllkmmiajoaadoor", sum := "0afe6e08f2021c5aa319ee4723b9d028cfd9991e03be8f65d85192de2174da86", func := "lockkeeper/lockkeeperlaw4.TargetOrigins", spec := "targetOrigins", inPlace := ["internal/bytealg.IndexByteString", "internal/bytealg.IndexString"], named := ["internal/bytealg.MaxLen", "internal/strconv.uint64pow10", "math/bits.deBruijn32tab", "math/bits.deBruijn64tab"], apart := false, laid := [("math/bits.deBruijn32tab", laid_math_bits_deBruijn32tab), ("math/bits.deBruijn64tab", laid_math_bits_deBruijn64tab), ("internal/strconv.uint64pow10", laid_internal_strconv_uint64pow10)] }
def TargetOriginsSaid : Prop := targetOriginsRow.holds Tryd.pinned (OpenSpec.ofChange targetOriginsSpec)

/-- ITS FALSE NEIGHBOUR: 'it returns false'. Refute it at one input. -/
def targetOriginsWrong : ChangeSpec := { name := "targetOrigins", fn := fun _ => fun
  | [d1, d2] => { results := [.lit (.bool false)], args := [d1, d2] }
  | _ => none }
def TargetOriginsWrongFalsely : Prop := targetOriginsRow.holds Tryd.pinned (OpenSpec.ofChange targetOriginsWrong)

/- THE SECOND FORM. 'bulk': how many values and letters a reading holds, each counted each time it is reached (what is shared counts as often as it is met; a slice's spare places count too). A statement '..UptoSaid' is the law's where the arguments, and the package variables that the reading takes, are together of bulk at most 1048576: NARROWER than '..Said'. Prove '..Said' where nothing that the law and all that it calls make is longer than what came in: it says more and counts as full. Else prove '..UptoSaid'. A law counts once. -/
mutual
def uptoBulk {H : Type} : DataW H → Nat
  | .lit (.string bytes) => bytes.length + 1
  | .lit _ => 1
  | .nil => 1
  | .ptr d => uptoBulk d + 1
  | .slice elems spare => uptoBulkAll elems + uptoBulkAll spare + 1
  | .agg parts => uptoBulkAll parts + 1
  | .iface _ d => uptoBulk d + 1
  | .map entries => uptoBulkEntries entries + 1
  | .held _ => 1
def uptoBulkAll {H : Type} : List (DataW H) → Nat
  | [] => 0
  | d :: r => uptoBulk d + uptoBulkAll r
def uptoBulkEntries {H : Type} : List (Lit × DataW H) → Nat
  | [] => 0
  | x :: r => uptoBulkEntry x + uptoBulkEntries r
def uptoBulkEntry {H : Type} : Lit × DataW H → Nat
  | (.string bytes, d) => bytes.length + uptoBulk d + 1
  | (_, d) => uptoBulk d + 1
 end
def uptoSmall : (H : Type) → List (DataW H) → Bool := fun _ ds => decide (uptoBulkAll ds ≤ 1048576)
def OpenSpec.upto (s : _root_.Go.ChangeSpec) : _root_.Go.OpenSpec := { _root_.Go.OpenSpec.ofChange s with cond := some uptoSmall }

/-- 'lockkeeperlaw4.TargetAll', WHERE WHAT IT READS IS OF BULK AT MOST 1048576: true; the input reads as it did. -/
def targetAllUptoRow : OpenClaim := { program := "ytfamllkmmiajoaadoor", sum := "0afe6e08f2021c5aa319ee4723b9d028cfd9991e03be8f65d85192de2174da86", func := "lockkeeper/lockkeeperlaw4.TargetAll", spec := "targetAll", inPlace := ["internal/bytealg.IndexByteString", "internal/bytealg.IndexString"], named := ["internal/bytealg.MaxLen", "internal/strconv.uint64pow10", "math/bits.deBruijn32tab", "math/bits.deBruijn64tab"], apart := false, laid := [("math/bits.deBruijn32tab", laid_math_bits_deBruijn32tab), ("math/bits.deBruijn64tab", laid_math_bits_deBruijn64tab), ("internal/strconv.uint64pow10", laid_internal_strconv_uint64pow10)], narrowed := true }
def TargetAllUptoSaid : Prop := targetAllUptoRow.holds Tryd.pinned (OpenSpec.upto targetAllSpec)

/-- 'lockkeeperlaw4.TargetShows', WHERE WHAT IT READS IS OF BULK AT MOST 1048576: true; the input reads as it did. -/
def targetShowsUptoRow : OpenClaim := { program := "ytfamllkmmiajoaadoor", sum := "0afe6e08f2021c5aa319ee4723b9d028cfd9991e03be8f65d85192de2174da86", func := "lockkeeper/lockkeeperlaw4.TargetShows", spec := "targetShows", inPlace := ["internal/bytealg.IndexByteString", "internal/bytealg.IndexString"], named := ["internal/bytealg.MaxLen", "internal/strconv.uint64pow10", "math/bits.deBruijn32tab", "math/bits.deBruijn64tab"], apart := false, laid := [("math/bits.deBruijn32tab", laid_math_bits_deBruijn32tab), ("math/bits.deBruijn64tab", laid_math_bits_deBruijn64tab), ("internal/strconv.uint64pow10", laid_internal_strconv_uint64pow10)], narrowed := true }
def TargetShowsUptoSaid : Prop := targetShowsUptoRow.holds Tryd.pinned (OpenSpec.upto targetShowsSpec)

/-- 'lockkeeperlaw4.TargetBack', WHERE WHAT IT READS IS OF BULK AT MOST 1048576: true; the input reads as it did. -/
def targetBackUptoRow : OpenClaim := { program := "ytfamllkmmiajoaadoor", sum := "0afe6e08f2021c5aa319ee4723b9d028cfd9991e03be8f65d85192de2174da86", func := "lockkeeper/lockkeeperlaw4.TargetBack", spec := "targetBack", inPlace := ["internal/bytealg.IndexByteString", "internal/bytealg.IndexString"], named := ["internal/bytealg.MaxLen", "internal/strconv.uint64pow10", "math/bits.deBruijn32tab", "math/bits.deBruijn64tab"], apart := false, laid := [("math/bits.deBruijn32tab", laid_math_bits_deBruijn32tab), ("math/bits.deBruijn64tab", laid_math_bits_deBruijn64tab), ("internal/strconv.uint64pow10", laid_internal_strconv_uint64pow10)], narrowed := true }
def TargetBackUptoSaid : Prop := targetBackUptoRow.holds Tryd.pinned (OpenSpec.upto targetBackSpec)

/-- 'lockkeeperlaw4.TargetCleans', WHERE WHAT IT READS IS OF BULK AT MOST 1048576: true; the input reads as it did. -/
def targetCleansUptoRow : OpenClaim := { program := "ytfamllkmmiajoaadoor", sum := "0afe6e08f2021c5aa319ee4723b9d028cfd9991e03be8f65d85192de2174da86", func := "lockkeeper/lockkeeperlaw4.TargetCleans", spec := "targetCleans", inPlace := ["internal/bytealg.IndexByteString", "internal/bytealg.IndexString"], named := ["internal/bytealg.MaxLen", "internal/strconv.uint64pow10", "math/bits.deBruijn32tab", "math/bits.deBruijn64tab"], apart := false, laid := [("math/bits.deBruijn32tab", laid_math_bits_deBruijn32tab), ("math/bits.deBruijn64tab", laid_math_bits_deBruijn64tab), ("internal/strconv.uint64pow10", laid_internal_strconv_uint64pow10)], narrowed := true }
def TargetCleansUptoSaid : Prop := targetCleansUptoRow.holds Tryd.pinned (OpenSpec.upto targetCleansSpec)

/-- 'lockkeeperlaw4.TargetSegments', WHERE WHAT IT READS IS OF BULK AT MOST 1048576: true; the input reads as it did. -/
def targetSegmentsUptoRow : OpenClaim := { program := "ytfamllkmmiajoaadoor", sum := "0afe6e08f2021c5aa319ee4723b9d028cfd9991e03be8f65d85192de2174da86", func := "lockkeeper/lockkeeperlaw4.TargetSegments", spec := "targetSegments", inPlace := ["internal/bytealg.IndexByteString", "internal/bytealg.IndexString"], named := ["internal/bytealg.MaxLen", "internal/strconv.uint64pow10", "math/bits.deBruijn32tab", "math/bits.deBruijn64tab"], apart := false, laid := [("math/bits.deBruijn32tab", laid_math_bits_deBruijn32tab), ("math/bits.deBruijn64tab", laid_math_bits_deBruijn64tab), ("internal/strconv.uint64pow10", laid_internal_strconv_uint64pow10)], narrowed := true }
def TargetSegmentsUptoSaid : Prop := targetSegmentsUptoRow.holds Tryd.pinned (OpenSpec.upto targetSegmentsSpec)

/-- 'lockkeeperlaw4.TargetFragments', WHERE WHAT IT READS IS OF BULK AT MOST 1048576: true; the input reads as it did. -/
def targetFragmentsUptoRow : OpenClaim := { program := "ytfamllkmmiajoaadoor", sum := "0afe6e08f2021c5aa319ee4723b9d028cfd9991e03be8f65d85192de2174da86", func := "lockkeeper/lockkeeperlaw4.TargetFragments", spec := "targetFragments", inPlace := ["internal/bytealg.IndexByteString", "internal/bytealg.IndexString"], named := ["internal/bytealg.MaxLen", "internal/strconv.uint64pow10", "math/bits.deBruijn32tab", "math/bits.deBruijn64tab"], apart := false, laid := [("math/bits.deBruijn32tab", laid_math_bits_deBruijn32tab), ("math/bits.deBruijn64tab", laid_math_bits_deBruijn64tab), ("internal/strconv.uint64pow10", laid_internal_strconv_uint64pow10)], narrowed := true }
def TargetFragmentsUptoSaid : Prop := targetFragmentsUptoRow.holds Tryd.pinned (OpenSpec.upto targetFragmentsSpec)

/-- 'lockkeeperlaw4.TargetUps', WHERE WHAT IT READS IS OF BULK AT MOST 1048576: true; the input reads as it did. -/
def targetUpsUptoRow : OpenClaim := { program := "ytfamllkmmiajoaadoor", sum := "0afe6e08f2021c5aa319ee4723b9d028cfd9991e03be8f65d85192de2174da86", func := "lockkeeper/lockkeeperlaw4.TargetUps", spec := "targetUps", inPlace := ["internal/bytealg.IndexByteString", "internal/bytealg.IndexString"], named := ["internal/bytealg.MaxLen", "internal/strconv.uint64pow10", "math/bits.deBruijn32tab", "math/bits.deBruijn64tab"], apart := false, laid := [("math/bits.deBruijn32tab", laid_math_bits_deBruijn32tab), ("math/bits.deBruijn64tab", laid_math_bits_deBruijn64tab), ("internal/strconv.uint64pow10", laid_internal_strconv_uint64pow10)], narrowed := true }
def TargetUpsUptoSaid : Prop := targetUpsUptoRow.holds Tryd.pinned (OpenSpec.upto targetUpsSpec)

/-- 'lockkeeperlaw4.TargetOrigins', WHERE WHAT IT READS IS OF BULK AT MOST 1048576: true; the input reads as it did. -/
def targetOriginsUptoRow : OpenClaim := { program := "ytfamllkmmiajoaadoor", sum := "0afe6e08f2021c5aa319ee4723b9d028cfd9991e03be8f65d85192de2174da86", func := "lockkeeper/lockkeeperlaw4.TargetOrigins", spec := "targetOrigins", inPlace := ["internal/bytealg.IndexByteString", "internal/bytealg.IndexString"], named := ["internal/bytealg.MaxLen", "internal/strconv.uint64pow10", "math/bits.deBruijn32tab", "math/bits.deBruijn64tab"], apart := false, laid := [("math/bits.deBruijn32tab", laid_math_bits_deBruijn32tab), ("math/bits.deBruijn64tab", laid_math_bits_deBruijn64tab), ("internal/strconv.uint64pow10", laid_internal_strconv_uint64pow10)], narrowed := true }
def TargetOriginsUptoSaid : Prop := targetOriginsUptoRow.holds Tryd.pinned (OpenSpec.upto targetOriginsSpec)

end Rows
end Go.Proofs.YtfamllkmmiajoaaDoor
