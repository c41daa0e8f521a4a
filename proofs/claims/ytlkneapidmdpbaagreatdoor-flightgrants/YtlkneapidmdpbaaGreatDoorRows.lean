/-
  NARROWER THAN 'FOR EVERY INPUT', by the rows' own cells (each row's printed sentence says how): FlightAll: laid · FlightBuilds: laid · FlightLets: laid · FlightGrants: laid · FlightOthers: laid.
  DERIVED. THE GIVEN ROWS OF THIS SEAT. 5 by the template 'for every input the law returns true; each argument reads behind the call as it read before'; 0 by the template 'total and deterministic' (their statements: YtlkneapidmdpbaaGreatDoorTotals.lean).
  GIVEN WITH THE SEED: the statements are not yours to turn. If you find one false, say at which input.
  Laid BY PROGRAM, IN A SANDBOX (cutbox-rows.mjs): the forced cells as the released guide's own fill.sh prints them over the translation 36e172e2513c54be… (all of the seat's roots in one cut). By AI agents, Wed Nov 11 2026. No macro, syntax, notation, axiom, sorry.
-/
import Derived.Test.YtlkneapidmdpbaaGreatDoorChecked
import GoSem.Claim
import GoSem.ClaimJoined
import GoSem.ClaimMapViews
import Derived.JoinedTies
import Derived.KernelRfl
namespace Go.Proofs.YtlkneapidmdpbaaGreatDoor
/- THE CELL 'sum', in the pinned program and in every row, IS THE sha256 OF THE DUMP (.gsa) THAT YtlkneapidmdpbaaGreatDoorProg.lean LOADS. Nothing in Lean hashes anything: it is a label: what it is worth is what the hold of that sum in a sandbox is worth. -/
noncomputable def Tryz.pinned : Pinned := { name := "ytlkneapidmdpbaagreatdoor", sum := "36e172e2513c54becc381ea47bbe7ce3a8d22e3617214e5dc02e8afd73b645d8", checked := Tryz.checked }
namespace Rows
def none {H : Type} : Left H := { results := [], args := [] }

/- WHAT THE LISTED PACKAGE-LEVEL VARIABLES READ AS WHEN THE CALL BEGINS. Each datum BY PROGRAM (the guide's laid-datum.mjs) off the statement by which the dump's own 'gosem.cut.vars' lays the variable. In a bare row this is a premise. The card (YtlkneapidmdpbaaGreatDoorCards.lean) ties it to the program's text. -/
def laid_math_bits_deBruijn32tab {H : Type} : DataW H := .agg [.lit (.int .u8 0), .lit (.int .u8 1), .lit (.int .u8 28), .lit (.int .u8 2), .lit (.int .u8 29), .lit (.int .u8 14), .lit (.int .u8 24), .lit (.int .u8 3), .lit (.int .u8 30), .lit (.int .u8 22), .lit (.int .u8 20), .lit (.int .u8 15), .lit (.int .u8 25), .lit (.int .u8 17), .lit (.int .u8 4), .lit (.int .u8 8), .lit (.int .u8 31), .lit (.int .u8 27), .lit (.int .u8 13), .lit (.int .u8 23), .lit (.int .u8 21), .lit (.int .u8 19), .lit (.int .u8 16), .lit (.int .u8 7), .lit (.int .u8 26), .lit (.int .u8 12), .lit (.int .u8 18), .lit (.int .u8 6), .lit (.int .u8 11), .lit (.int .u8 5), .lit (.int .u8 10), .lit (.int .u8 9)]
def laid_math_bits_deBruijn64tab {H : Type} : DataW H := .agg [.lit (.int .u8 0), .lit (.int .u8 1), .lit (.int .u8 56), .lit (.int .u8 2), .lit (.int .u8 57), .lit (.int .u8 49), .lit (.int .u8 28), .lit (.int .u8 3), .lit (.int .u8 61), .lit (.int .u8 58), .lit (.int .u8 42), .lit (.int .u8 50), .lit (.int .u8 38), .lit (.int .u8 29), .lit (.int .u8 17), .lit (.int .u8 4), .lit (.int .u8 62), .lit (.int .u8 47), .lit (.int .u8 59), .lit (.int .u8 36), .lit (.int .u8 45), .lit (.int .u8 43), .lit (.int .u8 51), .lit (.int .u8 22), .lit (.int .u8 53), .lit (.int .u8 39), .lit (.int .u8 33), .lit (.int .u8 30), .lit (.int .u8 24), .lit (.int .u8 18), .lit (.int .u8 12), .lit (.int .u8 5), .lit (.int .u8 63), .lit (.int .u8 55), .lit (.int .u8 48), .lit (.int .u8 27), .lit (.int .u8 60), .lit (.int .u8 41), .lit (.int .u8 37), .lit (.int .u8 16), .lit (.int .u8 46), .lit (.int .u8 35), .lit (.int .u8 44), .lit (.int .u8 21), .lit (.int .u8 52), .lit (.int .u8 32), .lit (.int .u8 23), .lit (.int .u8 11), .lit (.int .u8 54), .lit (.int .u8 26), .lit (.int .u8 40), .lit (.int .u8 15), .lit (.int .u8 34), .lit (.int .u8 20), .lit (.int .u8 31), .lit (.int .u8 10), .lit (.int .u8 25), .lit (.int .u8 14), .lit (.int .u8 19), .lit (.int .u8 9), .lit (.int .u8 13), .lit (.int .u8 8), .lit (.int .u8 7), .lit (.int .u8 6)]
def laid_internal_strconv_uint64pow10 {H : Type} : DataW H := .agg [.lit (.int .u64 1), .lit (.int .u64 10), .lit (.int .u64 100), .lit (.int .u64 1000), .lit (.int .u64 10000), .lit (.int .u64 100000), .lit (.int .u64 1000000), .lit (.int .u64 10000000), .lit (.int .u64 100000000), .lit (.int .u64 1000000000), .lit (.int .u64 10000000000), .lit (.int .u64 100000000000), .lit (.int .u64 1000000000000), .lit (.int .u64 10000000000000), .lit (.int .u64 100000000000000), .lit (.int .u64 1000000000000000), .lit (.int .u64 10000000000000000), .lit (.int .u64 100000000000000000), .lit (.int .u64 1000000000000000000), .lit (.int .u64 10000000000000000000)]
def laid_lockkeeper_method_usual {H : Type} : DataW H := .agg [.lit (.string [68, 69, 76, 69, 84, 69]), .lit (.string [71, 69, 84]), .lit (.string [72, 69, 65, 68]), .lit (.string [79, 80, 84, 73, 79, 78, 83]), .lit (.string [80, 79, 83, 84]), .lit (.string [80, 85, 84])]
def laid_lockkeeper_method_barred {H : Type} : DataW H := .agg [.lit (.string [67, 79, 78, 78, 69, 67, 84]), .lit (.string [84, 82, 65, 67, 69]), .lit (.string [84, 82, 65, 67, 75])]

/-- 'lockkeeperlaw17.FlightAll': WHATEVER THE INPUT: true; the input reads as it did. -/
def flightAllSpec : ChangeSpec := { name := "flightAll", fn := fun _ => fun
  | [d1, d2, d3, d4, d5] => { results := [.lit (.bool true)], args := [d1, d2, d3, d4, d5] }
  | _ => none }
def flightAllRow : OpenClaim := { program := "ytlkneapidmdpbaagreatdoor", sum := "36e172e2513c54becc381ea47bbe7ce3a8d22e3617214e5dc02e8afd73b645d8", func := "lockkeeper/lockkeeperlaw17.FlightAll", spec := "flightAll", inPlace := ["internal/bytealg.IndexByteString", "internal/bytealg.IndexString", "internal/abi.NoEscape", "internal/bytealg.MakeNoZero"], unfollowed := true, recurses := true, named := ["internal/bytealg.MaxLen", "internal/strconv.uint64pow10", "math/bits.deBruijn32tab", "math/bits.deBruijn64tab", "lockkeeper/method.barred", "lockkeeper/method.usual"], apart := false, laid := [("math/bits.deBruijn32tab", laid_math_bits_deBruijn32tab), ("math/bits.deBruijn64tab", laid_math_bits_deBruijn64tab), ("internal/strconv.uint64pow10", laid_internal_strconv_uint64pow10), ("lockkeeper/method.usual", laid_lockkeeper_method_usual), ("lockkeeper/method.barred", laid_lockkeeper_method_barred)] }
def FlightAllSaid : Prop := flightAllRow.holds Tryz.pinned (OpenSpec.ofChange flightAllSpec)

/-- ITS FALSE NEIGHBOUR: 'it returns false'. Refute it at one input. -/
def flightAllWrong : ChangeSpec := { name := "flightAll", fn := fun _ => fun
  | [d1, d2, d3, d4, d5] => { results := [.lit (.bool false)], args := [d1, d2, d3, d4, d5] }
  | _ => none }
def FlightAllWrongFalsely : Prop := flightAllRow.holds Tryz.pinned (OpenSpec.ofChange flightAllWrong)

/-- 'lockkeeperlaw17.FlightBuilds': WHATEVER THE INPUT: true; the input reads as it did. -/
def flightBuildsSpec : ChangeSpec := { name := "flightBuilds", fn := fun _ => fun
  | [d] => { results := [.lit (.bool true)], args := [d] }
  | _ => none }
def flightBuildsRow : OpenClaim := { program := "ytlkneapidmdpbaagreatdoor", sum := "36e172e2513c54becc381ea47bbe7ce3a8d22e3617214e5dc02e8afd73b645d8", func := "lockkeeper/lockkeeperlaw17.FlightBuilds", spec := "flightBuilds", inPlace := ["internal/bytealg.IndexByteString", "internal/bytealg.IndexString", "internal/abi.NoEscape", "internal/bytealg.MakeNoZero"], unfollowed := true, recurses := true, named := ["internal/bytealg.MaxLen", "internal/strconv.uint64pow10", "math/bits.deBruijn32tab", "math/bits.deBruijn64tab", "lockkeeper/method.barred", "lockkeeper/method.usual"], apart := false, laid := [("math/bits.deBruijn32tab", laid_math_bits_deBruijn32tab), ("math/bits.deBruijn64tab", laid_math_bits_deBruijn64tab), ("internal/strconv.uint64pow10", laid_internal_strconv_uint64pow10), ("lockkeeper/method.usual", laid_lockkeeper_method_usual), ("lockkeeper/method.barred", laid_lockkeeper_method_barred)] }
def FlightBuildsSaid : Prop := flightBuildsRow.holds Tryz.pinned (OpenSpec.ofChange flightBuildsSpec)

/-- ITS FALSE NEIGHBOUR: 'it returns false'. Refute it at one input. -/
def flightBuildsWrong : ChangeSpec := { name := "flightBuilds", fn := fun _ => fun
  | [d] => { results := [.lit (.bool false)], args := [d] }
  | _ => none }
def FlightBuildsWrongFalsely : Prop := flightBuildsRow.holds Tryz.pinned (OpenSpec.ofChange flightBuildsWrong)

/-- 'lockkeeperlaw17.FlightLets': WHATEVER THE INPUT: true; the input reads as it did. -/
def flightLetsSpec : ChangeSpec := { name := "flightLets", fn := fun _ => fun
  | [d1, d2, d3] => { results := [.lit (.bool true)], args := [d1, d2, d3] }
  | _ => none }
def flightLetsRow : OpenClaim := { program := "ytlkneapidmdpbaagreatdoor", sum := "36e172e2513c54becc381ea47bbe7ce3a8d22e3617214e5dc02e8afd73b645d8", func := "lockkeeper/lockkeeperlaw17.FlightLets", spec := "flightLets", inPlace := ["internal/bytealg.IndexByteString", "internal/bytealg.IndexString", "internal/abi.NoEscape", "internal/bytealg.MakeNoZero"], unfollowed := true, recurses := true, named := ["internal/bytealg.MaxLen", "internal/strconv.uint64pow10", "math/bits.deBruijn32tab", "math/bits.deBruijn64tab", "lockkeeper/method.barred", "lockkeeper/method.usual"], apart := false, laid := [("math/bits.deBruijn32tab", laid_math_bits_deBruijn32tab), ("math/bits.deBruijn64tab", laid_math_bits_deBruijn64tab), ("internal/strconv.uint64pow10", laid_internal_strconv_uint64pow10), ("lockkeeper/method.usual", laid_lockkeeper_method_usual), ("lockkeeper/method.barred", laid_lockkeeper_method_barred)] }
def FlightLetsSaid : Prop := flightLetsRow.holds Tryz.pinned (OpenSpec.ofChange flightLetsSpec)

/-- ITS FALSE NEIGHBOUR: 'it returns false'. Refute it at one input. -/
def flightLetsWrong : ChangeSpec := { name := "flightLets", fn := fun _ => fun
  | [d1, d2, d3] => { results := [.lit (.bool false)], args := [d1, d2, d3] }
  | _ => none }
def FlightLetsWrongFalsely : Prop := flightLetsRow.holds Tryz.pinned (OpenSpec.ofChange flightLetsWrong)

/-- 'lockkeeperlaw17.FlightGrants': WHATEVER THE INPUT: true; the input reads as it did. -/
def flightGrantsSpec : ChangeSpec := { name := "flightGrants", fn := fun _ => fun
  | [d1, d2, d3, d4, d5] => { results := [.lit (.bool true)], args := [d1, d2, d3, d4, d5] }
  | _ => none }
def flightGrantsRow : OpenClaim := { program := "ytlkneapidmdpbaagreatdoor", sum := "36e172e2513c54becc381ea47bbe7ce3a8d22e3617214e5dc02e8afd73b645d8", func := "lockkeeper/lockkeeperlaw17.FlightGrants", spec := "flightGrants", inPlace := ["internal/bytealg.IndexByteString", "internal/bytealg.IndexString", "internal/abi.NoEscape", "internal/bytealg.MakeNoZero"], unfollowed := true, recurses := true, named := ["internal/bytealg.MaxLen", "internal/strconv.uint64pow10", "math/bits.deBruijn32tab", "math/bits.deBruijn64tab", "lockkeeper/method.barred", "lockkeeper/method.usual"], apart := false, laid := [("math/bits.deBruijn32tab", laid_math_bits_deBruijn32tab), ("math/bits.deBruijn64tab", laid_math_bits_deBruijn64tab), ("internal/strconv.uint64pow10", laid_internal_strconv_uint64pow10), ("lockkeeper/method.usual", laid_lockkeeper_method_usual), ("lockkeeper/method.barred", laid_lockkeeper_method_barred)] }
def FlightGrantsSaid : Prop := flightGrantsRow.holds Tryz.pinned (OpenSpec.ofChange flightGrantsSpec)

/-- ITS FALSE NEIGHBOUR: 'it returns false'. Refute it at one input. -/
def flightGrantsWrong : ChangeSpec := { name := "flightGrants", fn := fun _ => fun
  | [d1, d2, d3, d4, d5] => { results := [.lit (.bool false)], args := [d1, d2, d3, d4, d5] }
  | _ => none }
def FlightGrantsWrongFalsely : Prop := flightGrantsRow.holds Tryz.pinned (OpenSpec.ofChange flightGrantsWrong)

/-- 'lockkeeperlaw17.FlightOthers': WHATEVER THE INPUT: true; the input reads as it did. -/
def flightOthersSpec : ChangeSpec := { name := "flightOthers", fn := fun _ => fun
  | [d1, d2, d3, d4, d5] => { results := [.lit (.bool true)], args := [d1, d2, d3, d4, d5] }
  | _ => none }
def flightOthersRow : OpenClaim := { program := "ytlkneapidmdpbaagreatdoor", sum := "36e172e2513c54becc381ea47bbe7ce3a8d22e3617214e5dc02e8afd73b645d8", func := "lockkeeper/lockkeeperlaw17.FlightOthers", spec := "flightOthers", inPlace := ["internal/bytealg.IndexByteString", "internal/bytealg.IndexString", "internal/abi.NoEscape", "internal/bytealg.MakeNoZero"], unfollowed := true, recurses := true, named := ["internal/bytealg.MaxLen", "internal/strconv.uint64pow10", "math/bits.deBruijn32tab", "math/bits.deBruijn64tab", "lockkeeper/method.barred", "lockkeeper/method.usual"], apart := false, laid := [("math/bits.deBruijn32tab", laid_math_bits_deBruijn32tab), ("math/bits.deBruijn64tab", laid_math_bits_deBruijn64tab), ("internal/strconv.uint64pow10", laid_internal_strconv_uint64pow10), ("lockkeeper/method.usual", laid_lockkeeper_method_usual), ("lockkeeper/method.barred", laid_lockkeeper_method_barred)] }
def FlightOthersSaid : Prop := flightOthersRow.holds Tryz.pinned (OpenSpec.ofChange flightOthersSpec)

/-- ITS FALSE NEIGHBOUR: 'it returns false'. Refute it at one input. -/
def flightOthersWrong : ChangeSpec := { name := "flightOthers", fn := fun _ => fun
  | [d1, d2, d3, d4, d5] => { results := [.lit (.bool false)], args := [d1, d2, d3, d4, d5] }
  | _ => none }
def FlightOthersWrongFalsely : Prop := flightOthersRow.holds Tryz.pinned (OpenSpec.ofChange flightOthersWrong)

/- THE SECOND FORM. 'bulk': how many values and letters a reading holds, each counted each time it is reached (what is shared counts as often as it is met; a slice's spare places count too). A statement '..UptoSaid' is the law's where the arguments, and the package variables that the reading takes, are together of bulk at most 1048576: NARROWER than '..Said'. Prove '..Said' where nothing that the law and all that it calls make is longer than what came in: it says more and counts as full. Else prove '..UptoSaid'. A law counts once. -/
mutual
def uptoBulk {H : Type} : DataW H → Nat
  | .lit (.string bytes) => bytes.length + 1
  | .lit _ => 1
  | .nil => 1
  | .ptr d => uptoBulk d + 1
  | .slice elems spare => uptoBulkAll elems + uptoBulkAll spare + 1
  | .agg parts => uptoBulkAll parts + 1
  | .iface _ d => uptoBulk d + 1
  | .map entries => uptoBulkEntries entries + 1
  | .held _ => 1
def uptoBulkAll {H : Type} : List (DataW H) → Nat
  | [] => 0
  | d :: r => uptoBulk d + uptoBulkAll r
def uptoBulkEntries {H : Type} : List (Lit × DataW H) → Nat
  | [] => 0
  | x :: r => uptoBulkEntry x + uptoBulkEntries r
def uptoBulkEntry {H : Type} : Lit × DataW H → Nat
  | (.string bytes, d) => bytes.length + uptoBulk d + 1
  | (_, d) => uptoBulk d + 1
 end
def uptoSmall : (H : Type) → List (DataW H) → Bool := fun _ ds => decide (uptoBulkAll ds ≤ 1048576)
def OpenSpec.upto (s : _root_.Go.ChangeSpec) : _root_.Go.OpenSpec := { _root_.Go.OpenSpec.ofChange s with cond := some uptoSmall }

/-- 'lockkeeperlaw17.FlightAll', WHERE WHAT IT READS IS OF BULK AT MOST 1048576: true; the input reads as it did. -/
def flightAllUptoRow : OpenClaim := { program := "ytlkneapidmdpbaagreatdoor", sum := "36e172e2513c54becc381ea47bbe7ce3a8d22e3617214e5dc02e8afd73b645d8", func := "lockkeeper/lockkeeperlaw17.FlightAll", spec := "flightAll", inPlace := ["internal/bytealg.IndexByteString", "internal/bytealg.IndexString", "internal/abi.NoEscape", "internal/bytealg.MakeNoZero"], unfollowed := true, recurses := true, named := ["internal/bytealg.MaxLen", "internal/strconv.uint64pow10", "math/bits.deBruijn32tab", "math/bits.deBruijn64tab", "lockkeeper/method.barred", "lockkeeper/method.usual"], apart := false, laid := [("math/bits.deBruijn32tab", laid_math_bits_deBruijn32tab), ("math/bits.deBruijn64tab", laid_math_bits_deBruijn64tab), ("internal/strconv.uint64pow10", laid_internal_strconv_uint64pow10), ("lockkeeper/method.usual", laid_lockkeeper_method_usual), ("lockkeeper/method.barred", laid_lockkeeper_method_barred)], narrowed := true }
def FlightAllUptoSaid : Prop := flightAllUptoRow.holds Tryz.pinned (OpenSpec.upto flightAllSpec)

/-- 'lockkeeperlaw17.FlightBuilds', WHERE WHAT IT READS IS OF BULK AT MOST 1048576: true; the input reads as it did. -/
def flightBuildsUptoRow : OpenClaim := { program := "ytlkneapidmdpbaagreatdoor", sum := "36e172e2513c54becc381ea47bbe7ce3a8d22e3617214e5dc02e8afd73b645d8", func := "lockkeeper/lockkeeperlaw17.FlightBuilds", spec := "flightBuilds", inPlace := ["internal/bytealg.IndexByteString", "internal/bytealg.IndexString", "internal/abi.NoEscape", "internal/bytealg.MakeNoZero"], unfollowed := true, recurses := true, named := ["internal/bytealg.MaxLen", "internal/strconv.uint64pow10", "math/bits.deBruijn32tab", "math/bits.deBruijn64tab", "lockkeeper/method.barred", "lockkeeper/method.usual"], apart := false, laid := [("math/bits.deBruijn32tab", laid_math_bits_deBruijn32tab), ("math/bits.deBruijn64tab", laid_math_bits_deBruijn64tab), ("internal/strconv.uint64pow10", laid_internal_strconv_uint64pow10), ("lockkeeper/method.usual", laid_lockkeeper_method_usual), ("lockkeeper/method.barred", laid_lockkeeper_method_barred)], narrowed := true }
def FlightBuildsUptoSaid : Prop := flightBuildsUptoRow.holds Tryz.pinned (OpenSpec.upto flightBuildsSpec)

/-- 'lockkeeperlaw17.FlightLets', WHERE WHAT IT READS IS OF BULK AT MOST 1048576: true; the input reads as it did. -/
def flightLetsUptoRow : OpenClaim := { program := "ytlkneapidmdpbaagreatdoor", sum := "36e172e2513c54becc381ea47bbe7ce3a8d22e3617214e5dc02e8afd73b645d8", func := "lockkeeper/lockkeeperlaw17.FlightLets", spec := "flightLets", inPlace := ["internal/bytealg.IndexByteString", "internal/bytealg.IndexString", "internal/abi.NoEscape", "internal/bytealg.MakeNoZero"], unfollowed := true, recurses := true, named := ["internal/bytealg.MaxLen", "internal/strconv.uint64pow10", "math/bits.deBruijn32tab", "math/bits.deBruijn64tab", "lockkeeper/method.barred", "lockkeeper/method.usual"], apart := false, laid := [("math/bits.deBruijn32tab", laid_math_bits_deBruijn32tab), ("math/bits.deBruijn64tab", laid_math_bits_deBruijn64tab), ("internal/strconv.uint64pow10", laid_internal_strconv_uint64pow10), ("lockkeeper/method.usual", laid_lockkeeper_method_usual), ("lockkeeper/method.barred", laid_lockkeeper_method_barred)], narrowed := true }
def FlightLetsUptoSaid : Prop := flightLetsUptoRow.holds Tryz.pinned (OpenSpec.upto flightLetsSpec)

/-- 'lockkeeperlaw17.FlightGrants', WHERE WHAT IT READS IS OF BULK AT MOST 1048576: true; the input reads as it did. -/
def flightGrantsUptoRow : OpenClaim := { program := "ytlkneapidmdpbaagreatdoor", sum := "36e172e2513c54becc381ea47bbe7ce3a8d22e3617214e5dc02e8afd73b645d8", func := "lockkeeper/lockkeeperlaw17.FlightGrants", spec := "flightGrants", inPlace := ["internal/bytealg.IndexByteString", "internal/bytealg.IndexString", "internal/abi.NoEscape", "internal/bytealg.MakeNoZero"], unfollowed := true, recurses := true, named := ["internal/bytealg.MaxLen", "internal/strconv.uint64pow10", "math/bits.deBruijn32tab", "math/bits.deBruijn64tab", "lockkeeper/method.barred", "lockkeeper/method.usual"], apart := false, laid := [("math/bits.deBruijn32tab", laid_math_bits_deBruijn32tab), ("math/bits.deBruijn64tab", laid_math_bits_deBruijn64tab), ("internal/strconv.uint64pow10", laid_internal_strconv_uint64pow10), ("lockkeeper/method.usual", laid_lockkeeper_method_usual), ("lockkeeper/method.barred", laid_lockkeeper_method_barred)], narrowed := true }
def FlightGrantsUptoSaid : Prop := flightGrantsUptoRow.holds Tryz.pinned (OpenSpec.upto flightGrantsSpec)

/-- 'lockkeeperlaw17.FlightOthers', WHERE WHAT IT READS IS OF BULK AT MOST 1048576: true; the input reads as it did. -/
def flightOthersUptoRow : OpenClaim := { program := "ytlkneapidmdpbaagreatdoor", sum := "36e172e2513c54becc381ea47bbe7ce3a8d22e3617214e5dc02e8afd73b645d8", func := "lockkeeper/lockkeeperlaw17.FlightOthers", spec := "flightOthers", inPlace := ["internal/bytealg.IndexByteString", "internal/bytealg.IndexString", "internal/abi.NoEscape", "internal/bytealg.MakeNoZero"], unfollowed := true, recurses := true, named := ["internal/bytealg.MaxLen", "internal/strconv.uint64pow10", "math/bits.deBruijn32tab", "math/bits.deBruijn64tab", "lockkeeper/method.barred", "lockkeeper/method.usual"], apart := false, laid := [("math/bits.deBruijn32tab", laid_math_bits_deBruijn32tab), ("math/bits.deBruijn64tab", laid_math_bits_deBruijn64tab), ("internal/strconv.uint64pow10", laid_internal_strconv_uint64pow10), ("lockkeeper/method.usual", laid_lockkeeper_method_usual), ("lockkeeper/method.barred", laid_lockkeeper_method_barred)], narrowed := true }
def FlightOthersUptoSaid : Prop := flightOthersUptoRow.holds Tryz.pinned (OpenSpec.upto flightOthersSpec)

end Rows
end Go.Proofs.YtlkneapidmdpbaaGreatDoor
