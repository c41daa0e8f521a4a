/-
  No cell of these rows narrows 'for every input' (looked for: loops, veiled, ifaces, maps, wideKeys, modest, calm, conditions, laid).
  DERIVED. THE GIVEN ROWS OF THIS SEAT. 7 by the template 'for every input the law returns true; each argument reads behind the call as it read before'; 0 by the template 'total and deterministic' (their statements: YtihpnancplfkhaaTotals.lean).
  GIVEN WITH THE SEED: the statements are not yours to turn. If you find one false, say at which input.
  Laid BY PROGRAM, IN A SANDBOX (cutbox-rows.mjs): the forced cells as the released guide's own fill.sh prints them over the translation d346430bec03e838… (all of the seat's roots in one cut). By AI agents, Wed Nov 11 2026. No macro, syntax, notation, axiom, sorry.
-/
import Derived.Test.YtihpnancplfkhaaChecked
import GoSem.Claim
import GoSem.ClaimJoined
import GoSem.ClaimMapViews
import Derived.JoinedTies
import Derived.KernelRfl
namespace Go.Proofs.Ytihpnancplfkhaa
/- THE CELL 'sum', in the pinned program and in every row, IS THE sha256 OF THE DUMP (.gsa) THAT YtihpnancplfkhaaProg.lean LOADS. Nothing in Lean hashes anything: it is a label: what it is worth is what the hold of that sum in a sandbox is worth. -/
noncomputable def Try.pinned : Pinned := { name := "ytihpnancplfkhaa", sum := "d346430bec03e838a7d13f8f745d860fc82c9eb27e8ca8194629ba0d9e3e1160", checked := Try.checked }
namespace Rows
def none {H : Type} : Left H := { results := [], args := [] }

/-- 'lockkeeperlaw1.OctetAll': WHATEVER THE INPUT: true; the input reads as it did. -/
def octetAllSpec : ChangeSpec := { name := "octetAll", fn := fun _ => fun
  | [d1, d2, d3] => { results := [.lit (.bool true)], args := [d1, d2, d3] }
  | _ => none }
def octetAllRow : OpenClaim := { program := "ytihpnancplfkhaa", sum := "d346430bec03e838a7d13f8f745d860fc82c9eb27e8ca8194629ba0d9e3e1160", func := "lockkeeper/lockkeeperlaw1.OctetAll", spec := "octetAll", inPlace := ["internal/bytealg.IndexByteString", "internal/bytealg.IndexString", "internal/abi.NoEscape", "internal/bytealg.MakeNoZero"], named := ["internal/bytealg.MaxLen"], apart := false }
def OctetAllSaid : Prop := octetAllRow.holds Try.pinned (OpenSpec.ofChange octetAllSpec)

/-- ITS FALSE NEIGHBOUR: 'it returns false'. Refute it at one input. -/
def octetAllWrong : ChangeSpec := { name := "octetAll", fn := fun _ => fun
  | [d1, d2, d3] => { results := [.lit (.bool false)], args := [d1, d2, d3] }
  | _ => none }
def OctetAllWrongFalsely : Prop := octetAllRow.holds Try.pinned (OpenSpec.ofChange octetAllWrong)

/-- 'lockkeeperlaw1.OctetCases': WHATEVER THE INPUT: true; the input reads as it did. -/
def octetCasesSpec : ChangeSpec := { name := "octetCases", fn := fun _ => fun
  | [d1, d2] => { results := [.lit (.bool true)], args := [d1, d2] }
  | _ => none }
def octetCasesRow : OpenClaim := { program := "ytihpnancplfkhaa", sum := "d346430bec03e838a7d13f8f745d860fc82c9eb27e8ca8194629ba0d9e3e1160", func := "lockkeeper/lockkeeperlaw1.OctetCases", spec := "octetCases", inPlace := ["internal/bytealg.IndexByteString", "internal/bytealg.IndexString"], named := ["internal/bytealg.MaxLen"], apart := false }
def OctetCasesSaid : Prop := octetCasesRow.holds Try.pinned (OpenSpec.ofChange octetCasesSpec)

/-- ITS FALSE NEIGHBOUR: 'it returns false'. Refute it at one input. -/
def octetCasesWrong : ChangeSpec := { name := "octetCases", fn := fun _ => fun
  | [d1, d2] => { results := [.lit (.bool false)], args := [d1, d2] }
  | _ => none }
def OctetCasesWrongFalsely : Prop := octetCasesRow.holds Try.pinned (OpenSpec.ofChange octetCasesWrong)

/-- 'lockkeeperlaw1.OctetTrims': WHATEVER THE INPUT: true; the input reads as it did. -/
def octetTrimsSpec : ChangeSpec := { name := "octetTrims", fn := fun _ => fun
  | [d1, d2, d3] => { results := [.lit (.bool true)], args := [d1, d2, d3] }
  | _ => none }
def octetTrimsRow : OpenClaim := { program := "ytihpnancplfkhaa", sum := "d346430bec03e838a7d13f8f745d860fc82c9eb27e8ca8194629ba0d9e3e1160", func := "lockkeeper/lockkeeperlaw1.OctetTrims", spec := "octetTrims", inPlace := ["internal/bytealg.IndexByteString", "internal/bytealg.IndexString"], unfollowed := true, recurses := true, named := ["internal/bytealg.MaxLen"], apart := false }
def OctetTrimsSaid : Prop := octetTrimsRow.holds Try.pinned (OpenSpec.ofChange octetTrimsSpec)

/-- ITS FALSE NEIGHBOUR: 'it returns false'. Refute it at one input. -/
def octetTrimsWrong : ChangeSpec := { name := "octetTrims", fn := fun _ => fun
  | [d1, d2, d3] => { results := [.lit (.bool false)], args := [d1, d2, d3] }
  | _ => none }
def OctetTrimsWrongFalsely : Prop := octetTrimsRow.holds Try.pinned (OpenSpec.ofChange octetTrimsWrong)

/-- 'lockkeeperlaw1.OctetSplits': WHATEVER THE INPUT: true; the input reads as it did. -/
def octetSplitsSpec : ChangeSpec := { name := "octetSplits", fn := fun _ => fun
  | [d] => { results := [.lit (.bool true)], args := [d] }
  | _ => none }
def octetSplitsRow : OpenClaim := { program := "ytihpnancplfkhaa", sum := "d346430bec03e838a7d13f8f745d860fc82c9eb27e8ca8194629ba0d9e3e1160", func := "lockkeeper/lockkeeperlaw1.OctetSplits", spec := "octetSplits", inPlace := ["internal/bytealg.IndexByteString", "internal/bytealg.IndexString", "internal/abi.NoEscape", "internal/bytealg.MakeNoZero"], named := ["internal/bytealg.MaxLen"], apart := false }
def OctetSplitsSaid : Prop := octetSplitsRow.holds Try.pinned (OpenSpec.ofChange octetSplitsSpec)

/-- ITS FALSE NEIGHBOUR: 'it returns false'. Refute it at one input. -/
def octetSplitsWrong : ChangeSpec := { name := "octetSplits", fn := fun _ => fun
  | [d] => { results := [.lit (.bool false)], args := [d] }
  | _ => none }
def OctetSplitsWrongFalsely : Prop := octetSplitsRow.holds Try.pinned (OpenSpec.ofChange octetSplitsWrong)

/-- 'lockkeeperlaw1.OctetDigits': WHATEVER THE INPUT: true; the input reads as it did. -/
def octetDigitsSpec : ChangeSpec := { name := "octetDigits", fn := fun _ => fun
  | [d1, d2, d3, d4] => { results := [.lit (.bool true)], args := [d1, d2, d3, d4] }
  | _ => none }
def octetDigitsRow : OpenClaim := { program := "ytihpnancplfkhaa", sum := "d346430bec03e838a7d13f8f745d860fc82c9eb27e8ca8194629ba0d9e3e1160", func := "lockkeeper/lockkeeperlaw1.OctetDigits", spec := "octetDigits", inPlace := ["internal/bytealg.IndexByteString", "internal/bytealg.IndexString"], named := ["internal/bytealg.MaxLen"], apart := false }
def OctetDigitsSaid : Prop := octetDigitsRow.holds Try.pinned (OpenSpec.ofChange octetDigitsSpec)

/-- ITS FALSE NEIGHBOUR: 'it returns false'. Refute it at one input. -/
def octetDigitsWrong : ChangeSpec := { name := "octetDigits", fn := fun _ => fun
  | [d1, d2, d3, d4] => { results := [.lit (.bool false)], args := [d1, d2, d3, d4] }
  | _ => none }
def OctetDigitsWrongFalsely : Prop := octetDigitsRow.holds Try.pinned (OpenSpec.ofChange octetDigitsWrong)

/-- 'lockkeeperlaw1.OctetTokens': WHATEVER THE INPUT: true; the input reads as it did. -/
def octetTokensSpec : ChangeSpec := { name := "octetTokens", fn := fun _ => fun
  | [d] => { results := [.lit (.bool true)], args := [d] }
  | _ => none }
def octetTokensRow : OpenClaim := { program := "ytihpnancplfkhaa", sum := "d346430bec03e838a7d13f8f745d860fc82c9eb27e8ca8194629ba0d9e3e1160", func := "lockkeeper/lockkeeperlaw1.OctetTokens", spec := "octetTokens", inPlace := ["internal/bytealg.IndexByteString", "internal/bytealg.IndexString"], named := ["internal/bytealg.MaxLen"], apart := false }
def OctetTokensSaid : Prop := octetTokensRow.holds Try.pinned (OpenSpec.ofChange octetTokensSpec)

/-- ITS FALSE NEIGHBOUR: 'it returns false'. Refute it at one input. -/
def octetTokensWrong : ChangeSpec := { name := "octetTokens", fn := fun _ => fun
  | [d] => { results := [.lit (.bool false)], args := [d] }
  | _ => none }
def OctetTokensWrongFalsely : Prop := octetTokensRow.holds Try.pinned (OpenSpec.ofChange octetTokensWrong)

/-- 'lockkeeperlaw1.OctetParts': WHATEVER THE INPUT: true; the input reads as it did. -/
def octetPartsSpec : ChangeSpec := { name := "octetParts", fn := fun _ => fun
  | [d1, d2] => { results := [.lit (.bool true)], args := [d1, d2] }
  | _ => none }
def octetPartsRow : OpenClaim := { program := "ytihpnancplfkhaa", sum := "d346430bec03e838a7d13f8f745d860fc82c9eb27e8ca8194629ba0d9e3e1160", func := "lockkeeper/lockkeeperlaw1.OctetParts", spec := "octetParts", inPlace := ["internal/bytealg.IndexByteString", "internal/bytealg.IndexString"], named := ["internal/bytealg.MaxLen"], apart := false }
def OctetPartsSaid : Prop := octetPartsRow.holds Try.pinned (OpenSpec.ofChange octetPartsSpec)

/-- ITS FALSE NEIGHBOUR: 'it returns false'. Refute it at one input. -/
def octetPartsWrong : ChangeSpec := { name := "octetParts", fn := fun _ => fun
  | [d1, d2] => { results := [.lit (.bool false)], args := [d1, d2] }
  | _ => none }
def OctetPartsWrongFalsely : Prop := octetPartsRow.holds Try.pinned (OpenSpec.ofChange octetPartsWrong)

/- THE SECOND FORM. 'bulk': how many values and letters a reading holds, each counted each time it is reached (what is shared counts as often as it is met; a slice's spare places count too). A statement '..UptoSaid' is the law's where the arguments, and the package variables that the reading takes, are together of bulk at most 1048576: NARROWER than '..Said'. Prove '..Said' where nothing that the law and all that it calls make is longer than what came in: it says more and counts as full. Else prove '..UptoSaid'. A law counts once. -/
mutual
def uptoBulk {H : Type} : DataW H → Nat
  | .lit (.string bytes) => bytes.length + 1
  | .lit _ => 1
  | .nil => 1
  | .ptr d => uptoBulk d + 1
  | .slice elems spare => uptoBulkAll elems + uptoBulkAll spare + 1
  | .agg parts => uptoBulkAll parts + 1
  | .iface _ d => uptoBulk d + 1
  | .map entries => uptoBulkEntries entries + 1
  | .held _ => 1
def uptoBulkAll {H : Type} : List (DataW H) → Nat
  | [] => 0
  | d :: r => uptoBulk d + uptoBulkAll r
def uptoBulkEntries {H : Type} : List (Lit × DataW H) → Nat
  | [] => 0
  | x :: r => uptoBulkEntry x + uptoBulkEntries r
def uptoBulkEntry {H : Type} : Lit × DataW H → Nat
  | (.string bytes, d) => bytes.length + uptoBulk d + 1
  | (_, d) => uptoBulk d + 1
 end
def uptoSmall : (H : Type) → List (DataW H) → Bool := fun _ ds => decide (uptoBulkAll ds ≤ 1048576)
def OpenSpec.upto (s : _root_.Go.ChangeSpec) : _root_.Go.OpenSpec := { _root_.Go.OpenSpec.ofChange s with cond := some uptoSmall }

/-- 'lockkeeperlaw1.OctetAll', WHERE WHAT IT READS IS OF BULK AT MOST 1048576: true; the input reads as it did. -/
def octetAllUptoRow : OpenClaim := { program := "ytihpnancplfkhaa", sum := "d346430bec03e838a7d13f8f745d860fc82c9eb27e8ca8194629ba0d9e3e1160", func := "lockkeeper/lockkeeperlaw1.OctetAll", spec := "octetAll", inPlace := ["internal/bytealg.IndexByteString", "internal/bytealg.IndexString", "internal/abi.NoEscape", "internal/bytealg.MakeNoZero"], named := ["internal/bytealg.MaxLen"], apart := false, narrowed := true }
def OctetAllUptoSaid : Prop := octetAllUptoRow.holds Try.pinned (OpenSpec.upto octetAllSpec)

/-- 'lockkeeperlaw1.OctetCases', WHERE WHAT IT READS IS OF BULK AT MOST 1048576: true; the input reads as it did. -/
def octetCasesUptoRow : OpenClaim := { program := "ytihpnancplfkhaa", sum := "d346430bec03e838a7d13f8f745d860fc82c9eb27e8ca8194629ba0d9e3e1160", func := "lockkeeper/lockkeeperlaw1.OctetCases", spec := "octetCases", inPlace := ["internal/bytealg.IndexByteString", "internal/bytealg.IndexString"], named := ["internal/bytealg.MaxLen"], apart := false, narrowed := true }
def OctetCasesUptoSaid : Prop := octetCasesUptoRow.holds Try.pinned (OpenSpec.upto octetCasesSpec)

/-- 'lockkeeperlaw1.OctetTrims', WHERE WHAT IT READS IS OF BULK AT MOST 1048576: true; the input reads as it did. -/
def octetTrimsUptoRow : OpenClaim := { program := "ytihpnancplfkhaa", sum := "d346430bec03e838a7d13f8f745d860fc82c9eb27e8ca8194629ba0d9e3e1160", func := "lockkeeper/lockkeeperlaw1.OctetTrims", spec := "octetTrims", inPlace := ["internal/bytealg.IndexByteString", "internal/bytealg.IndexString"], unfollowed := true, recurses := true, named := ["internal/bytealg.MaxLen"], apart := false, narrowed := true }
def OctetTrimsUptoSaid : Prop := octetTrimsUptoRow.holds Try.pinned (OpenSpec.upto octetTrimsSpec)

/-- 'lockkeeperlaw1.OctetSplits', WHERE WHAT IT READS IS OF BULK AT MOST 1048576: true; the input reads as it did. -/
def octetSplitsUptoRow : OpenClaim := { program := "ytihpnancplfkhaa", sum := "d346430bec03e838a7d13f8f745d860fc82c9eb27e8ca8194629ba0d9e3e1160", func := "lockkeeper/lockkeeperlaw1.OctetSplits", spec := "octetSplits", inPlace := ["internal/bytealg.IndexByteString", "internal/bytealg.IndexString", "internal/abi.NoEscape", "internal/bytealg.MakeNoZero"], named := ["internal/bytealg.MaxLen"], apart := false, narrowed := true }
def OctetSplitsUptoSaid : Prop := octetSplitsUptoRow.holds Try.pinned (OpenSpec.upto octetSplitsSpec)

/-- 'lockkeeperlaw1.OctetDigits', WHERE WHAT IT READS IS OF BULK AT MOST 1048576: true; the input reads as it did. -/
def octetDigitsUptoRow : OpenClaim := { program := "ytihpnancplfkhaa", sum := "d346430bec03e838a7d13f8f745d860fc82c9eb27e8ca8194629ba0d9e3e1160", func := "lockkeeper/lockkeeperlaw1.OctetDigits", spec := "octetDigits", inPlace := ["internal/bytealg.IndexByteString", "internal/bytealg.IndexString"], named := ["internal/bytealg.MaxLen"], apart := false, narrowed := true }
def OctetDigitsUptoSaid : Prop := octetDigitsUptoRow.holds Try.pinned (OpenSpec.upto octetDigitsSpec)

/-- 'lockkeeperlaw1.OctetTokens', WHERE WHAT IT READS IS OF BULK AT MOST 1048576: true; the input reads as it did. -/
def octetTokensUptoRow : OpenClaim := { program := "ytihpnancplfkhaa", sum := "d346430bec03e838a7d13f8f745d860fc82c9eb27e8ca8194629ba0d9e3e1160", func := "lockkeeper/lockkeeperlaw1.OctetTokens", spec := "octetTokens", inPlace := ["internal/bytealg.IndexByteString", "internal/bytealg.IndexString"], named := ["internal/bytealg.MaxLen"], apart := false, narrowed := true }
def OctetTokensUptoSaid : Prop := octetTokensUptoRow.holds Try.pinned (OpenSpec.upto octetTokensSpec)

/-- 'lockkeeperlaw1.OctetParts', WHERE WHAT IT READS IS OF BULK AT MOST 1048576: true; the input reads as it did. -/
def octetPartsUptoRow : OpenClaim := { program := "ytihpnancplfkhaa", sum := "d346430bec03e838a7d13f8f745d860fc82c9eb27e8ca8194629ba0d9e3e1160", func := "lockkeeper/lockkeeperlaw1.OctetParts", spec := "octetParts", inPlace := ["internal/bytealg.IndexByteString", "internal/bytealg.IndexString"], named := ["internal/bytealg.MaxLen"], apart := false, narrowed := true }
def OctetPartsUptoSaid : Prop := octetPartsUptoRow.holds Try.pinned (OpenSpec.upto octetPartsSpec)

end Rows
end Go.Proofs.Ytihpnancplfkhaa
