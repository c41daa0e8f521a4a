/-
  No cell of these rows narrows 'for every input' (looked for: loops, veiled, ifaces, maps, wideKeys, modest, calm, conditions, laid).
  DERIVED. THE GIVEN ROWS OF THIS SEAT. 6 by the template 'for every input the law returns true; each argument reads behind the call as it read before'; 0 by the template 'total and deterministic' (their statements: YtoiahjcnofhnlaaTotals.lean).
  GIVEN WITH THE SEED: the statements are not yours to turn. If you find one false, say at which input.
  Laid BY PROGRAM, IN A SANDBOX (cutbox-rows.mjs): the forced cells as the released guide's own fill.sh prints them over the translation e934e4298dfe26d9… (all of the seat's roots in one cut). By AI agents, Wed Nov 11 2026. No macro, syntax, notation, axiom, sorry.
-/
import Derived.Test.YtoiahjcnofhnlaaChecked
import GoSem.Claim
import GoSem.ClaimJoined
import GoSem.ClaimMapViews
import Derived.JoinedTies
import Derived.KernelRfl
namespace Go.Proofs.Ytoiahjcnofhnlaa
/- THE CELL 'sum', in the pinned program and in every row, IS THE sha256 OF THE DUMP (.gsa) THAT YtoiahjcnofhnlaaProg.lean LOADS. Nothing in Lean hashes anything: it is a label: what it is worth is what the hold of that sum in a sandbox is worth. -/
noncomputable def Try.pinned : Pinned := { name := "ytoiahjcnofhnlaa", sum := "e934e4298dfe26d9b92d3c4a69493495dd9b4782ddaf5a79c144a4708db445ab", checked := Try.checked }
namespace Rows
def none {H : Type} : Left H := { results := [], args := [] }

/-- 'lockkeeperlaw6.HeaderAll': WHATEVER THE INPUT: true; the input reads as it did. -/
def headerAllSpec : ChangeSpec := { name := "headerAll", fn := fun _ => fun
  | [d1, d2, d3, d4] => { results := [.lit (.bool true)], args := [d1, d2, d3, d4] }
  | _ => none }
def headerAllRow : OpenClaim := { program := "ytoiahjcnofhnlaa", sum := "e934e4298dfe26d9b92d3c4a69493495dd9b4782ddaf5a79c144a4708db445ab", func := "lockkeeper/lockkeeperlaw6.HeaderAll", spec := "headerAll", inPlace := ["internal/abi.NoEscape", "internal/bytealg.MakeNoZero", "internal/bytealg.IndexByteString", "internal/bytealg.IndexString"], unfollowed := true, recurses := true, named := ["internal/bytealg.MaxLen"], apart := false }
def HeaderAllSaid : Prop := headerAllRow.holds Try.pinned (OpenSpec.ofChange headerAllSpec)

/-- ITS FALSE NEIGHBOUR: 'it returns false'. Refute it at one input. -/
def headerAllWrong : ChangeSpec := { name := "headerAll", fn := fun _ => fun
  | [d1, d2, d3, d4] => { results := [.lit (.bool false)], args := [d1, d2, d3, d4] }
  | _ => none }
def HeaderAllWrongFalsely : Prop := headerAllRow.holds Try.pinned (OpenSpec.ofChange headerAllWrong)

/-- 'lockkeeperlaw6.HeaderSets': WHATEVER THE INPUT: true; the input reads as it did. -/
def headerSetsSpec : ChangeSpec := { name := "headerSets", fn := fun _ => fun
  | [d1, d2, d3, d4] => { results := [.lit (.bool true)], args := [d1, d2, d3, d4] }
  | _ => none }
def headerSetsRow : OpenClaim := { program := "ytoiahjcnofhnlaa", sum := "e934e4298dfe26d9b92d3c4a69493495dd9b4782ddaf5a79c144a4708db445ab", func := "lockkeeper/lockkeeperlaw6.HeaderSets", spec := "headerSets", inPlace := ["internal/abi.NoEscape", "internal/bytealg.MakeNoZero"], apart := false }
def HeaderSetsSaid : Prop := headerSetsRow.holds Try.pinned (OpenSpec.ofChange headerSetsSpec)

/-- ITS FALSE NEIGHBOUR: 'it returns false'. Refute it at one input. -/
def headerSetsWrong : ChangeSpec := { name := "headerSets", fn := fun _ => fun
  | [d1, d2, d3, d4] => { results := [.lit (.bool false)], args := [d1, d2, d3, d4] }
  | _ => none }
def HeaderSetsWrongFalsely : Prop := headerSetsRow.holds Try.pinned (OpenSpec.ofChange headerSetsWrong)

/-- 'lockkeeperlaw6.HeaderNorms': WHATEVER THE INPUT: true; the input reads as it did. -/
def headerNormsSpec : ChangeSpec := { name := "headerNorms", fn := fun _ => fun
  | [d1, d2] => { results := [.lit (.bool true)], args := [d1, d2] }
  | _ => none }
def headerNormsRow : OpenClaim := { program := "ytoiahjcnofhnlaa", sum := "e934e4298dfe26d9b92d3c4a69493495dd9b4782ddaf5a79c144a4708db445ab", func := "lockkeeper/lockkeeperlaw6.HeaderNorms", spec := "headerNorms", inPlace := ["internal/abi.NoEscape", "internal/bytealg.MakeNoZero", "internal/bytealg.IndexByteString", "internal/bytealg.IndexString"], unfollowed := true, recurses := true, named := ["internal/bytealg.MaxLen"], apart := false }
def HeaderNormsSaid : Prop := headerNormsRow.holds Try.pinned (OpenSpec.ofChange headerNormsSpec)

/-- ITS FALSE NEIGHBOUR: 'it returns false'. Refute it at one input. -/
def headerNormsWrong : ChangeSpec := { name := "headerNorms", fn := fun _ => fun
  | [d1, d2] => { results := [.lit (.bool false)], args := [d1, d2] }
  | _ => none }
def HeaderNormsWrongFalsely : Prop := headerNormsRow.holds Try.pinned (OpenSpec.ofChange headerNormsWrong)

/-- 'lockkeeperlaw6.HeaderNames': WHATEVER THE INPUT: true; the input reads as it did. -/
def headerNamesSpec : ChangeSpec := { name := "headerNames", fn := fun _ => fun
  | [d1, d2] => { results := [.lit (.bool true)], args := [d1, d2] }
  | _ => none }
def headerNamesRow : OpenClaim := { program := "ytoiahjcnofhnlaa", sum := "e934e4298dfe26d9b92d3c4a69493495dd9b4782ddaf5a79c144a4708db445ab", func := "lockkeeper/lockkeeperlaw6.HeaderNames", spec := "headerNames", inPlace := ["internal/abi.NoEscape", "internal/bytealg.MakeNoZero"], recurses := true, apart := false }
def HeaderNamesSaid : Prop := headerNamesRow.holds Try.pinned (OpenSpec.ofChange headerNamesSpec)

/-- ITS FALSE NEIGHBOUR: 'it returns false'. Refute it at one input. -/
def headerNamesWrong : ChangeSpec := { name := "headerNames", fn := fun _ => fun
  | [d1, d2] => { results := [.lit (.bool false)], args := [d1, d2] }
  | _ => none }
def HeaderNamesWrongFalsely : Prop := headerNamesRow.holds Try.pinned (OpenSpec.ofChange headerNamesWrong)

/-- 'lockkeeperlaw6.HeaderLimits': WHATEVER THE INPUT: true; the input reads as it did. -/
def headerLimitsSpec : ChangeSpec := { name := "headerLimits", fn := fun _ => fun
  | [d1, d2, d3] => { results := [.lit (.bool true)], args := [d1, d2, d3] }
  | _ => none }
def headerLimitsRow : OpenClaim := { program := "ytoiahjcnofhnlaa", sum := "e934e4298dfe26d9b92d3c4a69493495dd9b4782ddaf5a79c144a4708db445ab", func := "lockkeeper/lockkeeperlaw6.HeaderLimits", spec := "headerLimits", inPlace := ["internal/bytealg.IndexByteString", "internal/bytealg.IndexString", "internal/abi.NoEscape", "internal/bytealg.MakeNoZero"], named := ["internal/bytealg.MaxLen"], apart := false }
def HeaderLimitsSaid : Prop := headerLimitsRow.holds Try.pinned (OpenSpec.ofChange headerLimitsSpec)

/-- ITS FALSE NEIGHBOUR: 'it returns false'. Refute it at one input. -/
def headerLimitsWrong : ChangeSpec := { name := "headerLimits", fn := fun _ => fun
  | [d1, d2, d3] => { results := [.lit (.bool false)], args := [d1, d2, d3] }
  | _ => none }
def HeaderLimitsWrongFalsely : Prop := headerLimitsRow.holds Try.pinned (OpenSpec.ofChange headerLimitsWrong)

/-- 'lockkeeperlaw6.HeaderJoins': WHATEVER THE INPUT: true; the input reads as it did. -/
def headerJoinsSpec : ChangeSpec := { name := "headerJoins", fn := fun _ => fun
  | [d1, d2, d3] => { results := [.lit (.bool true)], args := [d1, d2, d3] }
  | _ => none }
def headerJoinsRow : OpenClaim := { program := "ytoiahjcnofhnlaa", sum := "e934e4298dfe26d9b92d3c4a69493495dd9b4782ddaf5a79c144a4708db445ab", func := "lockkeeper/lockkeeperlaw6.HeaderJoins", spec := "headerJoins", inPlace := ["internal/abi.NoEscape", "internal/bytealg.MakeNoZero"], apart := false }
def HeaderJoinsSaid : Prop := headerJoinsRow.holds Try.pinned (OpenSpec.ofChange headerJoinsSpec)

/-- ITS FALSE NEIGHBOUR: 'it returns false'. Refute it at one input. -/
def headerJoinsWrong : ChangeSpec := { name := "headerJoins", fn := fun _ => fun
  | [d1, d2, d3] => { results := [.lit (.bool false)], args := [d1, d2, d3] }
  | _ => none }
def HeaderJoinsWrongFalsely : Prop := headerJoinsRow.holds Try.pinned (OpenSpec.ofChange headerJoinsWrong)

/- THE SECOND FORM. 'bulk': how many values and letters a reading holds, each counted each time it is reached (what is shared counts as often as it is met; a slice's spare places count too). A statement '..UptoSaid' is the law's where the arguments, and the package variables that the reading takes, are together of bulk at most 1048576: NARROWER than '..Said'. Prove '..Said' where nothing that the law and all that it calls make is longer than what came in: it says more and counts as full. Else prove '..UptoSaid'. A law counts once. -/
mutual
def uptoBulk {H : Type} : DataW H → Nat
  | .lit (.string bytes) => bytes.length + 1
  | .lit _ => 1
  | .nil => 1
  | .ptr d => uptoBulk d + 1
  | .slice elems spare => uptoBulkAll elems + uptoBulkAll spare + 1
  | .agg parts => uptoBulkAll parts + 1
  | .iface _ d => uptoBulk d + 1
  | .map entries => uptoBulkEntries entries + 1
  | .held _ => 1
def uptoBulkAll {H : Type} : List (DataW H) → Nat
  | [] => 0
  | d :: r => uptoBulk d + uptoBulkAll r
def uptoBulkEntries {H : Type} : List (Lit × DataW H) → Nat
  | [] => 0
  | x :: r => uptoBulkEntry x + uptoBulkEntries r
def uptoBulkEntry {H : Type} : Lit × DataW H → Nat
  | (.string bytes, d) => bytes.length + uptoBulk d + 1
  | (_, d) => uptoBulk d + 1
 end
def uptoSmall : (H : Type) → List (DataW H) → Bool := fun _ ds => decide (uptoBulkAll ds ≤ 1048576)
def OpenSpec.upto (s : _root_.Go.ChangeSpec) : _root_.Go.OpenSpec := { _root_.Go.OpenSpec.ofChange s with cond := some uptoSmall }

/-- 'lockkeeperlaw6.HeaderAll', WHERE WHAT IT READS IS OF BULK AT MOST 1048576: true; the input reads as it did. -/
def headerAllUptoRow : OpenClaim := { program := "ytoiahjcnofhnlaa", sum := "e934e4298dfe26d9b92d3c4a69493495dd9b4782ddaf5a79c144a4708db445ab", func := "lockkeeper/lockkeeperlaw6.HeaderAll", spec := "headerAll", inPlace := ["internal/abi.NoEscape", "internal/bytealg.MakeNoZero", "internal/bytealg.IndexByteString", "internal/bytealg.IndexString"], unfollowed := true, recurses := true, named := ["internal/bytealg.MaxLen"], apart := false, narrowed := true }
def HeaderAllUptoSaid : Prop := headerAllUptoRow.holds Try.pinned (OpenSpec.upto headerAllSpec)

/-- 'lockkeeperlaw6.HeaderSets', WHERE WHAT IT READS IS OF BULK AT MOST 1048576: true; the input reads as it did. -/
def headerSetsUptoRow : OpenClaim := { program := "ytoiahjcnofhnlaa", sum := "e934e4298dfe26d9b92d3c4a69493495dd9b4782ddaf5a79c144a4708db445ab", func := "lockkeeper/lockkeeperlaw6.HeaderSets", spec := "headerSets", inPlace := ["internal/abi.NoEscape", "internal/bytealg.MakeNoZero"], apart := false, narrowed := true }
def HeaderSetsUptoSaid : Prop := headerSetsUptoRow.holds Try.pinned (OpenSpec.upto headerSetsSpec)

/-- 'lockkeeperlaw6.HeaderNorms', WHERE WHAT IT READS IS OF BULK AT MOST 1048576: true; the input reads as it did. -/
def headerNormsUptoRow : OpenClaim := { program := "ytoiahjcnofhnlaa", sum := "e934e4298dfe26d9b92d3c4a69493495dd9b4782ddaf5a79c144a4708db445ab", func := "lockkeeper/lockkeeperlaw6.HeaderNorms", spec := "headerNorms", inPlace := ["internal/abi.NoEscape", "internal/bytealg.MakeNoZero", "internal/bytealg.IndexByteString", "internal/bytealg.IndexString"], unfollowed := true, recurses := true, named := ["internal/bytealg.MaxLen"], apart := false, narrowed := true }
def HeaderNormsUptoSaid : Prop := headerNormsUptoRow.holds Try.pinned (OpenSpec.upto headerNormsSpec)

/-- 'lockkeeperlaw6.HeaderNames', WHERE WHAT IT READS IS OF BULK AT MOST 1048576: true; the input reads as it did. -/
def headerNamesUptoRow : OpenClaim := { program := "ytoiahjcnofhnlaa", sum := "e934e4298dfe26d9b92d3c4a69493495dd9b4782ddaf5a79c144a4708db445ab", func := "lockkeeper/lockkeeperlaw6.HeaderNames", spec := "headerNames", inPlace := ["internal/abi.NoEscape", "internal/bytealg.MakeNoZero"], recurses := true, apart := false, narrowed := true }
def HeaderNamesUptoSaid : Prop := headerNamesUptoRow.holds Try.pinned (OpenSpec.upto headerNamesSpec)

/-- 'lockkeeperlaw6.HeaderLimits', WHERE WHAT IT READS IS OF BULK AT MOST 1048576: true; the input reads as it did. -/
def headerLimitsUptoRow : OpenClaim := { program := "ytoiahjcnofhnlaa", sum := "e934e4298dfe26d9b92d3c4a69493495dd9b4782ddaf5a79c144a4708db445ab", func := "lockkeeper/lockkeeperlaw6.HeaderLimits", spec := "headerLimits", inPlace := ["internal/bytealg.IndexByteString", "internal/bytealg.IndexString", "internal/abi.NoEscape", "internal/bytealg.MakeNoZero"], named := ["internal/bytealg.MaxLen"], apart := false, narrowed := true }
def HeaderLimitsUptoSaid : Prop := headerLimitsUptoRow.holds Try.pinned (OpenSpec.upto headerLimitsSpec)

/-- 'lockkeeperlaw6.HeaderJoins', WHERE WHAT IT READS IS OF BULK AT MOST 1048576: true; the input reads as it did. -/
def headerJoinsUptoRow : OpenClaim := { program := "ytoiahjcnofhnlaa", sum := "e934e4298dfe26d9b92d3c4a69493495dd9b4782ddaf5a79c144a4708db445ab", func := "lockkeeper/lockkeeperlaw6.HeaderJoins", spec := "headerJoins", inPlace := ["internal/abi.NoEscape", "internal/bytealg.MakeNoZero"], apart := false, narrowed := true }
def HeaderJoinsUptoSaid : Prop := headerJoinsUptoRow.holds Try.pinned (OpenSpec.upto headerJoinsSpec)

end Rows
end Go.Proofs.Ytoiahjcnofhnlaa
