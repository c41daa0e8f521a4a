/-
  No cell of these rows narrows 'for every input' (looked for: loops, veiled, ifaces, maps, wideKeys, modest, calm, conditions, laid).
  DERIVED. THE GIVEN ROWS OF THIS SEAT. 4 by the template 'for every input the law returns true; each argument reads behind the call as it read before'; 0 by the template 'total and deterministic' (their statements: YtpfbkcibpmndoaaTotals.lean).
  GIVEN WITH THE SEED: the statements are not yours to turn. If you find one false, say at which input.
  Laid BY PROGRAM, IN A SANDBOX (cutbox-rows.mjs): the forced cells as the released guide's own fill.sh prints them over the translation 21662bd52d338487… (all of the seat's roots in one cut). By AI agents, Wed Nov 11 2026. No macro, syntax, notation, axiom, sorry.
-/
import Derived.Test.YtpfbkcibpmndoaaChecked
import GoSem.Claim
import GoSem.ClaimJoined
import GoSem.ClaimMapViews
import Derived.JoinedTies
import Derived.KernelRfl
namespace Go.Proofs.Ytpfbkcibpmndoaa
/- THE CELL 'sum', in the pinned program and in every row, IS THE sha256 OF THE DUMP (.gsa) THAT YtpfbkcibpmndoaaProg.lean LOADS. Nothing in Lean hashes anything: it is a label: what it is worth is what the hold of that sum in a sandbox is worth. -/
noncomputable def Try.pinned : Pinned := { name := "ytpfbkcibpmndoaa", sum := "21662bd52d338487e6894c46622117aabdca86f6cdd56a60f3480da5a17be7e0", checked := Try.checked }
namespace Rows
def none {H : Type} : Left H := { results := [], args := [] }

/-- 'lockkeeperlaw15.CorsAll': WHATEVER THE INPUT: true; the input reads as it did. -/
def corsAllSpec : ChangeSpec := { name := "corsAll", fn := fun _ => fun
  | [d1, d2, d3] => { results := [.lit (.bool true)], args := [d1, d2, d3] }
  | _ => none }
def corsAllRow : OpenClaim := { program := "ytpfbkcibpmndoaa", sum := "21662bd52d338487e6894c46622117aabdca86f6cdd56a60f3480da5a17be7e0", func := "lockkeeper/lockkeeperlaw15.CorsAll", spec := "corsAll", inPlace := ["internal/abi.NoEscape", "internal/bytealg.MakeNoZero", "internal/bytealg.IndexByteString", "internal/bytealg.IndexString"], named := ["internal/bytealg.MaxLen"], apart := false }
def CorsAllSaid : Prop := corsAllRow.holds Try.pinned (OpenSpec.ofChange corsAllSpec)

/-- ITS FALSE NEIGHBOUR: 'it returns false'. Refute it at one input. -/
def corsAllWrong : ChangeSpec := { name := "corsAll", fn := fun _ => fun
  | [d1, d2, d3] => { results := [.lit (.bool false)], args := [d1, d2, d3] }
  | _ => none }
def CorsAllWrongFalsely : Prop := corsAllRow.holds Try.pinned (OpenSpec.ofChange corsAllWrong)

/-- 'lockkeeperlaw15.CorsOnes': WHATEVER THE INPUT: true; the input reads as it did. -/
def corsOnesSpec : ChangeSpec := { name := "corsOnes", fn := fun _ => fun
  | [d1, d2, d3] => { results := [.lit (.bool true)], args := [d1, d2, d3] }
  | _ => none }
def corsOnesRow : OpenClaim := { program := "ytpfbkcibpmndoaa", sum := "21662bd52d338487e6894c46622117aabdca86f6cdd56a60f3480da5a17be7e0", func := "lockkeeper/lockkeeperlaw15.CorsOnes", spec := "corsOnes", inPlace := ["internal/abi.NoEscape", "internal/bytealg.MakeNoZero"], apart := false }
def CorsOnesSaid : Prop := corsOnesRow.holds Try.pinned (OpenSpec.ofChange corsOnesSpec)

/-- ITS FALSE NEIGHBOUR: 'it returns false'. Refute it at one input. -/
def corsOnesWrong : ChangeSpec := { name := "corsOnes", fn := fun _ => fun
  | [d1, d2, d3] => { results := [.lit (.bool false)], args := [d1, d2, d3] }
  | _ => none }
def CorsOnesWrongFalsely : Prop := corsOnesRow.holds Try.pinned (OpenSpec.ofChange corsOnesWrong)

/-- 'lockkeeperlaw15.CorsSeen': WHATEVER THE INPUT: true; the input reads as it did. -/
def corsSeenSpec : ChangeSpec := { name := "corsSeen", fn := fun _ => fun
  | [d1, d2, d3] => { results := [.lit (.bool true)], args := [d1, d2, d3] }
  | _ => none }
def corsSeenRow : OpenClaim := { program := "ytpfbkcibpmndoaa", sum := "21662bd52d338487e6894c46622117aabdca86f6cdd56a60f3480da5a17be7e0", func := "lockkeeper/lockkeeperlaw15.CorsSeen", spec := "corsSeen", inPlace := ["internal/abi.NoEscape", "internal/bytealg.MakeNoZero", "internal/bytealg.IndexByteString", "internal/bytealg.IndexString"], named := ["internal/bytealg.MaxLen"], apart := false }
def CorsSeenSaid : Prop := corsSeenRow.holds Try.pinned (OpenSpec.ofChange corsSeenSpec)

/-- ITS FALSE NEIGHBOUR: 'it returns false'. Refute it at one input. -/
def corsSeenWrong : ChangeSpec := { name := "corsSeen", fn := fun _ => fun
  | [d1, d2, d3] => { results := [.lit (.bool false)], args := [d1, d2, d3] }
  | _ => none }
def CorsSeenWrongFalsely : Prop := corsSeenRow.holds Try.pinned (OpenSpec.ofChange corsSeenWrong)

/-- 'lockkeeperlaw15.CorsOthers': WHATEVER THE INPUT: true; the input reads as it did. -/
def corsOthersSpec : ChangeSpec := { name := "corsOthers", fn := fun _ => fun
  | [d1, d2, d3, d4, d5] => { results := [.lit (.bool true)], args := [d1, d2, d3, d4, d5] }
  | _ => none }
def corsOthersRow : OpenClaim := { program := "ytpfbkcibpmndoaa", sum := "21662bd52d338487e6894c46622117aabdca86f6cdd56a60f3480da5a17be7e0", func := "lockkeeper/lockkeeperlaw15.CorsOthers", spec := "corsOthers", inPlace := ["internal/abi.NoEscape", "internal/bytealg.MakeNoZero"], apart := false }
def CorsOthersSaid : Prop := corsOthersRow.holds Try.pinned (OpenSpec.ofChange corsOthersSpec)

/-- ITS FALSE NEIGHBOUR: 'it returns false'. Refute it at one input. -/
def corsOthersWrong : ChangeSpec := { name := "corsOthers", fn := fun _ => fun
  | [d1, d2, d3, d4, d5] => { results := [.lit (.bool false)], args := [d1, d2, d3, d4, d5] }
  | _ => none }
def CorsOthersWrongFalsely : Prop := corsOthersRow.holds Try.pinned (OpenSpec.ofChange corsOthersWrong)

/- THE SECOND FORM. 'bulk': how many values and letters a reading holds, each counted each time it is reached (what is shared counts as often as it is met; a slice's spare places count too). A statement '..UptoSaid' is the law's where the arguments, and the package variables that the reading takes, are together of bulk at most 1048576: NARROWER than '..Said'. Prove '..Said' where nothing that the law and all that it calls make is longer than what came in: it says more and counts as full. Else prove '..UptoSaid'. A law counts once. -/
mutual
def uptoBulk {H : Type} : DataW H → Nat
  | .lit (.string bytes) => bytes.length + 1
  | .lit _ => 1
  | .nil => 1
  | .ptr d => uptoBulk d + 1
  | .slice elems spare => uptoBulkAll elems + uptoBulkAll spare + 1
  | .agg parts => uptoBulkAll parts + 1
  | .iface _ d => uptoBulk d + 1
  | .map entries => uptoBulkEntries entries + 1
  | .held _ => 1
def uptoBulkAll {H : Type} : List (DataW H) → Nat
  | [] => 0
  | d :: r => uptoBulk d + uptoBulkAll r
def uptoBulkEntries {H : Type} : List (Lit × DataW H) → Nat
  | [] => 0
  | x :: r => uptoBulkEntry x + uptoBulkEntries r
def uptoBulkEntry {H : Type} : Lit × DataW H → Nat
  | (.string bytes, d) => bytes.length + uptoBulk d + 1
  | (_, d) => uptoBulk d + 1
 end
def uptoSmall : (H : Type) → List (DataW H) → Bool := fun _ ds => decide (uptoBulkAll ds ≤ 1048576)
def OpenSpec.upto (s : _root_.Go.ChangeSpec) : _root_.Go.OpenSpec := { _root_.Go.OpenSpec.ofChange s with cond := some uptoSmall }

/-- 'lockkeeperlaw15.CorsAll', WHERE WHAT IT READS IS OF BULK AT MOST 1048576: true; the input reads as it did. -/
def corsAllUptoRow : OpenClaim := { program := "ytpfbkcibpmndoaa", sum := "21662bd52d338487e6894c46622117aabdca86f6cdd56a60f3480da5a17be7e0", func := "lockkeeper/lockkeeperlaw15.CorsAll", spec := "corsAll", inPlace := ["internal/abi.NoEscape", "internal/bytealg.MakeNoZero", "internal/bytealg.IndexByteString", "internal/bytealg.IndexString"], named := ["internal/bytealg.MaxLen"], apart := false, narrowed := true }
def CorsAllUptoSaid : Prop := corsAllUptoRow.holds Try.pinned (OpenSpec.upto corsAllSpec)

/-- 'lockkeeperlaw15.CorsOnes', WHERE WHAT IT READS IS OF BULK AT MOST 1048576: true; the input reads as it did. -/
def corsOnesUptoRow : OpenClaim := { program := "ytpfbkcibpmndoaa", sum := "21662bd52d338487e6894c46622117aabdca86f6cdd56a60f3480da5a17be7e0", func := "lockkeeper/lockkeeperlaw15.CorsOnes", spec := "corsOnes", inPlace := ["internal/abi.NoEscape", "internal/bytealg.MakeNoZero"], apart := false, narrowed := true }
def CorsOnesUptoSaid : Prop := corsOnesUptoRow.holds Try.pinned (OpenSpec.upto corsOnesSpec)

/-- 'lockkeeperlaw15.CorsSeen', WHERE WHAT IT READS IS OF BULK AT MOST 1048576: true; the input reads as it did. -/
def corsSeenUptoRow : OpenClaim := { program := "ytpfbkcibpmndoaa", sum := "21662bd52d338487e6894c46622117aabdca86f6cdd56a60f3480da5a17be7e0", func := "lockkeeper/lockkeeperlaw15.CorsSeen", spec := "corsSeen", inPlace := ["internal/abi.NoEscape", "internal/bytealg.MakeNoZero", "internal/bytealg.IndexByteString", "internal/bytealg.IndexString"], named := ["internal/bytealg.MaxLen"], apart := false, narrowed := true }
def CorsSeenUptoSaid : Prop := corsSeenUptoRow.holds Try.pinned (OpenSpec.upto corsSeenSpec)

/-- 'lockkeeperlaw15.CorsOthers', WHERE WHAT IT READS IS OF BULK AT MOST 1048576: true; the input reads as it did. -/
def corsOthersUptoRow : OpenClaim := { program := "ytpfbkcibpmndoaa", sum := "21662bd52d338487e6894c46622117aabdca86f6cdd56a60f3480da5a17be7e0", func := "lockkeeper/lockkeeperlaw15.CorsOthers", spec := "corsOthers", inPlace := ["internal/abi.NoEscape", "internal/bytealg.MakeNoZero"], apart := false, narrowed := true }
def CorsOthersUptoSaid : Prop := corsOthersUptoRow.holds Try.pinned (OpenSpec.upto corsOthersSpec)

end Rows
end Go.Proofs.Ytpfbkcibpmndoaa
