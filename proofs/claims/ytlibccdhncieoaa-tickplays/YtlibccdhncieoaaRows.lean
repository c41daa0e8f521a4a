/-
  No cell of these rows narrows 'for every input' (looked for: loops, veiled, ifaces, maps, wideKeys, modest, calm, conditions, laid).
  DERIVED. THE GIVEN ROWS OF THIS SEAT. 5 by the template 'for every input the law returns true; each argument reads behind the call as it read before'; 0 by the template 'total and deterministic' (their statements: YtlibccdhncieoaaTotals.lean).
  GIVEN WITH THE SEED: the statements are not yours to turn. If you find one false, say at which input.
  Laid BY PROGRAM, IN A SANDBOX (cutbox-rows.mjs): the forced cells as the released guide's own fill.sh prints them over the translation 04f6cbb73c11acb8… (all of the seat's roots in one cut). By AI agents, Wed Nov 11 2026. No macro, syntax, notation, axiom, sorry.
-/
import Derived.Test.YtlibccdhncieoaaChecked
import GoSem.Claim
import GoSem.ClaimJoined
import GoSem.ClaimMapViews
import Derived.JoinedTies
import Derived.KernelRfl
namespace Go.Proofs.Ytlibccdhncieoaa
/- THE CELL 'sum', in the pinned program and in every row, IS THE sha256 OF THE DUMP (.gsa) THAT YtlibccdhncieoaaProg.lean LOADS. Nothing in Lean hashes anything: it is a label: what it is worth is what the hold of that sum in a sandbox is worth. -/
noncomputable def Try.pinned : Pinned := { name := "ytlibccdhncieoaa", sum := "04f6cbb73c11acb8a6bb86362224cdd08990938dd04633857f5196f4cabd2d8a", checked := Try.checked }
namespace Rows
def none {H : Type} : Left H := { results := [], args := [] }

/-- 'lockkeeperlaw2.TickAll': WHATEVER THE INPUT: true; the input reads as it did. -/
def tickAllSpec : ChangeSpec := { name := "tickAll", fn := fun _ => fun
  | [d1, d2] => { results := [.lit (.bool true)], args := [d1, d2] }
  | _ => none }
def tickAllRow : OpenClaim := { program := "ytlibccdhncieoaa", sum := "04f6cbb73c11acb8a6bb86362224cdd08990938dd04633857f5196f4cabd2d8a", func := "lockkeeper/lockkeeperlaw2.TickAll", spec := "tickAll", inPlace := ["sync/atomic.StoreUint64", "sync/atomic.LoadUint64"], apart := false }
def TickAllSaid : Prop := tickAllRow.holds Try.pinned (OpenSpec.ofChange tickAllSpec)

/-- ITS FALSE NEIGHBOUR: 'it returns false'. Refute it at one input. -/
def tickAllWrong : ChangeSpec := { name := "tickAll", fn := fun _ => fun
  | [d1, d2] => { results := [.lit (.bool false)], args := [d1, d2] }
  | _ => none }
def TickAllWrongFalsely : Prop := tickAllRow.holds Try.pinned (OpenSpec.ofChange tickAllWrong)

/-- 'lockkeeperlaw2.TickPlays': WHATEVER THE INPUT: true; the input reads as it did. -/
def tickPlaysSpec : ChangeSpec := { name := "tickPlays", fn := fun _ => fun
  | [d1, d2, d3] => { results := [.lit (.bool true)], args := [d1, d2, d3] }
  | _ => none }
def tickPlaysRow : OpenClaim := { program := "ytlibccdhncieoaa", sum := "04f6cbb73c11acb8a6bb86362224cdd08990938dd04633857f5196f4cabd2d8a", func := "lockkeeper/lockkeeperlaw2.TickPlays", spec := "tickPlays", inPlace := ["sync/atomic.StoreUint64", "sync/atomic.LoadUint64"], apart := false }
def TickPlaysSaid : Prop := tickPlaysRow.holds Try.pinned (OpenSpec.ofChange tickPlaysSpec)

/-- ITS FALSE NEIGHBOUR: 'it returns false'. Refute it at one input. -/
def tickPlaysWrong : ChangeSpec := { name := "tickPlays", fn := fun _ => fun
  | [d1, d2, d3] => { results := [.lit (.bool false)], args := [d1, d2, d3] }
  | _ => none }
def TickPlaysWrongFalsely : Prop := tickPlaysRow.holds Try.pinned (OpenSpec.ofChange tickPlaysWrong)

/-- 'lockkeeperlaw2.TickSums': WHATEVER THE INPUT: true; the input reads as it did. -/
def tickSumsSpec : ChangeSpec := { name := "tickSums", fn := fun _ => fun
  | [d1, d2, d3] => { results := [.lit (.bool true)], args := [d1, d2, d3] }
  | _ => none }
def tickSumsRow : OpenClaim := { program := "ytlibccdhncieoaa", sum := "04f6cbb73c11acb8a6bb86362224cdd08990938dd04633857f5196f4cabd2d8a", func := "lockkeeper/lockkeeperlaw2.TickSums", spec := "tickSums", inPlace := ["sync/atomic.StoreUint64", "sync/atomic.LoadUint64"], apart := false }
def TickSumsSaid : Prop := tickSumsRow.holds Try.pinned (OpenSpec.ofChange tickSumsSpec)

/-- ITS FALSE NEIGHBOUR: 'it returns false'. Refute it at one input. -/
def tickSumsWrong : ChangeSpec := { name := "tickSums", fn := fun _ => fun
  | [d1, d2, d3] => { results := [.lit (.bool false)], args := [d1, d2, d3] }
  | _ => none }
def TickSumsWrongFalsely : Prop := tickSumsRow.holds Try.pinned (OpenSpec.ofChange tickSumsWrong)

/-- 'lockkeeperlaw2.TickLefts': WHATEVER THE INPUT: true; the input reads as it did. -/
def tickLeftsSpec : ChangeSpec := { name := "tickLefts", fn := fun _ => fun
  | [d1, d2] => { results := [.lit (.bool true)], args := [d1, d2] }
  | _ => none }
def tickLeftsRow : OpenClaim := { program := "ytlibccdhncieoaa", sum := "04f6cbb73c11acb8a6bb86362224cdd08990938dd04633857f5196f4cabd2d8a", func := "lockkeeper/lockkeeperlaw2.TickLefts", spec := "tickLefts", inPlace := ["sync/atomic.StoreUint64", "sync/atomic.LoadUint64"], apart := false }
def TickLeftsSaid : Prop := tickLeftsRow.holds Try.pinned (OpenSpec.ofChange tickLeftsSpec)

/-- ITS FALSE NEIGHBOUR: 'it returns false'. Refute it at one input. -/
def tickLeftsWrong : ChangeSpec := { name := "tickLefts", fn := fun _ => fun
  | [d1, d2] => { results := [.lit (.bool false)], args := [d1, d2] }
  | _ => none }
def TickLeftsWrongFalsely : Prop := tickLeftsRow.holds Try.pinned (OpenSpec.ofChange tickLeftsWrong)

/-- 'lockkeeperlaw2.TickTwo': WHATEVER THE INPUT: true; the input reads as it did. -/
def tickTwoSpec : ChangeSpec := { name := "tickTwo", fn := fun _ => fun
  | [d1, d2, d3] => { results := [.lit (.bool true)], args := [d1, d2, d3] }
  | _ => none }
def tickTwoRow : OpenClaim := { program := "ytlibccdhncieoaa", sum := "04f6cbb73c11acb8a6bb86362224cdd08990938dd04633857f5196f4cabd2d8a", func := "lockkeeper/lockkeeperlaw2.TickTwo", spec := "tickTwo", inPlace := ["sync/atomic.StoreUint64", "sync/atomic.LoadUint64"], apart := false }
def TickTwoSaid : Prop := tickTwoRow.holds Try.pinned (OpenSpec.ofChange tickTwoSpec)

/-- ITS FALSE NEIGHBOUR: 'it returns false'. Refute it at one input. -/
def tickTwoWrong : ChangeSpec := { name := "tickTwo", fn := fun _ => fun
  | [d1, d2, d3] => { results := [.lit (.bool false)], args := [d1, d2, d3] }
  | _ => none }
def TickTwoWrongFalsely : Prop := tickTwoRow.holds Try.pinned (OpenSpec.ofChange tickTwoWrong)

/- THE SECOND FORM. 'bulk': how many values and letters a reading holds, each counted each time it is reached (what is shared counts as often as it is met; a slice's spare places count too). A statement '..UptoSaid' is the law's where the arguments, and the package variables that the reading takes, are together of bulk at most 1048576: NARROWER than '..Said'. Prove '..Said' where nothing that the law and all that it calls make is longer than what came in: it says more and counts as full. Else prove '..UptoSaid'. A law counts once. -/
mutual
def uptoBulk {H : Type} : DataW H → Nat
  | .lit (.string bytes) => bytes.length + 1
  | .lit _ => 1
  | .nil => 1
  | .ptr d => uptoBulk d + 1
  | .slice elems spare => uptoBulkAll elems + uptoBulkAll spare + 1
  | .agg parts => uptoBulkAll parts + 1
  | .iface _ d => uptoBulk d + 1
  | .map entries => uptoBulkEntries entries + 1
  | .held _ => 1
def uptoBulkAll {H : Type} : List (DataW H) → Nat
  | [] => 0
  | d :: r => uptoBulk d + uptoBulkAll r
def uptoBulkEntries {H : Type} : List (Lit × DataW H) → Nat
  | [] => 0
  | x :: r => uptoBulkEntry x + uptoBulkEntries r
def uptoBulkEntry {H : Type} : Lit × DataW H → Nat
  | (.string bytes, d) => bytes.length + uptoBulk d + 1
  | (_, d) => uptoBulk d + 1
 end
def uptoSmall : (H : Type) → List (DataW H) → Bool := fun _ ds => decide (uptoBulkAll ds ≤ 1048576)
def OpenSpec.upto (s : _root_.Go.ChangeSpec) : _root_.Go.OpenSpec := { _root_.Go.OpenSpec.ofChange s with cond := some uptoSmall }

/-- 'lockkeeperlaw2.TickAll', WHERE WHAT IT READS IS OF BULK AT MOST 1048576: true; the input reads as it did. -/
def tickAllUptoRow : OpenClaim := { program := "ytlibccdhncieoaa", sum := "04f6cbb73c11acb8a6bb86362224cdd08990938dd04633857f5196f4cabd2d8a", func := "lockkeeper/lockkeeperlaw2.TickAll", spec := "tickAll", inPlace := ["sync/atomic.StoreUint64", "sync/atomic.LoadUint64"], apart := false, narrowed := true }
def TickAllUptoSaid : Prop := tickAllUptoRow.holds Try.pinned (OpenSpec.upto tickAllSpec)

/-- 'lockkeeperlaw2.TickPlays', WHERE WHAT IT READS IS OF BULK AT MOST 1048576: true; the input reads as it did. -/
def tickPlaysUptoRow : OpenClaim := { program := "ytlibccdhncieoaa", sum := "04f6cbb73c11acb8a6bb86362224cdd08990938dd04633857f5196f4cabd2d8a", func := "lockkeeper/lockkeeperlaw2.TickPlays", spec := "tickPlays", inPlace := ["sync/atomic.StoreUint64", "sync/atomic.LoadUint64"], apart := false, narrowed := true }
def TickPlaysUptoSaid : Prop := tickPlaysUptoRow.holds Try.pinned (OpenSpec.upto tickPlaysSpec)

/-- 'lockkeeperlaw2.TickSums', WHERE WHAT IT READS IS OF BULK AT MOST 1048576: true; the input reads as it did. -/
def tickSumsUptoRow : OpenClaim := { program := "ytlibccdhncieoaa", sum := "04f6cbb73c11acb8a6bb86362224cdd08990938dd04633857f5196f4cabd2d8a", func := "lockkeeper/lockkeeperlaw2.TickSums", spec := "tickSums", inPlace := ["sync/atomic.StoreUint64", "sync/atomic.LoadUint64"], apart := false, narrowed := true }
def TickSumsUptoSaid : Prop := tickSumsUptoRow.holds Try.pinned (OpenSpec.upto tickSumsSpec)

/-- 'lockkeeperlaw2.TickLefts', WHERE WHAT IT READS IS OF BULK AT MOST 1048576: true; the input reads as it did. -/
def tickLeftsUptoRow : OpenClaim := { program := "ytlibccdhncieoaa", sum := "04f6cbb73c11acb8a6bb86362224cdd08990938dd04633857f5196f4cabd2d8a", func := "lockkeeper/lockkeeperlaw2.TickLefts", spec := "tickLefts", inPlace := ["sync/atomic.StoreUint64", "sync/atomic.LoadUint64"], apart := false, narrowed := true }
def TickLeftsUptoSaid : Prop := tickLeftsUptoRow.holds Try.pinned (OpenSpec.upto tickLeftsSpec)

/-- 'lockkeeperlaw2.TickTwo', WHERE WHAT IT READS IS OF BULK AT MOST 1048576: true; the input reads as it did. -/
def tickTwoUptoRow : OpenClaim := { program := "ytlibccdhncieoaa", sum := "04f6cbb73c11acb8a6bb86362224cdd08990938dd04633857f5196f4cabd2d8a", func := "lockkeeper/lockkeeperlaw2.TickTwo", spec := "tickTwo", inPlace := ["sync/atomic.StoreUint64", "sync/atomic.LoadUint64"], apart := false, narrowed := true }
def TickTwoUptoSaid : Prop := tickTwoUptoRow.holds Try.pinned (OpenSpec.upto tickTwoSpec)

end Rows
end Go.Proofs.Ytlibccdhncieoaa
