/-
  No cell of these rows narrows 'for every input' (looked for: loops, veiled, ifaces, maps, wideKeys, modest, calm, conditions, laid).
  DERIVED. THE GIVEN ROWS OF THIS SEAT. 5 by the template 'for every input the law returns true; each argument reads behind the call as it read before'; 0 by the template 'total and deterministic' (their statements: YtbnmldfiheffoaaTotals.lean).
  GIVEN WITH THE SEED: the statements are not yours to turn. If you find one false, say at which input.
  Laid BY PROGRAM, IN A SANDBOX (cutbox-rows.mjs): the forced cells as the released guide's own fill.sh prints them over the translation 8f8c4fb8ab60a0ac… (all of the seat's roots in one cut). By AI agents, Wed Nov 11 2026. No macro, syntax, notation, axiom, sorry.
-/
import Derived.Test.YtbnmldfiheffoaaChecked
import GoSem.Claim
import GoSem.ClaimJoined
import GoSem.ClaimMapViews
import Derived.JoinedTies
import Derived.KernelRfl
namespace Go.Proofs.Ytbnmldfiheffoaa
/- THE CELL 'sum', in the pinned program and in every row, IS THE sha256 OF THE DUMP (.gsa) THAT YtbnmldfiheffoaaProg.lean LOADS. Nothing in Lean hashes anything: it is a label: what it is worth is what the hold of that sum in a sandbox is worth. -/
noncomputable def Try.pinned : Pinned := { name := "ytbnmldfiheffoaa", sum := "8f8c4fb8ab60a0ac910a8ea9cbe9dacbc58acc4821b00209a0732a47e683da75", checked := Try.checked }
namespace Rows
def none {H : Type} : Left H := { results := [], args := [] }

/-- 'lockkeeperlaw13.PoolPlays': WHATEVER THE INPUT: true; the input reads as it did. -/
def poolPlaysSpec : ChangeSpec := { name := "poolPlays", fn := fun _ => fun
  | [d1, d2, d3, d4] => { results := [.lit (.bool true)], args := [d1, d2, d3, d4] }
  | _ => none }
def poolPlaysRow : OpenClaim := { program := "ytbnmldfiheffoaa", sum := "8f8c4fb8ab60a0ac910a8ea9cbe9dacbc58acc4821b00209a0732a47e683da75", func := "lockkeeper/lockkeeperlaw13.PoolPlays", spec := "poolPlays", inPlace := ["sync/atomic.StoreInt64", "sync/atomic.AddInt64"], unfollowed := true, recurses := true, apart := false }
def PoolPlaysSaid : Prop := poolPlaysRow.holds Try.pinned (OpenSpec.ofChange poolPlaysSpec)

/-- ITS FALSE NEIGHBOUR: 'it returns false'. Refute it at one input. -/
def poolPlaysWrong : ChangeSpec := { name := "poolPlays", fn := fun _ => fun
  | [d1, d2, d3, d4] => { results := [.lit (.bool false)], args := [d1, d2, d3, d4] }
  | _ => none }
def PoolPlaysWrongFalsely : Prop := poolPlaysRow.holds Try.pinned (OpenSpec.ofChange poolPlaysWrong)

/-- 'lockkeeperlaw13.PoolLimits': WHATEVER THE INPUT: true; the input reads as it did. -/
def poolLimitsSpec : ChangeSpec := { name := "poolLimits", fn := fun _ => fun
  | [d1, d2] => { results := [.lit (.bool true)], args := [d1, d2] }
  | _ => none }
def poolLimitsRow : OpenClaim := { program := "ytbnmldfiheffoaa", sum := "8f8c4fb8ab60a0ac910a8ea9cbe9dacbc58acc4821b00209a0732a47e683da75", func := "lockkeeper/lockkeeperlaw13.PoolLimits", spec := "poolLimits", inPlace := ["sync/atomic.StoreInt64", "sync/atomic.AddInt64"], unfollowed := true, recurses := true, apart := false }
def PoolLimitsSaid : Prop := poolLimitsRow.holds Try.pinned (OpenSpec.ofChange poolLimitsSpec)

/-- ITS FALSE NEIGHBOUR: 'it returns false'. Refute it at one input. -/
def poolLimitsWrong : ChangeSpec := { name := "poolLimits", fn := fun _ => fun
  | [d1, d2] => { results := [.lit (.bool false)], args := [d1, d2] }
  | _ => none }
def PoolLimitsWrongFalsely : Prop := poolLimitsRow.holds Try.pinned (OpenSpec.ofChange poolLimitsWrong)

/-- 'lockkeeperlaw13.PoolAgain': WHATEVER THE INPUT: true; the input reads as it did. -/
def poolAgainSpec : ChangeSpec := { name := "poolAgain", fn := fun _ => fun
  | [d1, d2, d3, d4, d5] => { results := [.lit (.bool true)], args := [d1, d2, d3, d4, d5] }
  | _ => none }
def poolAgainRow : OpenClaim := { program := "ytbnmldfiheffoaa", sum := "8f8c4fb8ab60a0ac910a8ea9cbe9dacbc58acc4821b00209a0732a47e683da75", func := "lockkeeper/lockkeeperlaw13.PoolAgain", spec := "poolAgain", inPlace := ["sync/atomic.StoreInt64", "sync/atomic.AddInt64"], unfollowed := true, recurses := true, apart := false }
def PoolAgainSaid : Prop := poolAgainRow.holds Try.pinned (OpenSpec.ofChange poolAgainSpec)

/-- ITS FALSE NEIGHBOUR: 'it returns false'. Refute it at one input. -/
def poolAgainWrong : ChangeSpec := { name := "poolAgain", fn := fun _ => fun
  | [d1, d2, d3, d4, d5] => { results := [.lit (.bool false)], args := [d1, d2, d3, d4, d5] }
  | _ => none }
def PoolAgainWrongFalsely : Prop := poolAgainRow.holds Try.pinned (OpenSpec.ofChange poolAgainWrong)

/-- 'lockkeeperlaw13.PoolNewest': WHATEVER THE INPUT: true; the input reads as it did. -/
def poolNewestSpec : ChangeSpec := { name := "poolNewest", fn := fun _ => fun
  | [d1, d2] => { results := [.lit (.bool true)], args := [d1, d2] }
  | _ => none }
def poolNewestRow : OpenClaim := { program := "ytbnmldfiheffoaa", sum := "8f8c4fb8ab60a0ac910a8ea9cbe9dacbc58acc4821b00209a0732a47e683da75", func := "lockkeeper/lockkeeperlaw13.PoolNewest", spec := "poolNewest", inPlace := ["sync/atomic.StoreInt64", "sync/atomic.AddInt64"], unfollowed := true, recurses := true, apart := false }
def PoolNewestSaid : Prop := poolNewestRow.holds Try.pinned (OpenSpec.ofChange poolNewestSpec)

/-- ITS FALSE NEIGHBOUR: 'it returns false'. Refute it at one input. -/
def poolNewestWrong : ChangeSpec := { name := "poolNewest", fn := fun _ => fun
  | [d1, d2] => { results := [.lit (.bool false)], args := [d1, d2] }
  | _ => none }
def PoolNewestWrongFalsely : Prop := poolNewestRow.holds Try.pinned (OpenSpec.ofChange poolNewestWrong)

/-- 'lockkeeperlaw13.PoolExpires': WHATEVER THE INPUT: true; the input reads as it did. -/
def poolExpiresSpec : ChangeSpec := { name := "poolExpires", fn := fun _ => fun
  | [d1, d2, d3] => { results := [.lit (.bool true)], args := [d1, d2, d3] }
  | _ => none }
def poolExpiresRow : OpenClaim := { program := "ytbnmldfiheffoaa", sum := "8f8c4fb8ab60a0ac910a8ea9cbe9dacbc58acc4821b00209a0732a47e683da75", func := "lockkeeper/lockkeeperlaw13.PoolExpires", spec := "poolExpires", inPlace := ["sync/atomic.StoreInt64", "sync/atomic.AddInt64"], unfollowed := true, recurses := true, apart := false }
def PoolExpiresSaid : Prop := poolExpiresRow.holds Try.pinned (OpenSpec.ofChange poolExpiresSpec)

/-- ITS FALSE NEIGHBOUR: 'it returns false'. Refute it at one input. -/
def poolExpiresWrong : ChangeSpec := { name := "poolExpires", fn := fun _ => fun
  | [d1, d2, d3] => { results := [.lit (.bool false)], args := [d1, d2, d3] }
  | _ => none }
def PoolExpiresWrongFalsely : Prop := poolExpiresRow.holds Try.pinned (OpenSpec.ofChange poolExpiresWrong)

/- THE SECOND FORM. 'bulk': how many values and letters a reading holds, each counted each time it is reached (what is shared counts as often as it is met; a slice's spare places count too). A statement '..UptoSaid' is the law's where the arguments, and the package variables that the reading takes, are together of bulk at most 1048576: NARROWER than '..Said'. Prove '..Said' where nothing that the law and all that it calls make is longer than what came in: it says more and counts as full. Else prove '..UptoSaid'. A law counts once. -/
mutual
def uptoBulk {H : Type} : DataW H → Nat
  | .lit (.string bytes) => bytes.length + 1
  | .lit _ => 1
  | .nil => 1
  | .ptr d => uptoBulk d + 1
  | .slice elems spare => uptoBulkAll elems + uptoBulkAll spare + 1
  | .agg parts => uptoBulkAll parts + 1
  | .iface _ d => uptoBulk d + 1
  | .map entries => uptoBulkEntries entries + 1
  | .held _ => 1
def uptoBulkAll {H : Type} : List (DataW H) → Nat
  | [] => 0
  | d :: r => uptoBulk d + uptoBulkAll r
def uptoBulkEntries {H : Type} : List (Lit × DataW H) → Nat
  | [] => 0
  | x :: r => uptoBulkEntry x + uptoBulkEntries r
def uptoBulkEntry {H : Type} : Lit × DataW H → Nat
  | (.string bytes, d) => bytes.length + uptoBulk d + 1
  | (_, d) => uptoBulk d + 1
 end
def uptoSmall : (H : Type) → List (DataW H) → Bool := fun _ ds => decide (uptoBulkAll ds ≤ 1048576)
def OpenSpec.upto (s : _root_.Go.ChangeSpec) : _root_.Go.OpenSpec := { _root_.Go.OpenSpec.ofChange s with cond := some uptoSmall }

/-- 'lockkeeperlaw13.PoolPlays', WHERE WHAT IT READS IS OF BULK AT MOST 1048576: true; the input reads as it did. -/
def poolPlaysUptoRow : OpenClaim := { program := "ytbnmldfiheffoaa", sum := "8f8c4fb8ab60a0ac910a8ea9cbe9dacbc58acc4821b00209a0732a47e683da75", func := "lockkeeper/lockkeeperlaw13.PoolPlays", spec := "poolPlays", inPlace := ["sync/atomic.StoreInt64", "sync/atomic.AddInt64"], unfollowed := true, recurses := true, apart := false, narrowed := true }
def PoolPlaysUptoSaid : Prop := poolPlaysUptoRow.holds Try.pinned (OpenSpec.upto poolPlaysSpec)

/-- 'lockkeeperlaw13.PoolLimits', WHERE WHAT IT READS IS OF BULK AT MOST 1048576: true; the input reads as it did. -/
def poolLimitsUptoRow : OpenClaim := { program := "ytbnmldfiheffoaa", sum := "8f8c4fb8ab60a0ac910a8ea9cbe9dacbc58acc4821b00209a0732a47e683da75", func := "lockkeeper/lockkeeperlaw13.PoolLimits", spec := "poolLimits", inPlace := ["sync/atomic.StoreInt64", "sync/atomic.AddInt64"], unfollowed := true, recurses := true, apart := false, narrowed := true }
def PoolLimitsUptoSaid : Prop := poolLimitsUptoRow.holds Try.pinned (OpenSpec.upto poolLimitsSpec)

/-- 'lockkeeperlaw13.PoolAgain', WHERE WHAT IT READS IS OF BULK AT MOST 1048576: true; the input reads as it did. -/
def poolAgainUptoRow : OpenClaim := { program := "ytbnmldfiheffoaa", sum := "8f8c4fb8ab60a0ac910a8ea9cbe9dacbc58acc4821b00209a0732a47e683da75", func := "lockkeeper/lockkeeperlaw13.PoolAgain", spec := "poolAgain", inPlace := ["sync/atomic.StoreInt64", "sync/atomic.AddInt64"], unfollowed := true, recurses := true, apart := false, narrowed := true }
def PoolAgainUptoSaid : Prop := poolAgainUptoRow.holds Try.pinned (OpenSpec.upto poolAgainSpec)

/-- 'lockkeeperlaw13.PoolNewest', WHERE WHAT IT READS IS OF BULK AT MOST 1048576: true; the input reads as it did. -/
def poolNewestUptoRow : OpenClaim := { program := "ytbnmldfiheffoaa", sum := "8f8c4fb8ab60a0ac910a8ea9cbe9dacbc58acc4821b00209a0732a47e683da75", func := "lockkeeper/lockkeeperlaw13.PoolNewest", spec := "poolNewest", inPlace := ["sync/atomic.StoreInt64", "sync/atomic.AddInt64"], unfollowed := true, recurses := true, apart := false, narrowed := true }
def PoolNewestUptoSaid : Prop := poolNewestUptoRow.holds Try.pinned (OpenSpec.upto poolNewestSpec)

/-- 'lockkeeperlaw13.PoolExpires', WHERE WHAT IT READS IS OF BULK AT MOST 1048576: true; the input reads as it did. -/
def poolExpiresUptoRow : OpenClaim := { program := "ytbnmldfiheffoaa", sum := "8f8c4fb8ab60a0ac910a8ea9cbe9dacbc58acc4821b00209a0732a47e683da75", func := "lockkeeper/lockkeeperlaw13.PoolExpires", spec := "poolExpires", inPlace := ["sync/atomic.StoreInt64", "sync/atomic.AddInt64"], unfollowed := true, recurses := true, apart := false, narrowed := true }
def PoolExpiresUptoSaid : Prop := poolExpiresUptoRow.holds Try.pinned (OpenSpec.upto poolExpiresSpec)

end Rows
end Go.Proofs.Ytbnmldfiheffoaa
