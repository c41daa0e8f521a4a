/-
  No cell of these rows narrows 'for every input' (looked for: loops, veiled, ifaces, maps, wideKeys, modest, calm, conditions, laid).
  DERIVED. THE GIVEN ROWS OF THIS SEAT. 3 by the template 'for every input the law returns true; each argument reads behind the call as it read before'; 0 by the template 'total and deterministic' (their statements: YtoafncfknllghaaTotals.lean).
  GIVEN WITH THE SEED: the statements are not yours to turn. If you find one false, say at which input.
  Laid BY PROGRAM, IN A SANDBOX (cutbox-rows.mjs): the forced cells as the released guide's own fill.sh prints them over the translation af1e7fe88bdb860f… (all of the seat's roots in one cut). By AI agents, Wed Nov 11 2026. No macro, syntax, notation, axiom, sorry.
-/
import Derived.Test.YtoafncfknllghaaChecked
import GoSem.Claim
import GoSem.ClaimJoined
import GoSem.ClaimMapViews
import Derived.JoinedTies
import Derived.KernelRfl
namespace Go.Proofs.Ytoafncfknllghaa
/- THE CELL 'sum', in the pinned program and in every row, IS THE sha256 OF THE DUMP (.gsa) THAT YtoafncfknllghaaProg.lean LOADS. Nothing in Lean hashes anything: it is a label: what it is worth is what the hold of that sum in a sandbox is worth. -/
noncomputable def Try.pinned : Pinned := { name := "ytoafncfknllghaa", sum := "af1e7fe88bdb860f8c684aa9fb1c9ceb5ba5f5c829bd8ef17fdbbbf6eae8e853", checked := Try.checked }
namespace Rows
def none {H : Type} : Left H := { results := [], args := [] }

/-- 'lockkeeperlaw16.CacheGood': WHATEVER THE INPUT: true; the input reads as it did. -/
def cacheGoodSpec : ChangeSpec := { name := "cacheGood", fn := fun _ => fun
  | [d1, d2, d3, d4, d5, d6] => { results := [.lit (.bool true)], args := [d1, d2, d3, d4, d5, d6] }
  | _ => none }
def cacheGoodRow : OpenClaim := { program := "ytoafncfknllghaa", sum := "af1e7fe88bdb860f8c684aa9fb1c9ceb5ba5f5c829bd8ef17fdbbbf6eae8e853", func := "lockkeeper/lockkeeperlaw16.CacheGood", spec := "cacheGood", unfollowed := true, recurses := true, apart := false }
def CacheGoodSaid : Prop := cacheGoodRow.holds Try.pinned (OpenSpec.ofChange cacheGoodSpec)

/-- ITS FALSE NEIGHBOUR: 'it returns false'. Refute it at one input. -/
def cacheGoodWrong : ChangeSpec := { name := "cacheGood", fn := fun _ => fun
  | [d1, d2, d3, d4, d5, d6] => { results := [.lit (.bool false)], args := [d1, d2, d3, d4, d5, d6] }
  | _ => none }
def CacheGoodWrongFalsely : Prop := cacheGoodRow.holds Try.pinned (OpenSpec.ofChange cacheGoodWrong)

/-- 'lockkeeperlaw16.CacheRooms': WHATEVER THE INPUT: true; the input reads as it did. -/
def cacheRoomsSpec : ChangeSpec := { name := "cacheRooms", fn := fun _ => fun
  | [d1, d2] => { results := [.lit (.bool true)], args := [d1, d2] }
  | _ => none }
def cacheRoomsRow : OpenClaim := { program := "ytoafncfknllghaa", sum := "af1e7fe88bdb860f8c684aa9fb1c9ceb5ba5f5c829bd8ef17fdbbbf6eae8e853", func := "lockkeeper/lockkeeperlaw16.CacheRooms", spec := "cacheRooms", unfollowed := true, recurses := true, apart := false }
def CacheRoomsSaid : Prop := cacheRoomsRow.holds Try.pinned (OpenSpec.ofChange cacheRoomsSpec)

/-- ITS FALSE NEIGHBOUR: 'it returns false'. Refute it at one input. -/
def cacheRoomsWrong : ChangeSpec := { name := "cacheRooms", fn := fun _ => fun
  | [d1, d2] => { results := [.lit (.bool false)], args := [d1, d2] }
  | _ => none }
def CacheRoomsWrongFalsely : Prop := cacheRoomsRow.holds Try.pinned (OpenSpec.ofChange cacheRoomsWrong)

/-- 'lockkeeperlaw16.CacheAnew': WHATEVER THE INPUT: true; the input reads as it did. -/
def cacheAnewSpec : ChangeSpec := { name := "cacheAnew", fn := fun _ => fun
  | [d1, d2, d3, d4] => { results := [.lit (.bool true)], args := [d1, d2, d3, d4] }
  | _ => none }
def cacheAnewRow : OpenClaim := { program := "ytoafncfknllghaa", sum := "af1e7fe88bdb860f8c684aa9fb1c9ceb5ba5f5c829bd8ef17fdbbbf6eae8e853", func := "lockkeeper/lockkeeperlaw16.CacheAnew", spec := "cacheAnew", unfollowed := true, recurses := true, apart := false }
def CacheAnewSaid : Prop := cacheAnewRow.holds Try.pinned (OpenSpec.ofChange cacheAnewSpec)

/-- ITS FALSE NEIGHBOUR: 'it returns false'. Refute it at one input. -/
def cacheAnewWrong : ChangeSpec := { name := "cacheAnew", fn := fun _ => fun
  | [d1, d2, d3, d4] => { results := [.lit (.bool false)], args := [d1, d2, d3, d4] }
  | _ => none }
def CacheAnewWrongFalsely : Prop := cacheAnewRow.holds Try.pinned (OpenSpec.ofChange cacheAnewWrong)

/- THE SECOND FORM. 'bulk': how many values and letters a reading holds, each counted each time it is reached (what is shared counts as often as it is met; a slice's spare places count too). A statement '..UptoSaid' is the law's where the arguments, and the package variables that the reading takes, are together of bulk at most 1048576: NARROWER than '..Said'. Prove '..Said' where nothing that the law and all that it calls make is longer than what came in: it says more and counts as full. Else prove '..UptoSaid'. A law counts once. -/
mutual
def uptoBulk {H : Type} : DataW H → Nat
  | .lit (.string bytes) => bytes.length + 1
  | .lit _ => 1
  | .nil => 1
  | .ptr d => uptoBulk d + 1
  | .slice elems spare => uptoBulkAll elems + uptoBulkAll spare + 1
  | .agg parts => uptoBulkAll parts + 1
  | .iface _ d => uptoBulk d + 1
  | .map entries => uptoBulkEntries entries + 1
  | .held _ => 1
def uptoBulkAll {H : Type} : List (DataW H) → Nat
  | [] => 0
  | d :: r => uptoBulk d + uptoBulkAll r
def uptoBulkEntries {H : Type} : List (Lit × DataW H) → Nat
  | [] => 0
  | x :: r => uptoBulkEntry x + uptoBulkEntries r
def uptoBulkEntry {H : Type} : Lit × DataW H → Nat
  | (.string bytes, d) => bytes.length + uptoBulk d + 1
  | (_, d) => uptoBulk d + 1
 end
def uptoSmall : (H : Type) → List (DataW H) → Bool := fun _ ds => decide (uptoBulkAll ds ≤ 1048576)
def OpenSpec.upto (s : _root_.Go.ChangeSpec) : _root_.Go.OpenSpec := { _root_.Go.OpenSpec.ofChange s with cond := some uptoSmall }

/-- 'lockkeeperlaw16.CacheGood', WHERE WHAT IT READS IS OF BULK AT MOST 1048576: true; the input reads as it did. -/
def cacheGoodUptoRow : OpenClaim := { program := "ytoafncfknllghaa", sum := "af1e7fe88bdb860f8c684aa9fb1c9ceb5ba5f5c829bd8ef17fdbbbf6eae8e853", func := "lockkeeper/lockkeeperlaw16.CacheGood", spec := "cacheGood", unfollowed := true, recurses := true, apart := false, narrowed := true }
def CacheGoodUptoSaid : Prop := cacheGoodUptoRow.holds Try.pinned (OpenSpec.upto cacheGoodSpec)

/-- 'lockkeeperlaw16.CacheRooms', WHERE WHAT IT READS IS OF BULK AT MOST 1048576: true; the input reads as it did. -/
def cacheRoomsUptoRow : OpenClaim := { program := "ytoafncfknllghaa", sum := "af1e7fe88bdb860f8c684aa9fb1c9ceb5ba5f5c829bd8ef17fdbbbf6eae8e853", func := "lockkeeper/lockkeeperlaw16.CacheRooms", spec := "cacheRooms", unfollowed := true, recurses := true, apart := false, narrowed := true }
def CacheRoomsUptoSaid : Prop := cacheRoomsUptoRow.holds Try.pinned (OpenSpec.upto cacheRoomsSpec)

/-- 'lockkeeperlaw16.CacheAnew', WHERE WHAT IT READS IS OF BULK AT MOST 1048576: true; the input reads as it did. -/
def cacheAnewUptoRow : OpenClaim := { program := "ytoafncfknllghaa", sum := "af1e7fe88bdb860f8c684aa9fb1c9ceb5ba5f5c829bd8ef17fdbbbf6eae8e853", func := "lockkeeper/lockkeeperlaw16.CacheAnew", spec := "cacheAnew", unfollowed := true, recurses := true, apart := false, narrowed := true }
def CacheAnewUptoSaid : Prop := cacheAnewUptoRow.holds Try.pinned (OpenSpec.upto cacheAnewSpec)

end Rows
end Go.Proofs.Ytoafncfknllghaa
