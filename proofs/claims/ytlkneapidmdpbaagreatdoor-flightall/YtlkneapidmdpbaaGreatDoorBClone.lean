/-
  The contracts of slices.Clone at entries and of the cache's Entries over this seat's program. Conditions: those of each statement.
-/
import Derived.Test.YtlkneapidmdpbaaGreatDoorBAsk
import Derived.Lib.SliceRun
namespace Go.Proofs.YtlkneapidmdpbaaGreatDoor
open Go.RowKit

/-- all that a value owns is new -/
def NewL (n : Nat) (v : Value) : Prop := ∀ x ∈ ownL v, n ≤ x
end Go.Proofs.YtlkneapidmdpbaaGreatDoor
