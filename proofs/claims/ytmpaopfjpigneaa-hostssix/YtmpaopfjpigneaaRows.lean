/-
  No cell of these rows narrows 'for every input' (looked for: loops, veiled, ifaces, maps, wideKeys, modest, calm, conditions, laid).
  DERIVED. THE GIVEN ROWS OF THIS SEAT. 4 by the template 'for every input the law returns true; each argument reads behind the call as it read before'; 0 by the template 'total and deterministic' (their statements: YtmpaopfjpigneaaTotals.lean).
  GIVEN WITH THE SEED: the statements are not yours to turn. If you find one false, say at which input.
  Laid BY PROGRAM, IN A SANDBOX (cutbox-rows.mjs): the forced cells as the released guide's own fill.sh prints them over the translation eb47a49e8f2fb531… (all of the seat's roots in one cut). By AI agents, Wed Nov 11 2026. No macro, syntax, notation, axiom, sorry.
-/
import Derived.Test.YtmpaopfjpigneaaChecked
import GoSem.Claim
import GoSem.ClaimJoined
import GoSem.ClaimMapViews
import Derived.JoinedTies
import Derived.KernelRfl
namespace Go.Proofs.Ytmpaopfjpigneaa
/- THE CELL 'sum', in the pinned program and in every row, IS THE sha256 OF THE DUMP (.gsa) THAT YtmpaopfjpigneaaProg.lean LOADS. Nothing in Lean hashes anything: it is a label: what it is worth is what the hold of that sum in a sandbox is worth. -/
noncomputable def Try.pinned : Pinned := { name := "ytmpaopfjpigneaa", sum := "eb47a49e8f2fb5313904dfb81527edcb537e7d14203f10b9804803e80b227a79", checked := Try.checked }
namespace Rows
def none {H : Type} : Left H := { results := [], args := [] }

/-- 'lockkeeperlaw12.HostsPlays': WHATEVER THE INPUT: true; the input reads as it did. -/
def hostsPlaysSpec : ChangeSpec := { name := "hostsPlays", fn := fun _ => fun
  | [d1, d2, d3] => { results := [.lit (.bool true)], args := [d1, d2, d3] }
  | _ => none }
def hostsPlaysRow : OpenClaim := { program := "ytmpaopfjpigneaa", sum := "eb47a49e8f2fb5313904dfb81527edcb537e7d14203f10b9804803e80b227a79", func := "lockkeeper/lockkeeperlaw12.HostsPlays", spec := "hostsPlays", unfollowed := true, recurses := true, apart := false }
def HostsPlaysSaid : Prop := hostsPlaysRow.holds Try.pinned (OpenSpec.ofChange hostsPlaysSpec)

/-- ITS FALSE NEIGHBOUR: 'it returns false'. Refute it at one input. -/
def hostsPlaysWrong : ChangeSpec := { name := "hostsPlays", fn := fun _ => fun
  | [d1, d2, d3] => { results := [.lit (.bool false)], args := [d1, d2, d3] }
  | _ => none }
def HostsPlaysWrongFalsely : Prop := hostsPlaysRow.holds Try.pinned (OpenSpec.ofChange hostsPlaysWrong)

/-- 'lockkeeperlaw12.HostsSix': WHATEVER THE INPUT: true; the input reads as it did. -/
def hostsSixSpec : ChangeSpec := { name := "hostsSix", fn := fun _ => fun
  | [d1, d2] => { results := [.lit (.bool true)], args := [d1, d2] }
  | _ => none }
def hostsSixRow : OpenClaim := { program := "ytmpaopfjpigneaa", sum := "eb47a49e8f2fb5313904dfb81527edcb537e7d14203f10b9804803e80b227a79", func := "lockkeeper/lockkeeperlaw12.HostsSix", spec := "hostsSix", unfollowed := true, recurses := true, apart := false }
def HostsSixSaid : Prop := hostsSixRow.holds Try.pinned (OpenSpec.ofChange hostsSixSpec)

/-- ITS FALSE NEIGHBOUR: 'it returns false'. Refute it at one input. -/
def hostsSixWrong : ChangeSpec := { name := "hostsSix", fn := fun _ => fun
  | [d1, d2] => { results := [.lit (.bool false)], args := [d1, d2] }
  | _ => none }
def HostsSixWrongFalsely : Prop := hostsSixRow.holds Try.pinned (OpenSpec.ofChange hostsSixWrong)

/-- 'lockkeeperlaw12.HostsEldest': WHATEVER THE INPUT: true; the input reads as it did. -/
def hostsEldestSpec : ChangeSpec := { name := "hostsEldest", fn := fun _ => fun
  | [d1, d2] => { results := [.lit (.bool true)], args := [d1, d2] }
  | _ => none }
def hostsEldestRow : OpenClaim := { program := "ytmpaopfjpigneaa", sum := "eb47a49e8f2fb5313904dfb81527edcb537e7d14203f10b9804803e80b227a79", func := "lockkeeper/lockkeeperlaw12.HostsEldest", spec := "hostsEldest", unfollowed := true, recurses := true, apart := false }
def HostsEldestSaid : Prop := hostsEldestRow.holds Try.pinned (OpenSpec.ofChange hostsEldestSpec)

/-- ITS FALSE NEIGHBOUR: 'it returns false'. Refute it at one input. -/
def hostsEldestWrong : ChangeSpec := { name := "hostsEldest", fn := fun _ => fun
  | [d1, d2] => { results := [.lit (.bool false)], args := [d1, d2] }
  | _ => none }
def HostsEldestWrongFalsely : Prop := hostsEldestRow.holds Try.pinned (OpenSpec.ofChange hostsEldestWrong)

/-- 'lockkeeperlaw12.HostsOrder': WHATEVER THE INPUT: true; the input reads as it did. -/
def hostsOrderSpec : ChangeSpec := { name := "hostsOrder", fn := fun _ => fun
  | [d] => { results := [.lit (.bool true)], args := [d] }
  | _ => none }
def hostsOrderRow : OpenClaim := { program := "ytmpaopfjpigneaa", sum := "eb47a49e8f2fb5313904dfb81527edcb537e7d14203f10b9804803e80b227a79", func := "lockkeeper/lockkeeperlaw12.HostsOrder", spec := "hostsOrder", unfollowed := true, recurses := true, apart := false }
def HostsOrderSaid : Prop := hostsOrderRow.holds Try.pinned (OpenSpec.ofChange hostsOrderSpec)

/-- ITS FALSE NEIGHBOUR: 'it returns false'. Refute it at one input. -/
def hostsOrderWrong : ChangeSpec := { name := "hostsOrder", fn := fun _ => fun
  | [d] => { results := [.lit (.bool false)], args := [d] }
  | _ => none }
def HostsOrderWrongFalsely : Prop := hostsOrderRow.holds Try.pinned (OpenSpec.ofChange hostsOrderWrong)

/- THE SECOND FORM. 'bulk': how many values and letters a reading holds, each counted each time it is reached (what is shared counts as often as it is met; a slice's spare places count too). A statement '..UptoSaid' is the law's where the arguments, and the package variables that the reading takes, are together of bulk at most 1048576: NARROWER than '..Said'. Prove '..Said' where nothing that the law and all that it calls make is longer than what came in: it says more and counts as full. Else prove '..UptoSaid'. A law counts once. -/
mutual
def uptoBulk {H : Type} : DataW H → Nat
  | .lit (.string bytes) => bytes.length + 1
  | .lit _ => 1
  | .nil => 1
  | .ptr d => uptoBulk d + 1
  | .slice elems spare => uptoBulkAll elems + uptoBulkAll spare + 1
  | .agg parts => uptoBulkAll parts + 1
  | .iface _ d => uptoBulk d + 1
  | .map entries => uptoBulkEntries entries + 1
  | .held _ => 1
def uptoBulkAll {H : Type} : List (DataW H) → Nat
  | [] => 0
  | d :: r => uptoBulk d + uptoBulkAll r
def uptoBulkEntries {H : Type} : List (Lit × DataW H) → Nat
  | [] => 0
  | x :: r => uptoBulkEntry x + uptoBulkEntries r
def uptoBulkEntry {H : Type} : Lit × DataW H → Nat
  | (.string bytes, d) => bytes.length + uptoBulk d + 1
  | (_, d) => uptoBulk d + 1
 end
def uptoSmall : (H : Type) → List (DataW H) → Bool := fun _ ds => decide (uptoBulkAll ds ≤ 1048576)
def OpenSpec.upto (s : _root_.Go.ChangeSpec) : _root_.Go.OpenSpec := { _root_.Go.OpenSpec.ofChange s with cond := some uptoSmall }

/-- 'lockkeeperlaw12.HostsPlays', WHERE WHAT IT READS IS OF BULK AT MOST 1048576: true; the input reads as it did. -/
def hostsPlaysUptoRow : OpenClaim := { program := "ytmpaopfjpigneaa", sum := "eb47a49e8f2fb5313904dfb81527edcb537e7d14203f10b9804803e80b227a79", func := "lockkeeper/lockkeeperlaw12.HostsPlays", spec := "hostsPlays", unfollowed := true, recurses := true, apart := false, narrowed := true }
def HostsPlaysUptoSaid : Prop := hostsPlaysUptoRow.holds Try.pinned (OpenSpec.upto hostsPlaysSpec)

/-- 'lockkeeperlaw12.HostsSix', WHERE WHAT IT READS IS OF BULK AT MOST 1048576: true; the input reads as it did. -/
def hostsSixUptoRow : OpenClaim := { program := "ytmpaopfjpigneaa", sum := "eb47a49e8f2fb5313904dfb81527edcb537e7d14203f10b9804803e80b227a79", func := "lockkeeper/lockkeeperlaw12.HostsSix", spec := "hostsSix", unfollowed := true, recurses := true, apart := false, narrowed := true }
def HostsSixUptoSaid : Prop := hostsSixUptoRow.holds Try.pinned (OpenSpec.upto hostsSixSpec)

/-- 'lockkeeperlaw12.HostsEldest', WHERE WHAT IT READS IS OF BULK AT MOST 1048576: true; the input reads as it did. -/
def hostsEldestUptoRow : OpenClaim := { program := "ytmpaopfjpigneaa", sum := "eb47a49e8f2fb5313904dfb81527edcb537e7d14203f10b9804803e80b227a79", func := "lockkeeper/lockkeeperlaw12.HostsEldest", spec := "hostsEldest", unfollowed := true, recurses := true, apart := false, narrowed := true }
def HostsEldestUptoSaid : Prop := hostsEldestUptoRow.holds Try.pinned (OpenSpec.upto hostsEldestSpec)

/-- 'lockkeeperlaw12.HostsOrder', WHERE WHAT IT READS IS OF BULK AT MOST 1048576: true; the input reads as it did. -/
def hostsOrderUptoRow : OpenClaim := { program := "ytmpaopfjpigneaa", sum := "eb47a49e8f2fb5313904dfb81527edcb537e7d14203f10b9804803e80b227a79", func := "lockkeeper/lockkeeperlaw12.HostsOrder", spec := "hostsOrder", unfollowed := true, recurses := true, apart := false, narrowed := true }
def HostsOrderUptoSaid : Prop := hostsOrderUptoRow.holds Try.pinned (OpenSpec.upto hostsOrderSpec)

end Rows
end Go.Proofs.Ytmpaopfjpigneaa
