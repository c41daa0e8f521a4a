/-
  DERIVED. GIVEN WITH THE SEED: THE CARDS: each row of YtpnajoehhjiigaaDoorRows.lean that lists a variable, with what it lists TIED to the program's text (the seventh form; the later family's looks); each row that meets fmt, with fmt's text TOLD by the authors' own Lean function (tested against real Go, not proved from fmt's source: count such statements apart). THE CARD IS WHAT COUNTS. Prove the row's statement (the work); the ties are given (YtpnajoehhjiigaaDoorTie.lean); close each card by the builder's one call (the guide's Derived/Test/ToyasCard.lean, 'card_holds'). Laid BY PROGRAM, IN A SANDBOX (cutbox-door.mjs). By AI agents, Wed Nov 11 2026. No macro, syntax, notation, axiom, sorry.
-/
import Derived.Test.YtpnajoehhjiigaaDoorRows
import GoSem.ClaimSeven
namespace Go.Proofs.YtpnajoehhjiigaaDoor
namespace Rows

/-- THE TIED CARD OF 'lockkeeperlaw5.MethodAll'. -/
def methodAllCard : Claim7 := { stood := { row := methodAllRow, standIns := [], harness := (true, "f7ed509792199c0c3a40421c89de17f62e3ca12a67611d700abe47d0c40c68ee"), looks := false }, kinds := [], alts := [], laidByText := true, laidKinds := [.data, .data], laidTests := true, laidLooks := .later }
def MethodAllCardSaid : Prop := Claim7.holds Tryd.pinned (.plain (OpenSpec.ofChange methodAllSpec)) methodAllCard

/-- THE TIED CARD OF 'lockkeeperlaw5.MethodTable'. -/
def methodTableCard : Claim7 := { stood := { row := methodTableRow, standIns := [], harness := (true, "f7ed509792199c0c3a40421c89de17f62e3ca12a67611d700abe47d0c40c68ee"), looks := false }, kinds := [], alts := [], laidByText := true, laidKinds := [.data, .data], laidTests := true, laidLooks := .later }
def MethodTableCardSaid : Prop := Claim7.holds Tryd.pinned (.plain (OpenSpec.ofChange methodTableSpec)) methodTableCard

/-- THE TIED CARD OF 'lockkeeperlaw5.MethodNorms'. -/
def methodNormsCard : Claim7 := { stood := { row := methodNormsRow, standIns := [], harness := (true, "f7ed509792199c0c3a40421c89de17f62e3ca12a67611d700abe47d0c40c68ee"), looks := false }, kinds := [], alts := [], laidByText := true, laidKinds := [.data, .data], laidTests := true, laidLooks := .later }
def MethodNormsCardSaid : Prop := Claim7.holds Tryd.pinned (.plain (OpenSpec.ofChange methodNormsSpec)) methodNormsCard

/-- THE TIED CARD OF 'lockkeeperlaw5.MethodSizes'. -/
def methodSizesCard : Claim7 := { stood := { row := methodSizesRow, standIns := [], harness := (true, "f7ed509792199c0c3a40421c89de17f62e3ca12a67611d700abe47d0c40c68ee"), looks := false }, kinds := [], alts := [], laidByText := true, laidKinds := [.data, .data], laidTests := true, laidLooks := .later }
def MethodSizesCardSaid : Prop := Claim7.holds Tryd.pinned (.plain (OpenSpec.ofChange methodSizesSpec)) methodSizesCard

/-- THE SECOND FORM's CARD OF 'lockkeeperlaw5.MethodAll'. -/
def methodAllUptoCard : Claim7 := { stood := { row := methodAllUptoRow, standIns := [], harness := (true, "f7ed509792199c0c3a40421c89de17f62e3ca12a67611d700abe47d0c40c68ee"), looks := false }, kinds := [], alts := [], laidByText := true, laidKinds := [.data, .data], laidTests := true, laidLooks := .later }
def MethodAllUptoCardSaid : Prop := Claim7.holds Tryd.pinned (.plain (OpenSpec.upto methodAllSpec)) methodAllUptoCard

/-- THE SECOND FORM's CARD OF 'lockkeeperlaw5.MethodTable'. -/
def methodTableUptoCard : Claim7 := { stood := { row := methodTableUptoRow, standIns := [], harness := (true, "f7ed509792199c0c3a40421c89de17f62e3ca12a67611d700abe47d0c40c68ee"), looks := false }, kinds := [], alts := [], laidByText := true, laidKinds := [.data, .data], laidTests := true, laidLooks := .later }
def MethodTableUptoCardSaid : Prop := Claim7.holds Tryd.pinned (.plain (OpenSpec.upto methodTableSpec)) methodTableUptoCard

/-- THE SECOND FORM's CARD OF 'lockkeeperlaw5.MethodNorms'. -/
def methodNormsUptoCard : Claim7 := { stood := { row := methodNormsUptoRow, standIns := [], harness := (true, "f7ed509792199c0c3a40421c89de17f62e3ca12a67611d700abe47d0c40c68ee"), looks := false }, kinds := [], alts := [], laidByText := true, laidKinds := [.data, .data], laidTests := true, laidLooks := .later }
def MethodNormsUptoCardSaid : Prop := Claim7.holds Tryd.pinned (.plain (OpenSpec.upto methodNormsSpec)) methodNormsUptoCard

/-- THE SECOND FORM's CARD OF 'lockkeeperlaw5.MethodSizes'. -/
def methodSizesUptoCard : Claim7 := { stood := { row := methodSizesUptoRow, standIns := [], harness := (true, "f7ed509792199c0c3a40421c89de17f62e3ca12a67611d700abe47d0c40c68ee"), looks := false }, kinds := [], alts := [], laidByText := true, laidKinds := [.data, .data], laidTests := true, laidLooks := .later }
def MethodSizesUptoCardSaid : Prop := Claim7.holds Tryd.pinned (.plain (OpenSpec.upto methodSizesSpec)) methodSizesUptoCard
end Rows
end Go.Proofs.YtpnajoehhjiigaaDoor
