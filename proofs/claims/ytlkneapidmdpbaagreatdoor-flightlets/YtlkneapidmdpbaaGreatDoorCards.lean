/-
  DERIVED. GIVEN WITH THE SEED: THE CARDS: each row of YtlkneapidmdpbaaGreatDoorRows.lean that lists a variable, with what it lists TIED to the program's text (the seventh form; the later family's looks); each row that meets fmt, with fmt's text TOLD by the authors' own Lean function (tested against real Go, not proved from fmt's source: count such statements apart). THE CARD IS WHAT COUNTS. Prove the row's statement (the work); the ties are given (YtlkneapidmdpbaaGreatDoorTie.lean); close each card by the builder's one call (the guide's Derived/Test/ToyasCard.lean, 'card_holds'). Laid BY PROGRAM, IN A SANDBOX (cutbox-door.mjs). By AI agents, Wed Nov 11 2026. No macro, syntax, notation, axiom, sorry.
-/
import Derived.Test.YtlkneapidmdpbaaGreatDoorRows
import GoSem.ClaimSeven
namespace Go.Proofs.YtlkneapidmdpbaaGreatDoor
namespace Rows

/-- THE TIED CARD OF 'lockkeeperlaw17.FlightAll'. -/
def flightAllCard : Claim7 := { stood := { row := flightAllRow, standIns := [], harness := (true, "bf4f27ccbbd02036f6ce80ef53559b1a5dd97d09c6de83eae1debb48ed4b5a69"), looks := false }, kinds := [], alts := [], laidByText := true, laidKinds := [.data, .data, .data, .data, .data], laidTests := true, laidLooks := .later }
def FlightAllCardSaid : Prop := Claim7.holds Tryz.pinned (.plain (OpenSpec.ofChange flightAllSpec)) flightAllCard

/-- THE TIED CARD OF 'lockkeeperlaw17.FlightBuilds'. -/
def flightBuildsCard : Claim7 := { stood := { row := flightBuildsRow, standIns := [], harness := (true, "bf4f27ccbbd02036f6ce80ef53559b1a5dd97d09c6de83eae1debb48ed4b5a69"), looks := false }, kinds := [], alts := [], laidByText := true, laidKinds := [.data, .data, .data, .data, .data], laidTests := true, laidLooks := .later }
def FlightBuildsCardSaid : Prop := Claim7.holds Tryz.pinned (.plain (OpenSpec.ofChange flightBuildsSpec)) flightBuildsCard

/-- THE TIED CARD OF 'lockkeeperlaw17.FlightLets'. -/
def flightLetsCard : Claim7 := { stood := { row := flightLetsRow, standIns := [], harness := (true, "bf4f27ccbbd02036f6ce80ef53559b1a5dd97d09c6de83eae1debb48ed4b5a69"), looks := false }, kinds := [], alts := [], laidByText := true, laidKinds := [.data, .data, .data, .data, .data], laidTests := true, laidLooks := .later }
def FlightLetsCardSaid : Prop := Claim7.holds Tryz.pinned (.plain (OpenSpec.ofChange flightLetsSpec)) flightLetsCard

/-- THE TIED CARD OF 'lockkeeperlaw17.FlightGrants'. -/
def flightGrantsCard : Claim7 := { stood := { row := flightGrantsRow, standIns := [], harness := (true, "bf4f27ccbbd02036f6ce80ef53559b1a5dd97d09c6de83eae1debb48ed4b5a69"), looks := false }, kinds := [], alts := [], laidByText := true, laidKinds := [.data, .data, .data, .data, .data], laidTests := true, laidLooks := .later }
def FlightGrantsCardSaid : Prop := Claim7.holds Tryz.pinned (.plain (OpenSpec.ofChange flightGrantsSpec)) flightGrantsCard

/-- THE TIED CARD OF 'lockkeeperlaw17.FlightOthers'. -/
def flightOthersCard : Claim7 := { stood := { row := flightOthersRow, standIns := [], harness := (true, "bf4f27ccbbd02036f6ce80ef53559b1a5dd97d09c6de83eae1debb48ed4b5a69"), looks := false }, kinds := [], alts := [], laidByText := true, laidKinds := [.data, .data, .data, .data, .data], laidTests := true, laidLooks := .later }
def FlightOthersCardSaid : Prop := Claim7.holds Tryz.pinned (.plain (OpenSpec.ofChange flightOthersSpec)) flightOthersCard

/-- THE SECOND FORM's CARD OF 'lockkeeperlaw17.FlightAll'. -/
def flightAllUptoCard : Claim7 := { stood := { row := flightAllUptoRow, standIns := [], harness := (true, "bf4f27ccbbd02036f6ce80ef53559b1a5dd97d09c6de83eae1debb48ed4b5a69"), looks := false }, kinds := [], alts := [], laidByText := true, laidKinds := [.data, .data, .data, .data, .data], laidTests := true, laidLooks := .later }
def FlightAllUptoCardSaid : Prop := Claim7.holds Tryz.pinned (.plain (OpenSpec.upto flightAllSpec)) flightAllUptoCard

/-- THE SECOND FORM's CARD OF 'lockkeeperlaw17.FlightBuilds'. -/
def flightBuildsUptoCard : Claim7 := { stood := { row := flightBuildsUptoRow, standIns := [], harness := (true, "bf4f27ccbbd02036f6ce80ef53559b1a5dd97d09c6de83eae1debb48ed4b5a69"), looks := false }, kinds := [], alts := [], laidByText := true, laidKinds := [.data, .data, .data, .data, .data], laidTests := true, laidLooks := .later }
def FlightBuildsUptoCardSaid : Prop := Claim7.holds Tryz.pinned (.plain (OpenSpec.upto flightBuildsSpec)) flightBuildsUptoCard

/-- THE SECOND FORM's CARD OF 'lockkeeperlaw17.FlightLets'. -/
def flightLetsUptoCard : Claim7 := { stood := { row := flightLetsUptoRow, standIns := [], harness := (true, "bf4f27ccbbd02036f6ce80ef53559b1a5dd97d09c6de83eae1debb48ed4b5a69"), looks := false }, kinds := [], alts := [], laidByText := true, laidKinds := [.data, .data, .data, .data, .data], laidTests := true, laidLooks := .later }
def FlightLetsUptoCardSaid : Prop := Claim7.holds Tryz.pinned (.plain (OpenSpec.upto flightLetsSpec)) flightLetsUptoCard

/-- THE SECOND FORM's CARD OF 'lockkeeperlaw17.FlightGrants'. -/
def flightGrantsUptoCard : Claim7 := { stood := { row := flightGrantsUptoRow, standIns := [], harness := (true, "bf4f27ccbbd02036f6ce80ef53559b1a5dd97d09c6de83eae1debb48ed4b5a69"), looks := false }, kinds := [], alts := [], laidByText := true, laidKinds := [.data, .data, .data, .data, .data], laidTests := true, laidLooks := .later }
def FlightGrantsUptoCardSaid : Prop := Claim7.holds Tryz.pinned (.plain (OpenSpec.upto flightGrantsSpec)) flightGrantsUptoCard

/-- THE SECOND FORM's CARD OF 'lockkeeperlaw17.FlightOthers'. -/
def flightOthersUptoCard : Claim7 := { stood := { row := flightOthersUptoRow, standIns := [], harness := (true, "bf4f27ccbbd02036f6ce80ef53559b1a5dd97d09c6de83eae1debb48ed4b5a69"), looks := false }, kinds := [], alts := [], laidByText := true, laidKinds := [.data, .data, .data, .data, .data], laidTests := true, laidLooks := .later }
def FlightOthersUptoCardSaid : Prop := Claim7.holds Tryz.pinned (.plain (OpenSpec.upto flightOthersSpec)) flightOthersUptoCard
end Rows
end Go.Proofs.YtlkneapidmdpbaaGreatDoor
