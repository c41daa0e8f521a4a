/-
  DERIVED. GIVEN WITH THE SEED: THE CARDS: each row of YtbnkfocaegcjdaaDoorRows.lean that lists a variable, with what it lists TIED to the program's text (the seventh form; the later family's looks); each row that meets fmt, with fmt's text TOLD by the authors' own Lean function (tested against real Go, not proved from fmt's source: count such statements apart). THE CARD IS WHAT COUNTS. Prove the row's statement (the work); the ties are given (YtbnkfocaegcjdaaDoorTie.lean); close each card by the builder's one call (the guide's Derived/Test/ToyasCard.lean, 'card_holds'). Laid BY PROGRAM, IN A SANDBOX (cutbox-door.mjs). By AI agents, Wed Nov 11 2026. No macro, syntax, notation, axiom, sorry.
-/
import Derived.Test.YtbnkfocaegcjdaaDoorRows
import GoSem.ClaimSeven
namespace Go.Proofs.YtbnkfocaegcjdaaDoor
namespace Rows

/-- THE TIED CARD OF 'lockkeeperlaw3.OriginAll'. -/
def originAllCard : Claim7 := { stood := { row := originAllRow, standIns := [], harness := (true, "fc38cb25a7b8d65897ae1c57a4ff44b256b73c5445d27eb7d2f4f70f91700bb1"), looks := false }, kinds := [], alts := [], laidByText := true, laidKinds := [.data, .data, .data], laidTests := true, laidLooks := .later }
def OriginAllCardSaid : Prop := Claim7.holds Tryd.pinned (.plain (OpenSpec.ofChange originAllSpec)) originAllCard

/-- THE TIED CARD OF 'lockkeeperlaw3.OriginBack'. -/
def originBackCard : Claim7 := { stood := { row := originBackRow, standIns := [], harness := (true, "fc38cb25a7b8d65897ae1c57a4ff44b256b73c5445d27eb7d2f4f70f91700bb1"), looks := false }, kinds := [], alts := [], laidByText := true, laidKinds := [.data, .data, .data], laidTests := true, laidLooks := .later }
def OriginBackCardSaid : Prop := Claim7.holds Tryd.pinned (.plain (OpenSpec.ofChange originBackSpec)) originBackCard

/-- THE TIED CARD OF 'lockkeeperlaw3.OriginCases'. -/
def originCasesCard : Claim7 := { stood := { row := originCasesRow, standIns := [], harness := (true, "fc38cb25a7b8d65897ae1c57a4ff44b256b73c5445d27eb7d2f4f70f91700bb1"), looks := false }, kinds := [], alts := [], laidByText := true, laidKinds := [.data, .data, .data], laidTests := true, laidLooks := .later }
def OriginCasesCardSaid : Prop := Claim7.holds Tryd.pinned (.plain (OpenSpec.ofChange originCasesSpec)) originCasesCard

/-- THE TIED CARD OF 'lockkeeperlaw3.OriginPorts'. -/
def originPortsCard : Claim7 := { stood := { row := originPortsRow, standIns := [], harness := (true, "fc38cb25a7b8d65897ae1c57a4ff44b256b73c5445d27eb7d2f4f70f91700bb1"), looks := false }, kinds := [], alts := [], laidByText := true, laidKinds := [.data, .data, .data], laidTests := true, laidLooks := .later }
def OriginPortsCardSaid : Prop := Claim7.holds Tryd.pinned (.plain (OpenSpec.ofChange originPortsSpec)) originPortsCard

/-- THE TIED CARD OF 'lockkeeperlaw3.OriginLabels'. -/
def originLabelsCard : Claim7 := { stood := { row := originLabelsRow, standIns := [], harness := (true, "fc38cb25a7b8d65897ae1c57a4ff44b256b73c5445d27eb7d2f4f70f91700bb1"), looks := false }, kinds := [], alts := [], laidByText := true, laidKinds := [.data, .data, .data], laidTests := true, laidLooks := .later }
def OriginLabelsCardSaid : Prop := Claim7.holds Tryd.pinned (.plain (OpenSpec.ofChange originLabelsSpec)) originLabelsCard

/-- THE TIED CARD OF 'lockkeeperlaw3.OriginApart'. -/
def originApartCard : Claim7 := { stood := { row := originApartRow, standIns := [], harness := (true, "fc38cb25a7b8d65897ae1c57a4ff44b256b73c5445d27eb7d2f4f70f91700bb1"), looks := false }, kinds := [], alts := [], laidByText := true, laidKinds := [.data, .data, .data], laidTests := true, laidLooks := .later }
def OriginApartCardSaid : Prop := Claim7.holds Tryd.pinned (.plain (OpenSpec.ofChange originApartSpec)) originApartCard

/-- THE SECOND FORM's CARD OF 'lockkeeperlaw3.OriginAll'. -/
def originAllUptoCard : Claim7 := { stood := { row := originAllUptoRow, standIns := [], harness := (true, "fc38cb25a7b8d65897ae1c57a4ff44b256b73c5445d27eb7d2f4f70f91700bb1"), looks := false }, kinds := [], alts := [], laidByText := true, laidKinds := [.data, .data, .data], laidTests := true, laidLooks := .later }
def OriginAllUptoCardSaid : Prop := Claim7.holds Tryd.pinned (.plain (OpenSpec.upto originAllSpec)) originAllUptoCard

/-- THE SECOND FORM's CARD OF 'lockkeeperlaw3.OriginBack'. -/
def originBackUptoCard : Claim7 := { stood := { row := originBackUptoRow, standIns := [], harness := (true, "fc38cb25a7b8d65897ae1c57a4ff44b256b73c5445d27eb7d2f4f70f91700bb1"), looks := false }, kinds := [], alts := [], laidByText := true, laidKinds := [.data, .data, .data], laidTests := true, laidLooks := .later }
def OriginBackUptoCardSaid : Prop := Claim7.holds Tryd.pinned (.plain (OpenSpec.upto originBackSpec)) originBackUptoCard

/-- THE SECOND FORM's CARD OF 'lockkeeperlaw3.OriginCases'. -/
def originCasesUptoCard : Claim7 := { stood := { row := originCasesUptoRow, standIns := [], harness := (true, "fc38cb25a7b8d65897ae1c57a4ff44b256b73c5445d27eb7d2f4f70f91700bb1"), looks := false }, kinds := [], alts := [], laidByText := true, laidKinds := [.data, .data, .data], laidTests := true, laidLooks := .later }
def OriginCasesUptoCardSaid : Prop := Claim7.holds Tryd.pinned (.plain (OpenSpec.upto originCasesSpec)) originCasesUptoCard

/-- THE SECOND FORM's CARD OF 'lockkeeperlaw3.OriginPorts'. -/
def originPortsUptoCard : Claim7 := { stood := { row := originPortsUptoRow, standIns := [], harness := (true, "fc38cb25a7b8d65897ae1c57a4ff44b256b73c5445d27eb7d2f4f70f91700bb1"), looks := false }, kinds := [], alts := [], laidByText := true, laidKinds := [.data, .data, .data], laidTests := true, laidLooks := .later }
def OriginPortsUptoCardSaid : Prop := Claim7.holds Tryd.pinned (.plain (OpenSpec.upto originPortsSpec)) originPortsUptoCard

/-- THE SECOND FORM's CARD OF 'lockkeeperlaw3.OriginLabels'. -/
def originLabelsUptoCard : Claim7 := { stood := { row := originLabelsUptoRow, standIns := [], harness := (true, "fc38cb25a7b8d65897ae1c57a4ff44b256b73c5445d27eb7d2f4f70f91700bb1"), looks := false }, kinds := [], alts := [], laidByText := true, laidKinds := [.data, .data, .data], laidTests := true, laidLooks := .later }
def OriginLabelsUptoCardSaid : Prop := Claim7.holds Tryd.pinned (.plain (OpenSpec.upto originLabelsSpec)) originLabelsUptoCard

/-- THE SECOND FORM's CARD OF 'lockkeeperlaw3.OriginApart'. -/
def originApartUptoCard : Claim7 := { stood := { row := originApartUptoRow, standIns := [], harness := (true, "fc38cb25a7b8d65897ae1c57a4ff44b256b73c5445d27eb7d2f4f70f91700bb1"), looks := false }, kinds := [], alts := [], laidByText := true, laidKinds := [.data, .data, .data], laidTests := true, laidLooks := .later }
def OriginApartUptoCardSaid : Prop := Claim7.holds Tryd.pinned (.plain (OpenSpec.upto originApartSpec)) originApartUptoCard
end Rows
end Go.Proofs.YtbnkfocaegcjdaaDoor
