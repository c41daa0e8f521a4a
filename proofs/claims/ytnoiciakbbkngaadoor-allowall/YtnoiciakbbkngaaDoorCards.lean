/-
  DERIVED. GIVEN WITH THE SEED: THE CARDS: each row of YtnoiciakbbkngaaDoorRows.lean that lists a variable, with what it lists TIED to the program's text (the seventh form; the later family's looks); each row that meets fmt, with fmt's text TOLD by the authors' own Lean function (tested against real Go, not proved from fmt's source: count such statements apart). THE CARD IS WHAT COUNTS. Prove the row's statement (the work); the ties are given (YtnoiciakbbkngaaDoorTie.lean); close each card by the builder's one call (the guide's Derived/Test/ToyasCard.lean, 'card_holds'). Laid BY PROGRAM, IN A SANDBOX (cutbox-door.mjs). By AI agents, Wed Nov 11 2026. No macro, syntax, notation, axiom, sorry.
-/
import Derived.Test.YtnoiciakbbkngaaDoorRows
import GoSem.ClaimSeven
namespace Go.Proofs.YtnoiciakbbkngaaDoor
namespace Rows

/-- THE TIED CARD OF 'lockkeeperlaw14.AllowAll'. -/
def allowAllCard : Claim7 := { stood := { row := allowAllRow, standIns := [], harness := (true, "f85a43d5e3365ff08ad00ff9475fa1f73a8afcc77396b3c1db2aa4c181ac2364"), looks := false }, kinds := [], alts := [], laidByText := true, laidKinds := [.data], laidTests := true, laidLooks := .later }
def AllowAllCardSaid : Prop := Claim7.holds Tryd.pinned (.plain (OpenSpec.ofChange allowAllSpec)) allowAllCard

/-- THE TIED CARD OF 'lockkeeperlaw14.AllowStars'. -/
def allowStarsCard : Claim7 := { stood := { row := allowStarsRow, standIns := [], harness := (true, "f85a43d5e3365ff08ad00ff9475fa1f73a8afcc77396b3c1db2aa4c181ac2364"), looks := false }, kinds := [], alts := [], laidByText := true, laidKinds := [.data], laidTests := true, laidLooks := .later }
def AllowStarsCardSaid : Prop := Claim7.holds Tryd.pinned (.plain (OpenSpec.ofChange allowStarsSpec)) allowStarsCard

/-- THE TIED CARD OF 'lockkeeperlaw14.AllowAges'. -/
def allowAgesCard : Claim7 := { stood := { row := allowAgesRow, standIns := [], harness := (true, "f85a43d5e3365ff08ad00ff9475fa1f73a8afcc77396b3c1db2aa4c181ac2364"), looks := false }, kinds := [], alts := [], laidByText := true, laidKinds := [.data], laidTests := true, laidLooks := .later }
def AllowAgesCardSaid : Prop := Claim7.holds Tryd.pinned (.plain (OpenSpec.ofChange allowAgesSpec)) allowAgesCard

/-- THE TIED CARD OF 'lockkeeperlaw14.AllowNames'. -/
def allowNamesCard : Claim7 := { stood := { row := allowNamesRow, standIns := [], harness := (true, "f85a43d5e3365ff08ad00ff9475fa1f73a8afcc77396b3c1db2aa4c181ac2364"), looks := false }, kinds := [], alts := [], laidByText := true, laidKinds := [.data], laidTests := true, laidLooks := .later }
def AllowNamesCardSaid : Prop := Claim7.holds Tryd.pinned (.plain (OpenSpec.ofChange allowNamesSpec)) allowNamesCard

/-- THE SECOND FORM's CARD OF 'lockkeeperlaw14.AllowAll'. -/
def allowAllUptoCard : Claim7 := { stood := { row := allowAllUptoRow, standIns := [], harness := (true, "f85a43d5e3365ff08ad00ff9475fa1f73a8afcc77396b3c1db2aa4c181ac2364"), looks := false }, kinds := [], alts := [], laidByText := true, laidKinds := [.data], laidTests := true, laidLooks := .later }
def AllowAllUptoCardSaid : Prop := Claim7.holds Tryd.pinned (.plain (OpenSpec.upto allowAllSpec)) allowAllUptoCard

/-- THE SECOND FORM's CARD OF 'lockkeeperlaw14.AllowStars'. -/
def allowStarsUptoCard : Claim7 := { stood := { row := allowStarsUptoRow, standIns := [], harness := (true, "f85a43d5e3365ff08ad00ff9475fa1f73a8afcc77396b3c1db2aa4c181ac2364"), looks := false }, kinds := [], alts := [], laidByText := true, laidKinds := [.data], laidTests := true, laidLooks := .later }
def AllowStarsUptoCardSaid : Prop := Claim7.holds Tryd.pinned (.plain (OpenSpec.upto allowStarsSpec)) allowStarsUptoCard

/-- THE SECOND FORM's CARD OF 'lockkeeperlaw14.AllowAges'. -/
def allowAgesUptoCard : Claim7 := { stood := { row := allowAgesUptoRow, standIns := [], harness := (true, "f85a43d5e3365ff08ad00ff9475fa1f73a8afcc77396b3c1db2aa4c181ac2364"), looks := false }, kinds := [], alts := [], laidByText := true, laidKinds := [.data], laidTests := true, laidLooks := .later }
def AllowAgesUptoCardSaid : Prop := Claim7.holds Tryd.pinned (.plain (OpenSpec.upto allowAgesSpec)) allowAgesUptoCard

/-- THE SECOND FORM's CARD OF 'lockkeeperlaw14.AllowNames'. -/
def allowNamesUptoCard : Claim7 := { stood := { row := allowNamesUptoRow, standIns := [], harness := (true, "f85a43d5e3365ff08ad00ff9475fa1f73a8afcc77396b3c1db2aa4c181ac2364"), looks := false }, kinds := [], alts := [], laidByText := true, laidKinds := [.data], laidTests := true, laidLooks := .later }
def AllowNamesUptoCardSaid : Prop := Claim7.holds Tryd.pinned (.plain (OpenSpec.upto allowNamesSpec)) allowNamesUptoCard
end Rows
end Go.Proofs.YtnoiciakbbkngaaDoor
