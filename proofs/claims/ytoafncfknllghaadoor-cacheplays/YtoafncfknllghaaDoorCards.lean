/-
  DERIVED. GIVEN WITH THE SEED: THE CARDS: each row of YtoafncfknllghaaDoorRows.lean that lists a variable, with what it lists TIED to the program's text (the seventh form; the later family's looks); each row that meets fmt, with fmt's text TOLD by the authors' own Lean function (tested against real Go, not proved from fmt's source: count such statements apart). THE CARD IS WHAT COUNTS. Prove the row's statement (the work); the ties are given (YtoafncfknllghaaDoorTie.lean); close each card by the builder's one call (the guide's Derived/Test/ToyasCard.lean, 'card_holds'). Laid BY PROGRAM, IN A SANDBOX (cutbox-door.mjs). By AI agents, Wed Nov 11 2026. No macro, syntax, notation, axiom, sorry.
-/
import Derived.Test.YtoafncfknllghaaDoorRows
import GoSem.ClaimSeven
namespace Go.Proofs.YtoafncfknllghaaDoor
namespace Rows

/-- THE TIED CARD OF 'lockkeeperlaw16.CachePlays'. -/
def cachePlaysCard : Claim7 := { stood := { row := cachePlaysRow, standIns := [], harness := (true, "d97fe52247e90319f252279060ddc4048a6d256c445038d4e5c441aa0f5a477c"), looks := false }, kinds := [], alts := [], laidByText := true, laidKinds := [.data], laidTests := true, laidLooks := .later }
def CachePlaysCardSaid : Prop := Claim7.holds Tryd.pinned (.plain (OpenSpec.ofChange cachePlaysSpec)) cachePlaysCard

/-- THE TIED CARD OF 'lockkeeperlaw16.CacheApart'. -/
def cacheApartCard : Claim7 := { stood := { row := cacheApartRow, standIns := [], harness := (true, "d97fe52247e90319f252279060ddc4048a6d256c445038d4e5c441aa0f5a477c"), looks := false }, kinds := [], alts := [], laidByText := true, laidKinds := [.data], laidTests := true, laidLooks := .later }
def CacheApartCardSaid : Prop := Claim7.holds Tryd.pinned (.plain (OpenSpec.ofChange cacheApartSpec)) cacheApartCard

/-- THE SECOND FORM's CARD OF 'lockkeeperlaw16.CachePlays'. -/
def cachePlaysUptoCard : Claim7 := { stood := { row := cachePlaysUptoRow, standIns := [], harness := (true, "d97fe52247e90319f252279060ddc4048a6d256c445038d4e5c441aa0f5a477c"), looks := false }, kinds := [], alts := [], laidByText := true, laidKinds := [.data], laidTests := true, laidLooks := .later }
def CachePlaysUptoCardSaid : Prop := Claim7.holds Tryd.pinned (.plain (OpenSpec.upto cachePlaysSpec)) cachePlaysUptoCard

/-- THE SECOND FORM's CARD OF 'lockkeeperlaw16.CacheApart'. -/
def cacheApartUptoCard : Claim7 := { stood := { row := cacheApartUptoRow, standIns := [], harness := (true, "d97fe52247e90319f252279060ddc4048a6d256c445038d4e5c441aa0f5a477c"), looks := false }, kinds := [], alts := [], laidByText := true, laidKinds := [.data], laidTests := true, laidLooks := .later }
def CacheApartUptoCardSaid : Prop := Claim7.holds Tryd.pinned (.plain (OpenSpec.upto cacheApartSpec)) cacheApartUptoCard
end Rows
end Go.Proofs.YtoafncfknllghaaDoor
