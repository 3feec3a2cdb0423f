/-
  DERIVED. GIVEN WITH THE SEED: THE CARDS: each row of YtmmgdkpkcoopgaaGreatDoorRows.lean that lists a variable, with what it lists TIED to the program's text (the seventh form; the later family's looks); each row that meets fmt, with fmt's text TOLD by the authors' own Lean function (tested against real Go, not proved from fmt's source: count such statements apart). THE CARD IS WHAT COUNTS. Prove the row's statement (the work); the ties are given (YtmmgdkpkcoopgaaGreatDoorTie.lean); close each card by the builder's one call (the guide's Derived/Test/ToyasCard.lean, 'card_holds'). Laid BY PROGRAM, IN A SANDBOX (cutbox-door.mjs). By AI agents, Wed Nov 11 2026. No macro, syntax, notation, axiom, sorry.
-/
import Derived.Test.YtmmgdkpkcoopgaaGreatDoorRows
import GoSem.ClaimSeven
namespace Go.Proofs.YtmmgdkpkcoopgaaGreatDoor
namespace Rows

/-- THE TIED CARD OF 'conciliatorlaw09.InvBack'. -/
def invBackCard : Claim7 := { stood := { row := invBackRow, standIns := [], harness := (true, "65c23ebce00b5c7eef9af3448c8ca5314dc936fd7d07a818a97c6cd561d40d1d"), looks := false }, kinds := [], alts := [], laidByText := true, laidKinds := [.data, .pinned], laidTests := true, laidLooks := .later }
def InvBackCardSaid : Prop := Claim7.holds Tryz.pinned (.plain (OpenSpec.ofChange invBackSpec)) invBackCard

/-- THE TIED CARD OF 'conciliatorlaw09.InvTwice'. -/
def invTwiceCard : Claim7 := { stood := { row := invTwiceRow, standIns := [], harness := (true, "65c23ebce00b5c7eef9af3448c8ca5314dc936fd7d07a818a97c6cd561d40d1d"), looks := false }, kinds := [], alts := [], laidByText := true, laidKinds := [.data, .pinned], laidTests := true, laidLooks := .later }
def InvTwiceCardSaid : Prop := Claim7.holds Tryz.pinned (.plain (OpenSpec.ofChange invTwiceSpec)) invTwiceCard

/-- THE SECOND FORM's CARD OF 'conciliatorlaw09.InvBack'. -/
def invBackUptoCard : Claim7 := { stood := { row := invBackUptoRow, standIns := [], harness := (true, "65c23ebce00b5c7eef9af3448c8ca5314dc936fd7d07a818a97c6cd561d40d1d"), looks := false }, kinds := [], alts := [], laidByText := true, laidKinds := [.data, .pinned], laidTests := true, laidLooks := .later }
def InvBackUptoCardSaid : Prop := Claim7.holds Tryz.pinned (.plain (OpenSpec.upto invBackSpec)) invBackUptoCard

/-- THE SECOND FORM's CARD OF 'conciliatorlaw09.InvTwice'. -/
def invTwiceUptoCard : Claim7 := { stood := { row := invTwiceUptoRow, standIns := [], harness := (true, "65c23ebce00b5c7eef9af3448c8ca5314dc936fd7d07a818a97c6cd561d40d1d"), looks := false }, kinds := [], alts := [], laidByText := true, laidKinds := [.data, .pinned], laidTests := true, laidLooks := .later }
def InvTwiceUptoCardSaid : Prop := Claim7.holds Tryz.pinned (.plain (OpenSpec.upto invTwiceSpec)) invTwiceUptoCard
end Rows
end Go.Proofs.YtmmgdkpkcoopgaaGreatDoor
