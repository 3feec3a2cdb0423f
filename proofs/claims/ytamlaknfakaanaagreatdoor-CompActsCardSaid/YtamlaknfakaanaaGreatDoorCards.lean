/-
  DERIVED. GIVEN WITH THE SEED: THE CARDS: each row of YtamlaknfakaanaaGreatDoorRows.lean that lists a variable, with what it lists TIED to the program's text (the seventh form; the later family's looks); each row that meets fmt, with fmt's text TOLD by the authors' own Lean function (tested against real Go, not proved from fmt's source: count such statements apart). THE CARD IS WHAT COUNTS. Prove the row's statement (the work); the ties are given (YtamlaknfakaanaaGreatDoorTie.lean); close each card by the builder's one call (the guide's Derived/Test/ToyasCard.lean, 'card_holds'). Laid BY PROGRAM, IN A SANDBOX (cutbox-door.mjs). By AI agents, Wed Nov 11 2026. No macro, syntax, notation, axiom, sorry.
-/
import Derived.Test.YtamlaknfakaanaaGreatDoorRows
import GoSem.ClaimSeven
namespace Go.Proofs.YtamlaknfakaanaaGreatDoor
namespace Rows

/-- THE TIED CARD OF 'conciliatorlaw06.CompDoes'. -/
def compDoesCard : Claim7 := { stood := { row := compDoesRow, standIns := [], harness := (true, "6d4217fb09e68f75b080c7dc86d9df7ce7440fcb5f8117a18196c5ba93fcce6d"), looks := false }, kinds := [], alts := [], laidByText := true, laidKinds := [.data, .pinned], laidTests := true, laidLooks := .later }
def CompDoesCardSaid : Prop := Claim7.holds Tryz.pinned (.plain (OpenSpec.ofChange compDoesSpec)) compDoesCard

/-- THE TIED CARD OF 'conciliatorlaw06.CompActs'. -/
def compActsCard : Claim7 := { stood := { row := compActsRow, standIns := [], harness := (true, "6d4217fb09e68f75b080c7dc86d9df7ce7440fcb5f8117a18196c5ba93fcce6d"), looks := false }, kinds := [], alts := [], laidByText := true, laidKinds := [.data, .pinned], laidTests := true, laidLooks := .later }
def CompActsCardSaid : Prop := Claim7.holds Tryz.pinned (.plain (OpenSpec.ofChange compActsSpec)) compActsCard

/-- THE SECOND FORM's CARD OF 'conciliatorlaw06.CompDoes'. -/
def compDoesUptoCard : Claim7 := { stood := { row := compDoesUptoRow, standIns := [], harness := (true, "6d4217fb09e68f75b080c7dc86d9df7ce7440fcb5f8117a18196c5ba93fcce6d"), looks := false }, kinds := [], alts := [], laidByText := true, laidKinds := [.data, .pinned], laidTests := true, laidLooks := .later }
def CompDoesUptoCardSaid : Prop := Claim7.holds Tryz.pinned (.plain (OpenSpec.upto compDoesSpec)) compDoesUptoCard

/-- THE SECOND FORM's CARD OF 'conciliatorlaw06.CompActs'. -/
def compActsUptoCard : Claim7 := { stood := { row := compActsUptoRow, standIns := [], harness := (true, "6d4217fb09e68f75b080c7dc86d9df7ce7440fcb5f8117a18196c5ba93fcce6d"), looks := false }, kinds := [], alts := [], laidByText := true, laidKinds := [.data, .pinned], laidTests := true, laidLooks := .later }
def CompActsUptoCardSaid : Prop := Claim7.holds Tryz.pinned (.plain (OpenSpec.upto compActsSpec)) compActsUptoCard
end Rows
end Go.Proofs.YtamlaknfakaanaaGreatDoor
