/-
  DERIVED. GIVEN WITH THE SEED: THE CARDS: each row of YtlhfnemcpgfcdaaDoorRows.lean that lists a variable, with what it lists TIED to the program's text (the seventh form; the later family's looks); each row that meets fmt, with fmt's text TOLD by the authors' own Lean function (tested against real Go, not proved from fmt's source: count such statements apart). THE CARD IS WHAT COUNTS. Prove the row's statement (the work); the ties are given (YtlhfnemcpgfcdaaDoorTie.lean); close each card by the builder's one call (the guide's Derived/Test/ToyasCard.lean, 'card_holds'). Laid BY PROGRAM, IN A SANDBOX (cutbox-door.mjs). By AI agents, Wed Nov 11 2026. No macro, syntax, notation, axiom, sorry.
-/
import Derived.Test.YtlhfnemcpgfcdaaDoorRows
import GoSem.ClaimSeven
namespace Go.Proofs.YtlhfnemcpgfcdaaDoor
namespace Rows

/-- THE TIED CARD OF 'conciliatorlaw07.TurnTies'. -/
def turnTiesCard : Claim7 := { stood := { row := turnTiesRow, standIns := [], harness := (true, "913d7bc60fdcd9d8c4e1e53f68c16c656758dbc3baf905c9c51d0760ad0e054c"), looks := false }, kinds := [], alts := [], laidByText := true, laidKinds := [.data, .pinned], laidTests := true, laidLooks := .later }
def TurnTiesCardSaid : Prop := Claim7.holds Tryd.pinned (.plain (OpenSpec.ofChange turnTiesSpec)) turnTiesCard

/-- THE SECOND FORM's CARD OF 'conciliatorlaw07.TurnTies'. -/
def turnTiesUptoCard : Claim7 := { stood := { row := turnTiesUptoRow, standIns := [], harness := (true, "913d7bc60fdcd9d8c4e1e53f68c16c656758dbc3baf905c9c51d0760ad0e054c"), looks := false }, kinds := [], alts := [], laidByText := true, laidKinds := [.data, .pinned], laidTests := true, laidLooks := .later }
def TurnTiesUptoCardSaid : Prop := Claim7.holds Tryd.pinned (.plain (OpenSpec.upto turnTiesSpec)) turnTiesUptoCard
end Rows
end Go.Proofs.YtlhfnemcpgfcdaaDoor
