/-
  DERIVED. GIVEN WITH THE SEED: THE CARDS: each row of YtjknicljbmakeaaDoorRows.lean that lists a variable, with what it lists TIED to the program's text (the seventh form; the later family's looks); each row that meets fmt, with fmt's text TOLD by the authors' own Lean function (tested against real Go, not proved from fmt's source: count such statements apart). THE CARD IS WHAT COUNTS. Prove the row's statement (the work); the ties are given (YtjknicljbmakeaaDoorTie.lean); close each card by the builder's one call (the guide's Derived/Test/ToyasCard.lean, 'card_holds'). Laid BY PROGRAM, IN A SANDBOX (cutbox-door.mjs). By AI agents, Wed Nov 11 2026. No macro, syntax, notation, axiom, sorry.
-/
import Derived.Test.YtjknicljbmakeaaDoorRows
import GoSem.ClaimSeven
namespace Go.Proofs.YtjknicljbmakeaaDoor
namespace Rows

/-- THE TIED CARD OF 'conciliatorlaw01.ValSounds'. -/
def valSoundsCard : Claim7 := { stood := { row := valSoundsRow, standIns := [], harness := (true, "49403502bfb7273f7360833128a795a679dc4240a47bea4a091548d9f01c617d"), looks := true }, kinds := [], alts := [], laidByText := true, laidKinds := [.data, .pinned], laidTests := true, laidLooks := .later }
def ValSoundsCardSaid : Prop := Claim7.holds Tryd.pinned (.plain (OpenSpec.ofChange valSoundsSpec)) valSoundsCard

/-- THE TIED CARD OF 'conciliatorlaw01.ValSame'. -/
def valSameCard : Claim7 := { stood := { row := valSameRow, standIns := [], harness := (true, "49403502bfb7273f7360833128a795a679dc4240a47bea4a091548d9f01c617d"), looks := true }, kinds := [], alts := [], laidByText := true, laidKinds := [.data, .pinned], laidTests := true, laidLooks := .later }
def ValSameCardSaid : Prop := Claim7.holds Tryd.pinned (.plain (OpenSpec.ofChange valSameSpec)) valSameCard

/-- THE TIED CARD OF 'conciliatorlaw01.ValCopy'. -/
def valCopyCard : Claim7 := { stood := { row := valCopyRow, standIns := [], harness := (true, "49403502bfb7273f7360833128a795a679dc4240a47bea4a091548d9f01c617d"), looks := true }, kinds := [], alts := [], laidByText := true, laidKinds := [.data, .pinned], laidTests := true, laidLooks := .later }
def ValCopyCardSaid : Prop := Claim7.holds Tryd.pinned (.plain (OpenSpec.ofChange valCopySpec)) valCopyCard

/-- THE TIED CARD OF 'conciliatorlaw01.ValFields'. -/
def valFieldsCard : Claim7 := { stood := { row := valFieldsRow, standIns := [], harness := (true, "49403502bfb7273f7360833128a795a679dc4240a47bea4a091548d9f01c617d"), looks := true }, kinds := [], alts := [], laidByText := true, laidKinds := [.data, .pinned], laidTests := true, laidLooks := .later }
def ValFieldsCardSaid : Prop := Claim7.holds Tryd.pinned (.plain (OpenSpec.ofChange valFieldsSpec)) valFieldsCard

/-- THE TIED CARD OF 'conciliatorlaw01.ValBuilt'. -/
def valBuiltCard : Claim7 := { stood := { row := valBuiltRow, standIns := [], harness := (true, "49403502bfb7273f7360833128a795a679dc4240a47bea4a091548d9f01c617d"), looks := true }, kinds := [], alts := [], laidByText := true, laidKinds := [.data, .pinned], laidTests := true, laidLooks := .later }
def ValBuiltCardSaid : Prop := Claim7.holds Tryd.pinned (.plain (OpenSpec.ofChange valBuiltSpec)) valBuiltCard

/-- THE TIED CARD OF 'conciliatorlaw01.ValKeys'. -/
def valKeysCard : Claim7 := { stood := { row := valKeysRow, standIns := [], harness := (true, "49403502bfb7273f7360833128a795a679dc4240a47bea4a091548d9f01c617d"), looks := true }, kinds := [], alts := [], laidByText := true, laidKinds := [.data, .pinned], laidTests := true, laidLooks := .later }
def ValKeysCardSaid : Prop := Claim7.holds Tryd.pinned (.plain (OpenSpec.ofChange valKeysSpec)) valKeysCard

/-- THE TIED CARD OF 'conciliatorlaw02.JsonTexts'. -/
def jsonTextsCard : Claim7 := { stood := { row := jsonTextsRow, standIns := [], harness := (true, "49403502bfb7273f7360833128a795a679dc4240a47bea4a091548d9f01c617d"), looks := true }, kinds := [], alts := [], laidByText := true, laidKinds := [.data, .data, .data, .data, .sentinel, .sentinel, .pinned], laidTests := true, laidLooks := .later }
def JsonTextsCardSaid : Prop := Claim7.holds Tryd.pinned (.plain (OpenSpec.ofChange jsonTextsSpec)) jsonTextsCard

/-- THE TIED CARD OF 'conciliatorlaw02.JsonEncodes'. -/
def jsonEncodesCard : Claim7 := { stood := { row := jsonEncodesRow, standIns := [], harness := (true, "49403502bfb7273f7360833128a795a679dc4240a47bea4a091548d9f01c617d"), looks := true }, kinds := [], alts := [], laidByText := true, laidKinds := [.data, .data, .data, .data, .sentinel, .sentinel, .pinned], laidTests := true, laidLooks := .later }
def JsonEncodesCardSaid : Prop := Claim7.holds Tryd.pinned (.plain (OpenSpec.ofChange jsonEncodesSpec)) jsonEncodesCard

/-- THE TIED CARD OF 'conciliatorlaw02.JsonBack'. -/
def jsonBackCard : Claim7 := { stood := { row := jsonBackRow, standIns := [], harness := (true, "49403502bfb7273f7360833128a795a679dc4240a47bea4a091548d9f01c617d"), looks := true }, kinds := [], alts := [], laidByText := true, laidKinds := [.data, .data, .data, .data, .sentinel, .sentinel, .pinned], laidTests := true, laidLooks := .later }
def JsonBackCardSaid : Prop := Claim7.holds Tryd.pinned (.plain (OpenSpec.ofChange jsonBackSpec)) jsonBackCard

/-- THE TIED CARD OF 'conciliatorlaw02.JsonOnly'. -/
def jsonOnlyCard : Claim7 := { stood := { row := jsonOnlyRow, standIns := [], harness := (true, "49403502bfb7273f7360833128a795a679dc4240a47bea4a091548d9f01c617d"), looks := true }, kinds := [], alts := [], laidByText := true, laidKinds := [.data, .data, .data, .data, .sentinel, .sentinel, .pinned], laidTests := true, laidLooks := .later }
def JsonOnlyCardSaid : Prop := Claim7.holds Tryd.pinned (.plain (OpenSpec.ofChange jsonOnlySpec)) jsonOnlyCard

/-- THE TIED CARD OF 'conciliatorlaw02.JsonApart'. -/
def jsonApartCard : Claim7 := { stood := { row := jsonApartRow, standIns := [], harness := (true, "49403502bfb7273f7360833128a795a679dc4240a47bea4a091548d9f01c617d"), looks := true }, kinds := [], alts := [], laidByText := true, laidKinds := [.data, .data, .data, .data, .sentinel, .sentinel, .pinned], laidTests := true, laidLooks := .later }
def JsonApartCardSaid : Prop := Claim7.holds Tryd.pinned (.plain (OpenSpec.ofChange jsonApartSpec)) jsonApartCard

/-- THE TIED CARD OF 'conciliatorlaw02.JsonNumbers'. -/
def jsonNumbersCard : Claim7 := { stood := { row := jsonNumbersRow, standIns := [], harness := (true, "49403502bfb7273f7360833128a795a679dc4240a47bea4a091548d9f01c617d"), looks := true }, kinds := [], alts := [], laidByText := true, laidKinds := [.data, .data, .data, .data, .sentinel, .sentinel, .pinned], laidTests := true, laidLooks := .later }
def JsonNumbersCardSaid : Prop := Claim7.holds Tryd.pinned (.plain (OpenSpec.ofChange jsonNumbersSpec)) jsonNumbersCard

/-- THE TIED CARD OF 'conciliatorlaw02.JsonLists'. -/
def jsonListsCard : Claim7 := { stood := { row := jsonListsRow, standIns := [], harness := (true, "49403502bfb7273f7360833128a795a679dc4240a47bea4a091548d9f01c617d"), looks := true }, kinds := [], alts := [], laidByText := true, laidKinds := [.data, .data, .data, .data, .sentinel, .sentinel, .pinned], laidTests := true, laidLooks := .later }
def JsonListsCardSaid : Prop := Claim7.holds Tryd.pinned (.plain (OpenSpec.ofChange jsonListsSpec)) jsonListsCard

/-- THE SECOND FORM's CARD OF 'conciliatorlaw01.ValSounds'. -/
def valSoundsUptoCard : Claim7 := { stood := { row := valSoundsUptoRow, standIns := [], harness := (true, "49403502bfb7273f7360833128a795a679dc4240a47bea4a091548d9f01c617d"), looks := true }, kinds := [], alts := [], laidByText := true, laidKinds := [.data, .pinned], laidTests := true, laidLooks := .later }
def ValSoundsUptoCardSaid : Prop := Claim7.holds Tryd.pinned (.plain (OpenSpec.upto valSoundsSpec)) valSoundsUptoCard

/-- THE SECOND FORM's CARD OF 'conciliatorlaw01.ValSame'. -/
def valSameUptoCard : Claim7 := { stood := { row := valSameUptoRow, standIns := [], harness := (true, "49403502bfb7273f7360833128a795a679dc4240a47bea4a091548d9f01c617d"), looks := true }, kinds := [], alts := [], laidByText := true, laidKinds := [.data, .pinned], laidTests := true, laidLooks := .later }
def ValSameUptoCardSaid : Prop := Claim7.holds Tryd.pinned (.plain (OpenSpec.upto valSameSpec)) valSameUptoCard

/-- THE SECOND FORM's CARD OF 'conciliatorlaw01.ValCopy'. -/
def valCopyUptoCard : Claim7 := { stood := { row := valCopyUptoRow, standIns := [], harness := (true, "49403502bfb7273f7360833128a795a679dc4240a47bea4a091548d9f01c617d"), looks := true }, kinds := [], alts := [], laidByText := true, laidKinds := [.data, .pinned], laidTests := true, laidLooks := .later }
def ValCopyUptoCardSaid : Prop := Claim7.holds Tryd.pinned (.plain (OpenSpec.upto valCopySpec)) valCopyUptoCard

/-- THE SECOND FORM's CARD OF 'conciliatorlaw01.ValFields'. -/
def valFieldsUptoCard : Claim7 := { stood := { row := valFieldsUptoRow, standIns := [], harness := (true, "49403502bfb7273f7360833128a795a679dc4240a47bea4a091548d9f01c617d"), looks := true }, kinds := [], alts := [], laidByText := true, laidKinds := [.data, .pinned], laidTests := true, laidLooks := .later }
def ValFieldsUptoCardSaid : Prop := Claim7.holds Tryd.pinned (.plain (OpenSpec.upto valFieldsSpec)) valFieldsUptoCard

/-- THE SECOND FORM's CARD OF 'conciliatorlaw01.ValBuilt'. -/
def valBuiltUptoCard : Claim7 := { stood := { row := valBuiltUptoRow, standIns := [], harness := (true, "49403502bfb7273f7360833128a795a679dc4240a47bea4a091548d9f01c617d"), looks := true }, kinds := [], alts := [], laidByText := true, laidKinds := [.data, .pinned], laidTests := true, laidLooks := .later }
def ValBuiltUptoCardSaid : Prop := Claim7.holds Tryd.pinned (.plain (OpenSpec.upto valBuiltSpec)) valBuiltUptoCard

/-- THE SECOND FORM's CARD OF 'conciliatorlaw01.ValKeys'. -/
def valKeysUptoCard : Claim7 := { stood := { row := valKeysUptoRow, standIns := [], harness := (true, "49403502bfb7273f7360833128a795a679dc4240a47bea4a091548d9f01c617d"), looks := true }, kinds := [], alts := [], laidByText := true, laidKinds := [.data, .pinned], laidTests := true, laidLooks := .later }
def ValKeysUptoCardSaid : Prop := Claim7.holds Tryd.pinned (.plain (OpenSpec.upto valKeysSpec)) valKeysUptoCard

/-- THE SECOND FORM's CARD OF 'conciliatorlaw02.JsonTexts'. -/
def jsonTextsUptoCard : Claim7 := { stood := { row := jsonTextsUptoRow, standIns := [], harness := (true, "49403502bfb7273f7360833128a795a679dc4240a47bea4a091548d9f01c617d"), looks := true }, kinds := [], alts := [], laidByText := true, laidKinds := [.data, .data, .data, .data, .sentinel, .sentinel, .pinned], laidTests := true, laidLooks := .later }
def JsonTextsUptoCardSaid : Prop := Claim7.holds Tryd.pinned (.plain (OpenSpec.upto jsonTextsSpec)) jsonTextsUptoCard

/-- THE SECOND FORM's CARD OF 'conciliatorlaw02.JsonEncodes'. -/
def jsonEncodesUptoCard : Claim7 := { stood := { row := jsonEncodesUptoRow, standIns := [], harness := (true, "49403502bfb7273f7360833128a795a679dc4240a47bea4a091548d9f01c617d"), looks := true }, kinds := [], alts := [], laidByText := true, laidKinds := [.data, .data, .data, .data, .sentinel, .sentinel, .pinned], laidTests := true, laidLooks := .later }
def JsonEncodesUptoCardSaid : Prop := Claim7.holds Tryd.pinned (.plain (OpenSpec.upto jsonEncodesSpec)) jsonEncodesUptoCard

/-- THE SECOND FORM's CARD OF 'conciliatorlaw02.JsonBack'. -/
def jsonBackUptoCard : Claim7 := { stood := { row := jsonBackUptoRow, standIns := [], harness := (true, "49403502bfb7273f7360833128a795a679dc4240a47bea4a091548d9f01c617d"), looks := true }, kinds := [], alts := [], laidByText := true, laidKinds := [.data, .data, .data, .data, .sentinel, .sentinel, .pinned], laidTests := true, laidLooks := .later }
def JsonBackUptoCardSaid : Prop := Claim7.holds Tryd.pinned (.plain (OpenSpec.upto jsonBackSpec)) jsonBackUptoCard

/-- THE SECOND FORM's CARD OF 'conciliatorlaw02.JsonOnly'. -/
def jsonOnlyUptoCard : Claim7 := { stood := { row := jsonOnlyUptoRow, standIns := [], harness := (true, "49403502bfb7273f7360833128a795a679dc4240a47bea4a091548d9f01c617d"), looks := true }, kinds := [], alts := [], laidByText := true, laidKinds := [.data, .data, .data, .data, .sentinel, .sentinel, .pinned], laidTests := true, laidLooks := .later }
def JsonOnlyUptoCardSaid : Prop := Claim7.holds Tryd.pinned (.plain (OpenSpec.upto jsonOnlySpec)) jsonOnlyUptoCard

/-- THE SECOND FORM's CARD OF 'conciliatorlaw02.JsonApart'. -/
def jsonApartUptoCard : Claim7 := { stood := { row := jsonApartUptoRow, standIns := [], harness := (true, "49403502bfb7273f7360833128a795a679dc4240a47bea4a091548d9f01c617d"), looks := true }, kinds := [], alts := [], laidByText := true, laidKinds := [.data, .data, .data, .data, .sentinel, .sentinel, .pinned], laidTests := true, laidLooks := .later }
def JsonApartUptoCardSaid : Prop := Claim7.holds Tryd.pinned (.plain (OpenSpec.upto jsonApartSpec)) jsonApartUptoCard

/-- THE SECOND FORM's CARD OF 'conciliatorlaw02.JsonNumbers'. -/
def jsonNumbersUptoCard : Claim7 := { stood := { row := jsonNumbersUptoRow, standIns := [], harness := (true, "49403502bfb7273f7360833128a795a679dc4240a47bea4a091548d9f01c617d"), looks := true }, kinds := [], alts := [], laidByText := true, laidKinds := [.data, .data, .data, .data, .sentinel, .sentinel, .pinned], laidTests := true, laidLooks := .later }
def JsonNumbersUptoCardSaid : Prop := Claim7.holds Tryd.pinned (.plain (OpenSpec.upto jsonNumbersSpec)) jsonNumbersUptoCard

/-- THE SECOND FORM's CARD OF 'conciliatorlaw02.JsonLists'. -/
def jsonListsUptoCard : Claim7 := { stood := { row := jsonListsUptoRow, standIns := [], harness := (true, "49403502bfb7273f7360833128a795a679dc4240a47bea4a091548d9f01c617d"), looks := true }, kinds := [], alts := [], laidByText := true, laidKinds := [.data, .data, .data, .data, .sentinel, .sentinel, .pinned], laidTests := true, laidLooks := .later }
def JsonListsUptoCardSaid : Prop := Claim7.holds Tryd.pinned (.plain (OpenSpec.upto jsonListsSpec)) jsonListsUptoCard
end Rows
end Go.Proofs.YtjknicljbmakeaaDoor
