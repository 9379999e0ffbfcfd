/-
  DERIVED. GIVEN WITH THE SEED: THE CARDS: each row of YtglbipnppldkmaaGreatDoorRows.lean that lists a variable, with what it lists TIED to the program's text (the seventh form; the later family's looks); each row that meets fmt, with fmt's text TOLD by the authors' own Lean function (tested against real Go, not proved from fmt's source: count such statements apart). THE CARD IS WHAT COUNTS. Prove the row's statement (the work); the ties are given (YtglbipnppldkmaaGreatDoorTie.lean); close each card by the builder's one call (the guide's Derived/Test/ToyasCard.lean, 'card_holds'). Laid BY PROGRAM, IN A SANDBOX (cutbox-door.mjs). By AI agents, Wed Nov 11 2026. No macro, syntax, notation, axiom, sorry.
-/
import Derived.Test.YtglbipnppldkmaaGreatDoorRows
import GoSem.ClaimSeven
namespace Go.Proofs.YtglbipnppldkmaaGreatDoor
namespace Rows

/-- THE TIED CARD OF 'belvederelaw7.ArrangePlays'. -/
def arrangePlaysCard : Claim7 := { stood := { row := arrangePlaysRow, standIns := [], harness := (true, "5bce010f4b74fff224ccf2a030892b59a04b2771ac697ab4e722eeaf6cc6239d"), looks := true }, kinds := [], alts := [], laidByText := true, laidKinds := [.sentinel, .sentinel, .sentinel, .sentinel, .sentinel, .sentinel, .sentinel, .sentinel, .sentinel, .sentinel, .sentinel], laidTests := true, laidLooks := .later }
def ArrangePlaysCardSaid : Prop := Claim7.holds Tryz.pinned (.plain (OpenSpec.ofChange arrangePlaysSpec)) arrangePlaysCard

/-- THE TIED CARD OF 'belvederelaw7.ArrangeKeys'. -/
def arrangeKeysCard : Claim7 := { stood := { row := arrangeKeysRow, standIns := [], harness := (true, "5bce010f4b74fff224ccf2a030892b59a04b2771ac697ab4e722eeaf6cc6239d"), looks := true }, kinds := [], alts := [], laidByText := true, laidKinds := [.sentinel, .sentinel], laidTests := true, laidLooks := .later }
def ArrangeKeysCardSaid : Prop := Claim7.holds Tryz.pinned (.plain (OpenSpec.ofChange arrangeKeysSpec)) arrangeKeysCard

/-- THE TIED CARD OF 'belvederelaw7.ArrangeWrong'. -/
def arrangeWrongCard : Claim7 := { stood := { row := arrangeWrongRow, standIns := [], harness := (true, "5bce010f4b74fff224ccf2a030892b59a04b2771ac697ab4e722eeaf6cc6239d"), looks := true }, kinds := [], alts := [], laidByText := true, laidKinds := [.sentinel, .sentinel, .sentinel, .sentinel, .sentinel, .sentinel, .sentinel, .sentinel, .sentinel, .sentinel, .sentinel], laidTests := true, laidLooks := .later }
def ArrangeWrongCardSaid : Prop := Claim7.holds Tryz.pinned (.plain (OpenSpec.ofChange arrangeWrongSpec)) arrangeWrongCard

/-- THE SECOND FORM's CARD OF 'belvederelaw7.ArrangePlays'. -/
def arrangePlaysUptoCard : Claim7 := { stood := { row := arrangePlaysUptoRow, standIns := [], harness := (true, "5bce010f4b74fff224ccf2a030892b59a04b2771ac697ab4e722eeaf6cc6239d"), looks := true }, kinds := [], alts := [], laidByText := true, laidKinds := [.sentinel, .sentinel, .sentinel, .sentinel, .sentinel, .sentinel, .sentinel, .sentinel, .sentinel, .sentinel, .sentinel], laidTests := true, laidLooks := .later }
def ArrangePlaysUptoCardSaid : Prop := Claim7.holds Tryz.pinned (.plain (OpenSpec.upto arrangePlaysSpec)) arrangePlaysUptoCard

/-- THE SECOND FORM's CARD OF 'belvederelaw7.ArrangeKeys'. -/
def arrangeKeysUptoCard : Claim7 := { stood := { row := arrangeKeysUptoRow, standIns := [], harness := (true, "5bce010f4b74fff224ccf2a030892b59a04b2771ac697ab4e722eeaf6cc6239d"), looks := true }, kinds := [], alts := [], laidByText := true, laidKinds := [.sentinel, .sentinel], laidTests := true, laidLooks := .later }
def ArrangeKeysUptoCardSaid : Prop := Claim7.holds Tryz.pinned (.plain (OpenSpec.upto arrangeKeysSpec)) arrangeKeysUptoCard

/-- THE SECOND FORM's CARD OF 'belvederelaw7.ArrangeWrong'. -/
def arrangeWrongUptoCard : Claim7 := { stood := { row := arrangeWrongUptoRow, standIns := [], harness := (true, "5bce010f4b74fff224ccf2a030892b59a04b2771ac697ab4e722eeaf6cc6239d"), looks := true }, kinds := [], alts := [], laidByText := true, laidKinds := [.sentinel, .sentinel, .sentinel, .sentinel, .sentinel, .sentinel, .sentinel, .sentinel, .sentinel, .sentinel, .sentinel], laidTests := true, laidLooks := .later }
def ArrangeWrongUptoCardSaid : Prop := Claim7.holds Tryz.pinned (.plain (OpenSpec.upto arrangeWrongSpec)) arrangeWrongUptoCard
end Rows
end Go.Proofs.YtglbipnppldkmaaGreatDoor
