/-
  DERIVED. GIVEN WITH THE SEED: THE CARDS: each row of YtlafokjkpbhckaaGreatDoorRows.lean that lists a variable, with what it lists TIED to the program's text (the seventh form; the later family's looks); each row that meets fmt, with fmt's text TOLD by the authors' own Lean function (tested against real Go, not proved from fmt's source: count such statements apart). THE CARD IS WHAT COUNTS. Prove the row's statement (the work); the ties are given (YtlafokjkpbhckaaGreatDoorTie.lean); close each card by the builder's one call (the guide's Derived/Test/ToyasCard.lean, 'card_holds'). Laid BY PROGRAM, IN A SANDBOX (cutbox-door.mjs). By AI agents, Wed Nov 11 2026. No macro, syntax, notation, axiom, sorry.
-/
import Derived.Test.YtlafokjkpbhckaaGreatDoorRows
import GoSem.ClaimSeven
namespace Go.Proofs.YtlafokjkpbhckaaGreatDoor
namespace Rows

/-- THE TIED CARD OF 'belvederelaw12.JoinSays'. -/
def joinSaysCard : Claim7 := { stood := { row := joinSaysRow, standIns := [], harness := (true, "693754e57c9a7e243189bedc6dabe37460491be472ffc30927c0ad44f355ffb4"), looks := true }, kinds := [], alts := [], laidByText := true, laidKinds := [.sentinel, .sentinel, .sentinel, .sentinel, .sentinel, .sentinel, .sentinel, .sentinel, .sentinel, .sentinel, .sentinel], laidTests := true, laidLooks := .later }
def JoinSaysCardSaid : Prop := Claim7.holds Tryz.pinned (.plain (OpenSpec.ofChange joinSaysSpec)) joinSaysCard

/-- THE SECOND FORM's CARD OF 'belvederelaw12.JoinSays'. -/
def joinSaysUptoCard : Claim7 := { stood := { row := joinSaysUptoRow, standIns := [], harness := (true, "693754e57c9a7e243189bedc6dabe37460491be472ffc30927c0ad44f355ffb4"), looks := true }, kinds := [], alts := [], laidByText := true, laidKinds := [.sentinel, .sentinel, .sentinel, .sentinel, .sentinel, .sentinel, .sentinel, .sentinel, .sentinel, .sentinel, .sentinel], laidTests := true, laidLooks := .later }
def JoinSaysUptoCardSaid : Prop := Claim7.holds Tryz.pinned (.plain (OpenSpec.upto joinSaysSpec)) joinSaysUptoCard
end Rows
end Go.Proofs.YtlafokjkpbhckaaGreatDoor
