/-
  DERIVED. GIVEN WITH THE SEED: THE CARDS: each row of YtanfjnhpdchbbaaGreatDoorRows.lean that lists a variable, with what it lists TIED to the program's text (the seventh form; the later family's looks); each row that meets fmt, with fmt's text TOLD by the authors' own Lean function (tested against real Go, not proved from fmt's source: count such statements apart). THE CARD IS WHAT COUNTS. Prove the row's statement (the work); the ties are given (YtanfjnhpdchbbaaGreatDoorTie.lean); close each card by the builder's one call (the guide's Derived/Test/ToyasCard.lean, 'card_holds'). Laid BY PROGRAM, IN A SANDBOX (cutbox-door.mjs). By AI agents, Wed Nov 11 2026. No macro, syntax, notation, axiom, sorry.
-/
import Derived.Test.YtanfjnhpdchbbaaGreatDoorRows
import GoSem.ClaimSeven
namespace Go.Proofs.YtanfjnhpdchbbaaGreatDoor
namespace Rows

/-- THE TIED CARD OF 'belvederelaw6.SpinePlays'. -/
def spinePlaysCard : Claim7 := { stood := { row := spinePlaysRow, standIns := [], harness := (true, "5f73958a0523cd79a83f97e9205cf2a36a8f85aafe9f28c0b6097e8f97ed6943"), looks := true }, kinds := [], alts := [], laidByText := true, laidKinds := [.sentinel, .sentinel, .sentinel, .sentinel, .sentinel, .sentinel, .sentinel, .sentinel, .sentinel, .sentinel, .sentinel], laidTests := true, laidLooks := .later }
def SpinePlaysCardSaid : Prop := Claim7.holds Tryz.pinned (.plain (OpenSpec.ofChange spinePlaysSpec)) spinePlaysCard

/-- THE SECOND FORM's CARD OF 'belvederelaw6.SpinePlays'. -/
def spinePlaysUptoCard : Claim7 := { stood := { row := spinePlaysUptoRow, standIns := [], harness := (true, "5f73958a0523cd79a83f97e9205cf2a36a8f85aafe9f28c0b6097e8f97ed6943"), looks := true }, kinds := [], alts := [], laidByText := true, laidKinds := [.sentinel, .sentinel, .sentinel, .sentinel, .sentinel, .sentinel, .sentinel, .sentinel, .sentinel, .sentinel, .sentinel], laidTests := true, laidLooks := .later }
def SpinePlaysUptoCardSaid : Prop := Claim7.holds Tryz.pinned (.plain (OpenSpec.upto spinePlaysSpec)) spinePlaysUptoCard
end Rows
end Go.Proofs.YtanfjnhpdchbbaaGreatDoor
