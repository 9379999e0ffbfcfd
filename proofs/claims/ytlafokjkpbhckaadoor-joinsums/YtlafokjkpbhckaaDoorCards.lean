/-
  DERIVED. GIVEN WITH THE SEED: THE CARDS: each row of YtlafokjkpbhckaaDoorRows.lean that lists a variable, with what it lists TIED to the program's text (the seventh form; the later family's looks); each row that meets fmt, with fmt's text TOLD by the authors' own Lean function (tested against real Go, not proved from fmt's source: count such statements apart). THE CARD IS WHAT COUNTS. Prove the row's statement (the work); the ties are given (YtlafokjkpbhckaaDoorTie.lean); close each card by the builder's one call (the guide's Derived/Test/ToyasCard.lean, 'card_holds'). Laid BY PROGRAM, IN A SANDBOX (cutbox-door.mjs). By AI agents, Wed Nov 11 2026. No macro, syntax, notation, axiom, sorry.
-/
import Derived.Test.YtlafokjkpbhckaaDoorRows
import GoSem.ClaimSeven
namespace Go.Proofs.YtlafokjkpbhckaaDoor
namespace Rows

/-- THE TIED CARD OF 'belvederelaw12.JoinPairs'. -/
def joinPairsCard : Claim7 := { stood := { row := joinPairsRow, standIns := [], harness := (true, "04f3624ec14e101d67375ab4b2ff2e322f9ea4cbbfcd9df50d2a58384e7ee738"), looks := true }, kinds := [], alts := [], laidByText := true, laidKinds := [.sentinel], laidTests := true, laidLooks := .later }
def JoinPairsCardSaid : Prop := Claim7.holds Tryd.pinned (.plain (OpenSpec.ofChange joinPairsSpec)) joinPairsCard

/-- THE TIED CARD OF 'belvederelaw12.JoinSums'. -/
def joinSumsCard : Claim7 := { stood := { row := joinSumsRow, standIns := [], harness := (true, "04f3624ec14e101d67375ab4b2ff2e322f9ea4cbbfcd9df50d2a58384e7ee738"), looks := true }, kinds := [], alts := [], laidByText := true, laidKinds := [.sentinel], laidTests := true, laidLooks := .later }
def JoinSumsCardSaid : Prop := Claim7.holds Tryd.pinned (.plain (OpenSpec.ofChange joinSumsSpec)) joinSumsCard

/-- THE TIED CARD OF 'belvederelaw12.JoinRows'. -/
def joinRowsCard : Claim7 := { stood := { row := joinRowsRow, standIns := [], harness := (true, "04f3624ec14e101d67375ab4b2ff2e322f9ea4cbbfcd9df50d2a58384e7ee738"), looks := true }, kinds := [], alts := [], laidByText := true, laidKinds := [.sentinel], laidTests := true, laidLooks := .later }
def JoinRowsCardSaid : Prop := Claim7.holds Tryd.pinned (.plain (OpenSpec.ofChange joinRowsSpec)) joinRowsCard

/-- THE TIED CARD OF 'belvederelaw12.JoinBounds'. -/
def joinBoundsCard : Claim7 := { stood := { row := joinBoundsRow, standIns := [], harness := (true, "04f3624ec14e101d67375ab4b2ff2e322f9ea4cbbfcd9df50d2a58384e7ee738"), looks := true }, kinds := [], alts := [], laidByText := true, laidKinds := [.sentinel, .sentinel, .sentinel, .sentinel, .sentinel, .sentinel, .sentinel, .sentinel, .sentinel, .sentinel, .sentinel], laidTests := true, laidLooks := .later }
def JoinBoundsCardSaid : Prop := Claim7.holds Tryd.pinned (.plain (OpenSpec.ofChange joinBoundsSpec)) joinBoundsCard

/-- THE SECOND FORM's CARD OF 'belvederelaw12.JoinPairs'. -/
def joinPairsUptoCard : Claim7 := { stood := { row := joinPairsUptoRow, standIns := [], harness := (true, "04f3624ec14e101d67375ab4b2ff2e322f9ea4cbbfcd9df50d2a58384e7ee738"), looks := true }, kinds := [], alts := [], laidByText := true, laidKinds := [.sentinel], laidTests := true, laidLooks := .later }
def JoinPairsUptoCardSaid : Prop := Claim7.holds Tryd.pinned (.plain (OpenSpec.upto joinPairsSpec)) joinPairsUptoCard

/-- THE SECOND FORM's CARD OF 'belvederelaw12.JoinSums'. -/
def joinSumsUptoCard : Claim7 := { stood := { row := joinSumsUptoRow, standIns := [], harness := (true, "04f3624ec14e101d67375ab4b2ff2e322f9ea4cbbfcd9df50d2a58384e7ee738"), looks := true }, kinds := [], alts := [], laidByText := true, laidKinds := [.sentinel], laidTests := true, laidLooks := .later }
def JoinSumsUptoCardSaid : Prop := Claim7.holds Tryd.pinned (.plain (OpenSpec.upto joinSumsSpec)) joinSumsUptoCard

/-- THE SECOND FORM's CARD OF 'belvederelaw12.JoinRows'. -/
def joinRowsUptoCard : Claim7 := { stood := { row := joinRowsUptoRow, standIns := [], harness := (true, "04f3624ec14e101d67375ab4b2ff2e322f9ea4cbbfcd9df50d2a58384e7ee738"), looks := true }, kinds := [], alts := [], laidByText := true, laidKinds := [.sentinel], laidTests := true, laidLooks := .later }
def JoinRowsUptoCardSaid : Prop := Claim7.holds Tryd.pinned (.plain (OpenSpec.upto joinRowsSpec)) joinRowsUptoCard

/-- THE SECOND FORM's CARD OF 'belvederelaw12.JoinBounds'. -/
def joinBoundsUptoCard : Claim7 := { stood := { row := joinBoundsUptoRow, standIns := [], harness := (true, "04f3624ec14e101d67375ab4b2ff2e322f9ea4cbbfcd9df50d2a58384e7ee738"), looks := true }, kinds := [], alts := [], laidByText := true, laidKinds := [.sentinel, .sentinel, .sentinel, .sentinel, .sentinel, .sentinel, .sentinel, .sentinel, .sentinel, .sentinel, .sentinel], laidTests := true, laidLooks := .later }
def JoinBoundsUptoCardSaid : Prop := Claim7.holds Tryd.pinned (.plain (OpenSpec.upto joinBoundsSpec)) joinBoundsUptoCard
end Rows
end Go.Proofs.YtlafokjkpbhckaaDoor
