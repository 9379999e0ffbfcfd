/-
  DERIVED. GIVEN WITH THE SEED: THE CARDS: each row of YtnjbpikhkccekaaDoorRows.lean that lists a variable, with what it lists TIED to the program's text (the seventh form; the later family's looks); each row that meets fmt, with fmt's text TOLD by the authors' own Lean function (tested against real Go, not proved from fmt's source: count such statements apart). THE CARD IS WHAT COUNTS. Prove the row's statement (the work); the ties are given (YtnjbpikhkccekaaDoorTie.lean); close each card by the builder's one call (the guide's Derived/Test/ToyasCard.lean, 'card_holds'). Laid BY PROGRAM, IN A SANDBOX (cutbox-door.mjs). By AI agents, Wed Nov 11 2026. No macro, syntax, notation, axiom, sorry.
-/
import Derived.Test.YtnjbpikhkccekaaDoorRows
import GoSem.ClaimSeven
namespace Go.Proofs.YtnjbpikhkccekaaDoor
namespace Rows

/-- THE TIED CARD OF 'belvederelaw5.MergeSays'. -/
def mergeSaysCard : Claim7 := { stood := { row := mergeSaysRow, standIns := [], harness := (true, "f51d31f4be1b2e839f98b8bd83f9cf3b11f4a1b9f5d327998c5d4f09c05de993"), looks := true }, kinds := [], alts := [], laidByText := true, laidKinds := [.sentinel, .sentinel, .sentinel, .sentinel, .sentinel, .sentinel, .sentinel, .sentinel, .sentinel, .sentinel, .sentinel], laidTests := true, laidLooks := .later }
def MergeSaysCardSaid : Prop := Claim7.holds Tryd.pinned (.plain (OpenSpec.ofChange mergeSaysSpec)) mergeSaysCard

/-- THE TIED CARD OF 'belvederelaw5.MergeWalks'. -/
def mergeWalksCard : Claim7 := { stood := { row := mergeWalksRow, standIns := [], harness := (true, "f51d31f4be1b2e839f98b8bd83f9cf3b11f4a1b9f5d327998c5d4f09c05de993"), looks := true }, kinds := [], alts := [], laidByText := true, laidKinds := [.sentinel], laidTests := true, laidLooks := .later }
def MergeWalksCardSaid : Prop := Claim7.holds Tryd.pinned (.plain (OpenSpec.ofChange mergeWalksSpec)) mergeWalksCard

/-- THE TIED CARD OF 'belvederelaw5.MergeOrders'. -/
def mergeOrdersCard : Claim7 := { stood := { row := mergeOrdersRow, standIns := [], harness := (true, "f51d31f4be1b2e839f98b8bd83f9cf3b11f4a1b9f5d327998c5d4f09c05de993"), looks := true }, kinds := [], alts := [], laidByText := true, laidKinds := [.sentinel], laidTests := true, laidLooks := .later }
def MergeOrdersCardSaid : Prop := Claim7.holds Tryd.pinned (.plain (OpenSpec.ofChange mergeOrdersSpec)) mergeOrdersCard

/-- THE TIED CARD OF 'belvederelaw5.MergeSeeks'. -/
def mergeSeeksCard : Claim7 := { stood := { row := mergeSeeksRow, standIns := [], harness := (true, "f51d31f4be1b2e839f98b8bd83f9cf3b11f4a1b9f5d327998c5d4f09c05de993"), looks := true }, kinds := [], alts := [], laidByText := true, laidKinds := [.sentinel], laidTests := true, laidLooks := .later }
def MergeSeeksCardSaid : Prop := Claim7.holds Tryd.pinned (.plain (OpenSpec.ofChange mergeSeeksSpec)) mergeSeeksCard

/-- THE TIED CARD OF 'belvederelaw5.MergeOne'. -/
def mergeOneCard : Claim7 := { stood := { row := mergeOneRow, standIns := [], harness := (true, "f51d31f4be1b2e839f98b8bd83f9cf3b11f4a1b9f5d327998c5d4f09c05de993"), looks := true }, kinds := [], alts := [], laidByText := true, laidKinds := [.sentinel], laidTests := true, laidLooks := .later }
def MergeOneCardSaid : Prop := Claim7.holds Tryd.pinned (.plain (OpenSpec.ofChange mergeOneSpec)) mergeOneCard

/-- THE SECOND FORM's CARD OF 'belvederelaw5.MergeSays'. -/
def mergeSaysUptoCard : Claim7 := { stood := { row := mergeSaysUptoRow, standIns := [], harness := (true, "f51d31f4be1b2e839f98b8bd83f9cf3b11f4a1b9f5d327998c5d4f09c05de993"), looks := true }, kinds := [], alts := [], laidByText := true, laidKinds := [.sentinel, .sentinel, .sentinel, .sentinel, .sentinel, .sentinel, .sentinel, .sentinel, .sentinel, .sentinel, .sentinel], laidTests := true, laidLooks := .later }
def MergeSaysUptoCardSaid : Prop := Claim7.holds Tryd.pinned (.plain (OpenSpec.upto mergeSaysSpec)) mergeSaysUptoCard

/-- THE SECOND FORM's CARD OF 'belvederelaw5.MergeWalks'. -/
def mergeWalksUptoCard : Claim7 := { stood := { row := mergeWalksUptoRow, standIns := [], harness := (true, "f51d31f4be1b2e839f98b8bd83f9cf3b11f4a1b9f5d327998c5d4f09c05de993"), looks := true }, kinds := [], alts := [], laidByText := true, laidKinds := [.sentinel], laidTests := true, laidLooks := .later }
def MergeWalksUptoCardSaid : Prop := Claim7.holds Tryd.pinned (.plain (OpenSpec.upto mergeWalksSpec)) mergeWalksUptoCard

/-- THE SECOND FORM's CARD OF 'belvederelaw5.MergeOrders'. -/
def mergeOrdersUptoCard : Claim7 := { stood := { row := mergeOrdersUptoRow, standIns := [], harness := (true, "f51d31f4be1b2e839f98b8bd83f9cf3b11f4a1b9f5d327998c5d4f09c05de993"), looks := true }, kinds := [], alts := [], laidByText := true, laidKinds := [.sentinel], laidTests := true, laidLooks := .later }
def MergeOrdersUptoCardSaid : Prop := Claim7.holds Tryd.pinned (.plain (OpenSpec.upto mergeOrdersSpec)) mergeOrdersUptoCard

/-- THE SECOND FORM's CARD OF 'belvederelaw5.MergeSeeks'. -/
def mergeSeeksUptoCard : Claim7 := { stood := { row := mergeSeeksUptoRow, standIns := [], harness := (true, "f51d31f4be1b2e839f98b8bd83f9cf3b11f4a1b9f5d327998c5d4f09c05de993"), looks := true }, kinds := [], alts := [], laidByText := true, laidKinds := [.sentinel], laidTests := true, laidLooks := .later }
def MergeSeeksUptoCardSaid : Prop := Claim7.holds Tryd.pinned (.plain (OpenSpec.upto mergeSeeksSpec)) mergeSeeksUptoCard

/-- THE SECOND FORM's CARD OF 'belvederelaw5.MergeOne'. -/
def mergeOneUptoCard : Claim7 := { stood := { row := mergeOneUptoRow, standIns := [], harness := (true, "f51d31f4be1b2e839f98b8bd83f9cf3b11f4a1b9f5d327998c5d4f09c05de993"), looks := true }, kinds := [], alts := [], laidByText := true, laidKinds := [.sentinel], laidTests := true, laidLooks := .later }
def MergeOneUptoCardSaid : Prop := Claim7.holds Tryd.pinned (.plain (OpenSpec.upto mergeOneSpec)) mergeOneUptoCard
end Rows
end Go.Proofs.YtnjbpikhkccekaaDoor
