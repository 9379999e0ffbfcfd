/-
  DERIVED. GIVEN WITH THE SEED: THE CARDS: each row of YtanfjnhpdchbbaaDoorRows.lean that lists a variable, with what it lists TIED to the program's text (the seventh form; the later family's looks); each row that meets fmt, with fmt's text TOLD by the authors' own Lean function (tested against real Go, not proved from fmt's source: count such statements apart). THE CARD IS WHAT COUNTS. Prove the row's statement (the work); the ties are given (YtanfjnhpdchbbaaDoorTie.lean); close each card by the builder's one call (the guide's Derived/Test/ToyasCard.lean, 'card_holds'). Laid BY PROGRAM, IN A SANDBOX (cutbox-door.mjs). By AI agents, Wed Nov 11 2026. No macro, syntax, notation, axiom, sorry.
-/
import Derived.Test.YtanfjnhpdchbbaaDoorRows
import GoSem.ClaimSeven
namespace Go.Proofs.YtanfjnhpdchbbaaDoor
namespace Rows

/-- THE TIED CARD OF 'belvederelaw6.SpineMerges'. -/
def spineMergesCard : Claim7 := { stood := { row := spineMergesRow, standIns := [], harness := (true, "ce2577dc2dfa959e78470baaa0a6495e8f42d1ade2963cc70354169b0fa82562"), looks := true }, kinds := [], alts := [], laidByText := true, laidKinds := [.sentinel], laidTests := true, laidLooks := .later }
def SpineMergesCardSaid : Prop := Claim7.holds Tryd.pinned (.plain (OpenSpec.ofChange spineMergesSpec)) spineMergesCard

/-- THE TIED CARD OF 'belvederelaw6.SpineOrders'. -/
def spineOrdersCard : Claim7 := { stood := { row := spineOrdersRow, standIns := [], harness := (true, "ce2577dc2dfa959e78470baaa0a6495e8f42d1ade2963cc70354169b0fa82562"), looks := true }, kinds := [], alts := [], laidByText := true, laidKinds := [.sentinel], laidTests := true, laidLooks := .later }
def SpineOrdersCardSaid : Prop := Claim7.holds Tryd.pinned (.plain (OpenSpec.ofChange spineOrdersSpec)) spineOrdersCard

/-- THE TIED CARD OF 'belvederelaw6.SpineGone'. -/
def spineGoneCard : Claim7 := { stood := { row := spineGoneRow, standIns := [], harness := (true, "ce2577dc2dfa959e78470baaa0a6495e8f42d1ade2963cc70354169b0fa82562"), looks := true }, kinds := [], alts := [], laidByText := true, laidKinds := [.sentinel], laidTests := true, laidLooks := .later }
def SpineGoneCardSaid : Prop := Claim7.holds Tryd.pinned (.plain (OpenSpec.ofChange spineGoneSpec)) spineGoneCard

/-- THE TIED CARD OF 'belvederelaw5.MergeSays'. -/
def mergeSaysCard : Claim7 := { stood := { row := mergeSaysRow, standIns := [], harness := (true, "ce2577dc2dfa959e78470baaa0a6495e8f42d1ade2963cc70354169b0fa82562"), looks := true }, kinds := [], alts := [], laidByText := true, laidKinds := [.sentinel, .sentinel, .sentinel, .sentinel, .sentinel, .sentinel, .sentinel, .sentinel, .sentinel, .sentinel, .sentinel], laidTests := true, laidLooks := .later }
def MergeSaysCardSaid : Prop := Claim7.holds Tryd.pinned (.plain (OpenSpec.ofChange mergeSaysSpec)) mergeSaysCard

/-- THE TIED CARD OF 'belvederelaw5.MergeWalks'. -/
def mergeWalksCard : Claim7 := { stood := { row := mergeWalksRow, standIns := [], harness := (true, "ce2577dc2dfa959e78470baaa0a6495e8f42d1ade2963cc70354169b0fa82562"), looks := true }, kinds := [], alts := [], laidByText := true, laidKinds := [.sentinel], laidTests := true, laidLooks := .later }
def MergeWalksCardSaid : Prop := Claim7.holds Tryd.pinned (.plain (OpenSpec.ofChange mergeWalksSpec)) mergeWalksCard

/-- THE SECOND FORM's CARD OF 'belvederelaw6.SpineMerges'. -/
def spineMergesUptoCard : Claim7 := { stood := { row := spineMergesUptoRow, standIns := [], harness := (true, "ce2577dc2dfa959e78470baaa0a6495e8f42d1ade2963cc70354169b0fa82562"), looks := true }, kinds := [], alts := [], laidByText := true, laidKinds := [.sentinel], laidTests := true, laidLooks := .later }
def SpineMergesUptoCardSaid : Prop := Claim7.holds Tryd.pinned (.plain (OpenSpec.upto spineMergesSpec)) spineMergesUptoCard

/-- THE SECOND FORM's CARD OF 'belvederelaw6.SpineOrders'. -/
def spineOrdersUptoCard : Claim7 := { stood := { row := spineOrdersUptoRow, standIns := [], harness := (true, "ce2577dc2dfa959e78470baaa0a6495e8f42d1ade2963cc70354169b0fa82562"), looks := true }, kinds := [], alts := [], laidByText := true, laidKinds := [.sentinel], laidTests := true, laidLooks := .later }
def SpineOrdersUptoCardSaid : Prop := Claim7.holds Tryd.pinned (.plain (OpenSpec.upto spineOrdersSpec)) spineOrdersUptoCard

/-- THE SECOND FORM's CARD OF 'belvederelaw6.SpineGone'. -/
def spineGoneUptoCard : Claim7 := { stood := { row := spineGoneUptoRow, standIns := [], harness := (true, "ce2577dc2dfa959e78470baaa0a6495e8f42d1ade2963cc70354169b0fa82562"), looks := true }, kinds := [], alts := [], laidByText := true, laidKinds := [.sentinel], laidTests := true, laidLooks := .later }
def SpineGoneUptoCardSaid : Prop := Claim7.holds Tryd.pinned (.plain (OpenSpec.upto spineGoneSpec)) spineGoneUptoCard

/-- THE SECOND FORM's CARD OF 'belvederelaw5.MergeSays'. -/
def mergeSaysUptoCard : Claim7 := { stood := { row := mergeSaysUptoRow, standIns := [], harness := (true, "ce2577dc2dfa959e78470baaa0a6495e8f42d1ade2963cc70354169b0fa82562"), looks := true }, kinds := [], alts := [], laidByText := true, laidKinds := [.sentinel, .sentinel, .sentinel, .sentinel, .sentinel, .sentinel, .sentinel, .sentinel, .sentinel, .sentinel, .sentinel], laidTests := true, laidLooks := .later }
def MergeSaysUptoCardSaid : Prop := Claim7.holds Tryd.pinned (.plain (OpenSpec.upto mergeSaysSpec)) mergeSaysUptoCard

/-- THE SECOND FORM's CARD OF 'belvederelaw5.MergeWalks'. -/
def mergeWalksUptoCard : Claim7 := { stood := { row := mergeWalksUptoRow, standIns := [], harness := (true, "ce2577dc2dfa959e78470baaa0a6495e8f42d1ade2963cc70354169b0fa82562"), looks := true }, kinds := [], alts := [], laidByText := true, laidKinds := [.sentinel], laidTests := true, laidLooks := .later }
def MergeWalksUptoCardSaid : Prop := Claim7.holds Tryd.pinned (.plain (OpenSpec.upto mergeWalksSpec)) mergeWalksUptoCard
end Rows
end Go.Proofs.YtanfjnhpdchbbaaDoor
