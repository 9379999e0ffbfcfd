/-
  DERIVED. GIVEN WITH THE SEED: THE CARDS: each row of YtanfjnhpdchbbabDoorRows.lean that lists a variable, with what it lists TIED to the program's text (the seventh form; the later family's looks); each row that meets fmt, with fmt's text TOLD by the authors' own Lean function (tested against real Go, not proved from fmt's source: count such statements apart). THE CARD IS WHAT COUNTS. Prove the row's statement (the work); the ties are given (YtanfjnhpdchbbabDoorTie.lean); close each card by the builder's one call (the guide's Derived/Test/ToyasCard.lean, 'card_holds'). Laid BY PROGRAM, IN A SANDBOX (cutbox-door.mjs). By AI agents, Wed Nov 11 2026. No macro, syntax, notation, axiom, sorry.
-/
import Derived.Test.YtanfjnhpdchbbabDoorRows
import GoSem.ClaimSeven
namespace Go.Proofs.YtanfjnhpdchbbabDoor
namespace Rows

/-- THE TIED CARD OF 'belvederelaw5.MergeOrders'. -/
def mergeOrdersCard : Claim7 := { stood := { row := mergeOrdersRow, standIns := [], harness := (true, "7a679af350f97e0ba76534dc725a814a831c1182463c885586d236ca3a847cba"), looks := true }, kinds := [], alts := [], laidByText := true, laidKinds := [.sentinel], laidTests := true, laidLooks := .later }
def MergeOrdersCardSaid : Prop := Claim7.holds Tryd.pinned (.plain (OpenSpec.ofChange mergeOrdersSpec)) mergeOrdersCard

/-- THE TIED CARD OF 'belvederelaw5.MergeSeeks'. -/
def mergeSeeksCard : Claim7 := { stood := { row := mergeSeeksRow, standIns := [], harness := (true, "7a679af350f97e0ba76534dc725a814a831c1182463c885586d236ca3a847cba"), looks := true }, kinds := [], alts := [], laidByText := true, laidKinds := [.sentinel], laidTests := true, laidLooks := .later }
def MergeSeeksCardSaid : Prop := Claim7.holds Tryd.pinned (.plain (OpenSpec.ofChange mergeSeeksSpec)) mergeSeeksCard

/-- THE TIED CARD OF 'belvederelaw5.MergeOne'. -/
def mergeOneCard : Claim7 := { stood := { row := mergeOneRow, standIns := [], harness := (true, "7a679af350f97e0ba76534dc725a814a831c1182463c885586d236ca3a847cba"), looks := true }, kinds := [], alts := [], laidByText := true, laidKinds := [.sentinel], laidTests := true, laidLooks := .later }
def MergeOneCardSaid : Prop := Claim7.holds Tryd.pinned (.plain (OpenSpec.ofChange mergeOneSpec)) mergeOneCard

/-- THE SECOND FORM's CARD OF 'belvederelaw5.MergeOrders'. -/
def mergeOrdersUptoCard : Claim7 := { stood := { row := mergeOrdersUptoRow, standIns := [], harness := (true, "7a679af350f97e0ba76534dc725a814a831c1182463c885586d236ca3a847cba"), looks := true }, kinds := [], alts := [], laidByText := true, laidKinds := [.sentinel], laidTests := true, laidLooks := .later }
def MergeOrdersUptoCardSaid : Prop := Claim7.holds Tryd.pinned (.plain (OpenSpec.upto mergeOrdersSpec)) mergeOrdersUptoCard

/-- THE SECOND FORM's CARD OF 'belvederelaw5.MergeSeeks'. -/
def mergeSeeksUptoCard : Claim7 := { stood := { row := mergeSeeksUptoRow, standIns := [], harness := (true, "7a679af350f97e0ba76534dc725a814a831c1182463c885586d236ca3a847cba"), looks := true }, kinds := [], alts := [], laidByText := true, laidKinds := [.sentinel], laidTests := true, laidLooks := .later }
def MergeSeeksUptoCardSaid : Prop := Claim7.holds Tryd.pinned (.plain (OpenSpec.upto mergeSeeksSpec)) mergeSeeksUptoCard

/-- THE SECOND FORM's CARD OF 'belvederelaw5.MergeOne'. -/
def mergeOneUptoCard : Claim7 := { stood := { row := mergeOneUptoRow, standIns := [], harness := (true, "7a679af350f97e0ba76534dc725a814a831c1182463c885586d236ca3a847cba"), looks := true }, kinds := [], alts := [], laidByText := true, laidKinds := [.sentinel], laidTests := true, laidLooks := .later }
def MergeOneUptoCardSaid : Prop := Claim7.holds Tryd.pinned (.plain (OpenSpec.upto mergeOneSpec)) mergeOneUptoCard
end Rows
end Go.Proofs.YtanfjnhpdchbbabDoor
