/-
  DERIVED. GIVEN WITH THE SEED: THE CARDS: each row of YtaccinophamgmaaDoorRows.lean that lists a variable, with what it lists TIED to the program's text (the seventh form; the later family's looks); each row that meets fmt, with fmt's text TOLD by the authors' own Lean function (tested against real Go, not proved from fmt's source: count such statements apart). THE CARD IS WHAT COUNTS. Prove the row's statement (the work); the ties are given (YtaccinophamgmaaDoorTie.lean); close each card by the builder's one call (the guide's Derived/Test/ToyasCard.lean, 'card_holds'). Laid BY PROGRAM, IN A SANDBOX (cutbox-door.mjs). By AI agents, Wed Nov 11 2026. No macro, syntax, notation, axiom, sorry.
-/
import Derived.Test.YtaccinophamgmaaDoorRows
import GoSem.ClaimSeven
namespace Go.Proofs.YtaccinophamgmaaDoor
namespace Rows

/-- THE TIED CARD OF 'belvederelaw11.LinearSays'. -/
def linearSaysCard : Claim7 := { stood := { row := linearSaysRow, standIns := [], harness := (true, "eb2f6b42eef5cabcdd1fd325f595faae532d6c51b5269d6322a6283d22c92949"), looks := true }, kinds := [], alts := [], laidByText := true, laidKinds := [.sentinel, .sentinel, .sentinel, .sentinel, .sentinel, .sentinel, .sentinel, .sentinel, .sentinel, .sentinel, .sentinel], laidTests := true, laidLooks := .later }
def LinearSaysCardSaid : Prop := Claim7.holds Tryd.pinned (.plain (OpenSpec.ofChange linearSaysSpec)) linearSaysCard

/-- THE TIED CARD OF 'belvederelaw11.LinearSums'. -/
def linearSumsCard : Claim7 := { stood := { row := linearSumsRow, standIns := [], harness := (true, "eb2f6b42eef5cabcdd1fd325f595faae532d6c51b5269d6322a6283d22c92949"), looks := true }, kinds := [], alts := [], laidByText := true, laidKinds := [.sentinel, .sentinel], laidTests := true, laidLooks := .later }
def LinearSumsCardSaid : Prop := Claim7.holds Tryd.pinned (.plain (OpenSpec.ofChange linearSumsSpec)) linearSumsCard

/-- THE TIED CARD OF 'belvederelaw11.LinearPicks'. -/
def linearPicksCard : Claim7 := { stood := { row := linearPicksRow, standIns := [], harness := (true, "eb2f6b42eef5cabcdd1fd325f595faae532d6c51b5269d6322a6283d22c92949"), looks := true }, kinds := [], alts := [], laidByText := true, laidKinds := [.sentinel, .sentinel, .sentinel, .sentinel, .sentinel, .sentinel, .sentinel, .sentinel, .sentinel, .sentinel, .sentinel], laidTests := true, laidLooks := .later }
def LinearPicksCardSaid : Prop := Claim7.holds Tryd.pinned (.plain (OpenSpec.ofChange linearPicksSpec)) linearPicksCard

/-- THE TIED CARD OF 'belvederelaw11.LinearFilters'. -/
def linearFiltersCard : Claim7 := { stood := { row := linearFiltersRow, standIns := [], harness := (true, "eb2f6b42eef5cabcdd1fd325f595faae532d6c51b5269d6322a6283d22c92949"), looks := true }, kinds := [], alts := [], laidByText := true, laidKinds := [.sentinel, .sentinel], laidTests := true, laidLooks := .later }
def LinearFiltersCardSaid : Prop := Claim7.holds Tryd.pinned (.plain (OpenSpec.ofChange linearFiltersSpec)) linearFiltersCard

/-- THE SECOND FORM's CARD OF 'belvederelaw11.LinearSays'. -/
def linearSaysUptoCard : Claim7 := { stood := { row := linearSaysUptoRow, standIns := [], harness := (true, "eb2f6b42eef5cabcdd1fd325f595faae532d6c51b5269d6322a6283d22c92949"), looks := true }, kinds := [], alts := [], laidByText := true, laidKinds := [.sentinel, .sentinel, .sentinel, .sentinel, .sentinel, .sentinel, .sentinel, .sentinel, .sentinel, .sentinel, .sentinel], laidTests := true, laidLooks := .later }
def LinearSaysUptoCardSaid : Prop := Claim7.holds Tryd.pinned (.plain (OpenSpec.upto linearSaysSpec)) linearSaysUptoCard

/-- THE SECOND FORM's CARD OF 'belvederelaw11.LinearSums'. -/
def linearSumsUptoCard : Claim7 := { stood := { row := linearSumsUptoRow, standIns := [], harness := (true, "eb2f6b42eef5cabcdd1fd325f595faae532d6c51b5269d6322a6283d22c92949"), looks := true }, kinds := [], alts := [], laidByText := true, laidKinds := [.sentinel, .sentinel], laidTests := true, laidLooks := .later }
def LinearSumsUptoCardSaid : Prop := Claim7.holds Tryd.pinned (.plain (OpenSpec.upto linearSumsSpec)) linearSumsUptoCard

/-- THE SECOND FORM's CARD OF 'belvederelaw11.LinearPicks'. -/
def linearPicksUptoCard : Claim7 := { stood := { row := linearPicksUptoRow, standIns := [], harness := (true, "eb2f6b42eef5cabcdd1fd325f595faae532d6c51b5269d6322a6283d22c92949"), looks := true }, kinds := [], alts := [], laidByText := true, laidKinds := [.sentinel, .sentinel, .sentinel, .sentinel, .sentinel, .sentinel, .sentinel, .sentinel, .sentinel, .sentinel, .sentinel], laidTests := true, laidLooks := .later }
def LinearPicksUptoCardSaid : Prop := Claim7.holds Tryd.pinned (.plain (OpenSpec.upto linearPicksSpec)) linearPicksUptoCard

/-- THE SECOND FORM's CARD OF 'belvederelaw11.LinearFilters'. -/
def linearFiltersUptoCard : Claim7 := { stood := { row := linearFiltersUptoRow, standIns := [], harness := (true, "eb2f6b42eef5cabcdd1fd325f595faae532d6c51b5269d6322a6283d22c92949"), looks := true }, kinds := [], alts := [], laidByText := true, laidKinds := [.sentinel, .sentinel], laidTests := true, laidLooks := .later }
def LinearFiltersUptoCardSaid : Prop := Claim7.holds Tryd.pinned (.plain (OpenSpec.upto linearFiltersSpec)) linearFiltersUptoCard
end Rows
end Go.Proofs.YtaccinophamgmaaDoor
