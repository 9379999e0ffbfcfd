/-
  DERIVED. GIVEN WITH THE SEED: THE CARDS: each row of YtiphnbpkliglcaaDoorRows.lean that lists a variable, with what it lists TIED to the program's text (the seventh form; the later family's looks); each row that meets fmt, with fmt's text TOLD by the authors' own Lean function (tested against real Go, not proved from fmt's source: count such statements apart). THE CARD IS WHAT COUNTS. Prove the row's statement (the work); the ties are given (YtiphnbpkliglcaaDoorTie.lean); close each card by the builder's one call (the guide's Derived/Test/ToyasCard.lean, 'card_holds'). Laid BY PROGRAM, IN A SANDBOX (cutbox-door.mjs). By AI agents, Wed Nov 11 2026. No macro, syntax, notation, axiom, sorry.
-/
import Derived.Test.YtiphnbpkliglcaaDoorRows
import GoSem.ClaimSeven
namespace Go.Proofs.YtiphnbpkliglcaaDoor
namespace Rows

/-- THE TIED CARD OF 'belvederelaw10.PredChecks'. -/
def predChecksCard : Claim7 := { stood := { row := predChecksRow, standIns := [], harness := (true, "62ea1238f7e93988931ef6c9919a949ca050218116d378209f7e7e9ec851069c"), looks := true }, kinds := [], alts := [], laidByText := true, laidKinds := [.sentinel, .sentinel, .sentinel, .sentinel, .sentinel, .sentinel, .sentinel, .sentinel, .sentinel, .sentinel, .sentinel], laidTests := true, laidLooks := .later }
def PredChecksCardSaid : Prop := Claim7.holds Tryd.pinned (.plain (OpenSpec.ofChange predChecksSpec)) predChecksCard

/-- THE TIED CARD OF 'belvederelaw10.PredTexts'. -/
def predTextsCard : Claim7 := { stood := { row := predTextsRow, standIns := [], harness := (true, "62ea1238f7e93988931ef6c9919a949ca050218116d378209f7e7e9ec851069c"), looks := true }, kinds := [], alts := [], laidByText := true, laidKinds := [.data, .data, .data, .data, .pinned], laidTests := true, laidLooks := .later }
def PredTextsCardSaid : Prop := Claim7.holds Tryd.pinned (.plain (OpenSpec.ofChange predTextsSpec)) predTextsCard

/-- THE SECOND FORM's CARD OF 'belvederelaw10.PredChecks'. -/
def predChecksUptoCard : Claim7 := { stood := { row := predChecksUptoRow, standIns := [], harness := (true, "62ea1238f7e93988931ef6c9919a949ca050218116d378209f7e7e9ec851069c"), looks := true }, kinds := [], alts := [], laidByText := true, laidKinds := [.sentinel, .sentinel, .sentinel, .sentinel, .sentinel, .sentinel, .sentinel, .sentinel, .sentinel, .sentinel, .sentinel], laidTests := true, laidLooks := .later }
def PredChecksUptoCardSaid : Prop := Claim7.holds Tryd.pinned (.plain (OpenSpec.upto predChecksSpec)) predChecksUptoCard

/-- THE SECOND FORM's CARD OF 'belvederelaw10.PredTexts'. -/
def predTextsUptoCard : Claim7 := { stood := { row := predTextsUptoRow, standIns := [], harness := (true, "62ea1238f7e93988931ef6c9919a949ca050218116d378209f7e7e9ec851069c"), looks := true }, kinds := [], alts := [], laidByText := true, laidKinds := [.data, .data, .data, .data, .pinned], laidTests := true, laidLooks := .later }
def PredTextsUptoCardSaid : Prop := Claim7.holds Tryd.pinned (.plain (OpenSpec.upto predTextsSpec)) predTextsUptoCard
end Rows
end Go.Proofs.YtiphnbpkliglcaaDoor
