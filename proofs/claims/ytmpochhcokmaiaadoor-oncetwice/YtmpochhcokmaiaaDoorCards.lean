/-
  DERIVED. GIVEN WITH THE SEED: THE CARDS: each row of YtmpochhcokmaiaaDoorRows.lean that lists a variable, with what it lists TIED to the program's text (the seventh form; the later family's looks); each row that meets fmt, with fmt's text TOLD by the authors' own Lean function (tested against real Go, not proved from fmt's source: count such statements apart). THE CARD IS WHAT COUNTS. Prove the row's statement (the work); the ties are given (YtmpochhcokmaiaaDoorTie.lean); close each card by the builder's one call (the guide's Derived/Test/ToyasCard.lean, 'card_holds'). Laid BY PROGRAM, IN A SANDBOX (cutbox-door.mjs). By AI agents, Wed Nov 11 2026. No macro, syntax, notation, axiom, sorry.
-/
import Derived.Test.YtmpochhcokmaiaaDoorRows
import GoSem.ClaimSeven
namespace Go.Proofs.YtmpochhcokmaiaaDoor
namespace Rows

/-- THE TIED CARD OF 'belvederelaw13.OnceSays'. -/
def onceSaysCard : Claim7 := { stood := { row := onceSaysRow, standIns := [], harness := (true, "58235e271e156723d0d83434204463be2a8ef2a558770e792c2e69e4aebdc495"), looks := true }, kinds := [], alts := [], laidByText := true, laidKinds := [.sentinel, .sentinel, .sentinel, .sentinel, .sentinel, .sentinel, .sentinel, .sentinel, .sentinel, .sentinel, .sentinel], laidTests := true, laidLooks := .later }
def OnceSaysCardSaid : Prop := Claim7.holds Tryd.pinned (.plain (OpenSpec.ofChange onceSaysSpec)) onceSaysCard

/-- THE TIED CARD OF 'belvederelaw13.OnceTwice'. -/
def onceTwiceCard : Claim7 := { stood := { row := onceTwiceRow, standIns := [], harness := (true, "58235e271e156723d0d83434204463be2a8ef2a558770e792c2e69e4aebdc495"), looks := true }, kinds := [], alts := [], laidByText := true, laidKinds := [.sentinel], laidTests := true, laidLooks := .later }
def OnceTwiceCardSaid : Prop := Claim7.holds Tryd.pinned (.plain (OpenSpec.ofChange onceTwiceSpec)) onceTwiceCard

/-- THE TIED CARD OF 'belvederelaw13.OnceLittle'. -/
def onceLittleCard : Claim7 := { stood := { row := onceLittleRow, standIns := [], harness := (true, "58235e271e156723d0d83434204463be2a8ef2a558770e792c2e69e4aebdc495"), looks := true }, kinds := [], alts := [], laidByText := true, laidKinds := [.sentinel], laidTests := true, laidLooks := .later }
def OnceLittleCardSaid : Prop := Claim7.holds Tryd.pinned (.plain (OpenSpec.ofChange onceLittleSpec)) onceLittleCard

/-- THE SECOND FORM's CARD OF 'belvederelaw13.OnceSays'. -/
def onceSaysUptoCard : Claim7 := { stood := { row := onceSaysUptoRow, standIns := [], harness := (true, "58235e271e156723d0d83434204463be2a8ef2a558770e792c2e69e4aebdc495"), looks := true }, kinds := [], alts := [], laidByText := true, laidKinds := [.sentinel, .sentinel, .sentinel, .sentinel, .sentinel, .sentinel, .sentinel, .sentinel, .sentinel, .sentinel, .sentinel], laidTests := true, laidLooks := .later }
def OnceSaysUptoCardSaid : Prop := Claim7.holds Tryd.pinned (.plain (OpenSpec.upto onceSaysSpec)) onceSaysUptoCard

/-- THE SECOND FORM's CARD OF 'belvederelaw13.OnceTwice'. -/
def onceTwiceUptoCard : Claim7 := { stood := { row := onceTwiceUptoRow, standIns := [], harness := (true, "58235e271e156723d0d83434204463be2a8ef2a558770e792c2e69e4aebdc495"), looks := true }, kinds := [], alts := [], laidByText := true, laidKinds := [.sentinel], laidTests := true, laidLooks := .later }
def OnceTwiceUptoCardSaid : Prop := Claim7.holds Tryd.pinned (.plain (OpenSpec.upto onceTwiceSpec)) onceTwiceUptoCard

/-- THE SECOND FORM's CARD OF 'belvederelaw13.OnceLittle'. -/
def onceLittleUptoCard : Claim7 := { stood := { row := onceLittleUptoRow, standIns := [], harness := (true, "58235e271e156723d0d83434204463be2a8ef2a558770e792c2e69e4aebdc495"), looks := true }, kinds := [], alts := [], laidByText := true, laidKinds := [.sentinel], laidTests := true, laidLooks := .later }
def OnceLittleUptoCardSaid : Prop := Claim7.holds Tryd.pinned (.plain (OpenSpec.upto onceLittleSpec)) onceLittleUptoCard
end Rows
end Go.Proofs.YtmpochhcokmaiaaDoor
