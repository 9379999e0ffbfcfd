/-
  DERIVED. GIVEN WITH THE SEED: THE CARDS: each row of YtkamnepbgbficaaDoorRows.lean that lists a variable, with what it lists TIED to the program's text (the seventh form; the later family's looks); each row that meets fmt, with fmt's text TOLD by the authors' own Lean function (tested against real Go, not proved from fmt's source: count such statements apart). THE CARD IS WHAT COUNTS. Prove the row's statement (the work); the ties are given (YtkamnepbgbficaaDoorTie.lean); close each card by the builder's one call (the guide's Derived/Test/ToyasCard.lean, 'card_holds'). Laid BY PROGRAM, IN A SANDBOX (cutbox-door.mjs). By AI agents, Wed Nov 11 2026. No macro, syntax, notation, axiom, sorry.
-/
import Derived.Test.YtkamnepbgbficaaDoorRows
import GoSem.ClaimSeven
namespace Go.Proofs.YtkamnepbgbficaaDoor
namespace Rows

/-- THE TIED CARD OF 'belvederelaw3.ZsetSays'. -/
def zsetSaysCard : Claim7 := { stood := { row := zsetSaysRow, standIns := [], harness := (true, "6e03ce042920229f2944d04ad05717840f21d1f0b5c7c5247e0abed19736fdef"), looks := true }, kinds := [], alts := [], laidByText := true, laidKinds := [.sentinel, .sentinel, .sentinel, .sentinel, .sentinel, .sentinel, .sentinel, .sentinel, .sentinel, .sentinel, .sentinel], laidTests := true, laidLooks := .later }
def ZsetSaysCardSaid : Prop := Claim7.holds Tryd.pinned (.plain (OpenSpec.ofChange zsetSaysSpec)) zsetSaysCard

/-- THE TIED CARD OF 'belvederelaw3.ZsetLaws'. -/
def zsetLawsCard : Claim7 := { stood := { row := zsetLawsRow, standIns := [], harness := (true, "6e03ce042920229f2944d04ad05717840f21d1f0b5c7c5247e0abed19736fdef"), looks := true }, kinds := [], alts := [], laidByText := true, laidKinds := [.sentinel], laidTests := true, laidLooks := .later }
def ZsetLawsCardSaid : Prop := Claim7.holds Tryd.pinned (.plain (OpenSpec.ofChange zsetLawsSpec)) zsetLawsCard

/-- THE TIED CARD OF 'belvederelaw3.ZsetSums'. -/
def zsetSumsCard : Claim7 := { stood := { row := zsetSumsRow, standIns := [], harness := (true, "6e03ce042920229f2944d04ad05717840f21d1f0b5c7c5247e0abed19736fdef"), looks := true }, kinds := [], alts := [], laidByText := true, laidKinds := [.sentinel, .sentinel, .sentinel, .sentinel, .sentinel, .sentinel, .sentinel, .sentinel, .sentinel, .sentinel, .sentinel], laidTests := true, laidLooks := .later }
def ZsetSumsCardSaid : Prop := Claim7.holds Tryd.pinned (.plain (OpenSpec.ofChange zsetSumsSpec)) zsetSumsCard

/-- THE TIED CARD OF 'belvederelaw3.ZsetBounds'. -/
def zsetBoundsCard : Claim7 := { stood := { row := zsetBoundsRow, standIns := [], harness := (true, "6e03ce042920229f2944d04ad05717840f21d1f0b5c7c5247e0abed19736fdef"), looks := true }, kinds := [], alts := [], laidByText := true, laidKinds := [.sentinel, .sentinel, .sentinel, .sentinel, .sentinel, .sentinel, .sentinel, .sentinel, .sentinel, .sentinel, .sentinel], laidTests := true, laidLooks := .later }
def ZsetBoundsCardSaid : Prop := Claim7.holds Tryd.pinned (.plain (OpenSpec.ofChange zsetBoundsSpec)) zsetBoundsCard

/-- THE TIED CARD OF 'belvederelaw3.ZsetOwn'. -/
def zsetOwnCard : Claim7 := { stood := { row := zsetOwnRow, standIns := [], harness := (true, "6e03ce042920229f2944d04ad05717840f21d1f0b5c7c5247e0abed19736fdef"), looks := true }, kinds := [], alts := [], laidByText := true, laidKinds := [.sentinel], laidTests := true, laidLooks := .later }
def ZsetOwnCardSaid : Prop := Claim7.holds Tryd.pinned (.plain (OpenSpec.ofChange zsetOwnSpec)) zsetOwnCard

/-- THE SECOND FORM's CARD OF 'belvederelaw3.ZsetSays'. -/
def zsetSaysUptoCard : Claim7 := { stood := { row := zsetSaysUptoRow, standIns := [], harness := (true, "6e03ce042920229f2944d04ad05717840f21d1f0b5c7c5247e0abed19736fdef"), looks := true }, kinds := [], alts := [], laidByText := true, laidKinds := [.sentinel, .sentinel, .sentinel, .sentinel, .sentinel, .sentinel, .sentinel, .sentinel, .sentinel, .sentinel, .sentinel], laidTests := true, laidLooks := .later }
def ZsetSaysUptoCardSaid : Prop := Claim7.holds Tryd.pinned (.plain (OpenSpec.upto zsetSaysSpec)) zsetSaysUptoCard

/-- THE SECOND FORM's CARD OF 'belvederelaw3.ZsetLaws'. -/
def zsetLawsUptoCard : Claim7 := { stood := { row := zsetLawsUptoRow, standIns := [], harness := (true, "6e03ce042920229f2944d04ad05717840f21d1f0b5c7c5247e0abed19736fdef"), looks := true }, kinds := [], alts := [], laidByText := true, laidKinds := [.sentinel], laidTests := true, laidLooks := .later }
def ZsetLawsUptoCardSaid : Prop := Claim7.holds Tryd.pinned (.plain (OpenSpec.upto zsetLawsSpec)) zsetLawsUptoCard

/-- THE SECOND FORM's CARD OF 'belvederelaw3.ZsetSums'. -/
def zsetSumsUptoCard : Claim7 := { stood := { row := zsetSumsUptoRow, standIns := [], harness := (true, "6e03ce042920229f2944d04ad05717840f21d1f0b5c7c5247e0abed19736fdef"), looks := true }, kinds := [], alts := [], laidByText := true, laidKinds := [.sentinel, .sentinel, .sentinel, .sentinel, .sentinel, .sentinel, .sentinel, .sentinel, .sentinel, .sentinel, .sentinel], laidTests := true, laidLooks := .later }
def ZsetSumsUptoCardSaid : Prop := Claim7.holds Tryd.pinned (.plain (OpenSpec.upto zsetSumsSpec)) zsetSumsUptoCard

/-- THE SECOND FORM's CARD OF 'belvederelaw3.ZsetBounds'. -/
def zsetBoundsUptoCard : Claim7 := { stood := { row := zsetBoundsUptoRow, standIns := [], harness := (true, "6e03ce042920229f2944d04ad05717840f21d1f0b5c7c5247e0abed19736fdef"), looks := true }, kinds := [], alts := [], laidByText := true, laidKinds := [.sentinel, .sentinel, .sentinel, .sentinel, .sentinel, .sentinel, .sentinel, .sentinel, .sentinel, .sentinel, .sentinel], laidTests := true, laidLooks := .later }
def ZsetBoundsUptoCardSaid : Prop := Claim7.holds Tryd.pinned (.plain (OpenSpec.upto zsetBoundsSpec)) zsetBoundsUptoCard

/-- THE SECOND FORM's CARD OF 'belvederelaw3.ZsetOwn'. -/
def zsetOwnUptoCard : Claim7 := { stood := { row := zsetOwnUptoRow, standIns := [], harness := (true, "6e03ce042920229f2944d04ad05717840f21d1f0b5c7c5247e0abed19736fdef"), looks := true }, kinds := [], alts := [], laidByText := true, laidKinds := [.sentinel], laidTests := true, laidLooks := .later }
def ZsetOwnUptoCardSaid : Prop := Claim7.holds Tryd.pinned (.plain (OpenSpec.upto zsetOwnSpec)) zsetOwnUptoCard
end Rows
end Go.Proofs.YtkamnepbgbficaaDoor
