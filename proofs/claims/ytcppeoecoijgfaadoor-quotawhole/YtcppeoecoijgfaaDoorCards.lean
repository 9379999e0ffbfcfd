/-
  DERIVED. GIVEN WITH THE SEED: THE CARDS: each row of YtcppeoecoijgfaaDoorRows.lean that lists a variable, with what it lists TIED to the program's text (the seventh form; the later family's looks); each row that meets fmt, with fmt's text TOLD by the authors' own Lean function (tested against real Go, not proved from fmt's source: count such statements apart). THE CARD IS WHAT COUNTS. Prove the row's statement (the work); the ties are given (YtcppeoecoijgfaaDoorTie.lean); close each card by the builder's one call (the guide's Derived/Test/ToyasCard.lean, 'card_holds'). Laid BY PROGRAM, IN A SANDBOX (cutbox-door.mjs). By AI agents, Wed Nov 11 2026. No macro, syntax, notation, axiom, sorry.
-/
import Derived.Test.YtcppeoecoijgfaaDoorRows
import GoSem.ClaimSeven
namespace Go.Proofs.YtcppeoecoijgfaaDoor
namespace Rows

/-- THE TIED CARD OF 'belvederelaw8.QuotaSteps'. -/
def quotaStepsCard : Claim7 := { stood := { row := quotaStepsRow, standIns := [], harness := (true, "e386d26538b6639c3296aa2f898fed79f726e316c9d27aaa2686a0458c333788"), looks := true }, kinds := [], alts := [], laidByText := true, laidKinds := [.sentinel], laidTests := true, laidLooks := .later }
def QuotaStepsCardSaid : Prop := Claim7.holds Tryd.pinned (.plain (OpenSpec.ofChange quotaStepsSpec)) quotaStepsCard

/-- THE TIED CARD OF 'belvederelaw8.QuotaPlays'. -/
def quotaPlaysCard : Claim7 := { stood := { row := quotaPlaysRow, standIns := [], harness := (true, "e386d26538b6639c3296aa2f898fed79f726e316c9d27aaa2686a0458c333788"), looks := true }, kinds := [], alts := [], laidByText := true, laidKinds := [.sentinel, .sentinel, .sentinel, .sentinel, .sentinel, .sentinel, .sentinel, .sentinel, .sentinel, .sentinel, .sentinel], laidTests := true, laidLooks := .later }
def QuotaPlaysCardSaid : Prop := Claim7.holds Tryd.pinned (.plain (OpenSpec.ofChange quotaPlaysSpec)) quotaPlaysCard

/-- THE TIED CARD OF 'belvederelaw8.QuotaWhole'. -/
def quotaWholeCard : Claim7 := { stood := { row := quotaWholeRow, standIns := [], harness := (true, "e386d26538b6639c3296aa2f898fed79f726e316c9d27aaa2686a0458c333788"), looks := true }, kinds := [], alts := [], laidByText := true, laidKinds := [.sentinel, .sentinel, .sentinel, .sentinel, .sentinel, .sentinel, .sentinel, .sentinel, .sentinel, .sentinel, .sentinel], laidTests := true, laidLooks := .later }
def QuotaWholeCardSaid : Prop := Claim7.holds Tryd.pinned (.plain (OpenSpec.ofChange quotaWholeSpec)) quotaWholeCard

/-- THE SECOND FORM's CARD OF 'belvederelaw8.QuotaSteps'. -/
def quotaStepsUptoCard : Claim7 := { stood := { row := quotaStepsUptoRow, standIns := [], harness := (true, "e386d26538b6639c3296aa2f898fed79f726e316c9d27aaa2686a0458c333788"), looks := true }, kinds := [], alts := [], laidByText := true, laidKinds := [.sentinel], laidTests := true, laidLooks := .later }
def QuotaStepsUptoCardSaid : Prop := Claim7.holds Tryd.pinned (.plain (OpenSpec.upto quotaStepsSpec)) quotaStepsUptoCard

/-- THE SECOND FORM's CARD OF 'belvederelaw8.QuotaPlays'. -/
def quotaPlaysUptoCard : Claim7 := { stood := { row := quotaPlaysUptoRow, standIns := [], harness := (true, "e386d26538b6639c3296aa2f898fed79f726e316c9d27aaa2686a0458c333788"), looks := true }, kinds := [], alts := [], laidByText := true, laidKinds := [.sentinel, .sentinel, .sentinel, .sentinel, .sentinel, .sentinel, .sentinel, .sentinel, .sentinel, .sentinel, .sentinel], laidTests := true, laidLooks := .later }
def QuotaPlaysUptoCardSaid : Prop := Claim7.holds Tryd.pinned (.plain (OpenSpec.upto quotaPlaysSpec)) quotaPlaysUptoCard

/-- THE SECOND FORM's CARD OF 'belvederelaw8.QuotaWhole'. -/
def quotaWholeUptoCard : Claim7 := { stood := { row := quotaWholeUptoRow, standIns := [], harness := (true, "e386d26538b6639c3296aa2f898fed79f726e316c9d27aaa2686a0458c333788"), looks := true }, kinds := [], alts := [], laidByText := true, laidKinds := [.sentinel, .sentinel, .sentinel, .sentinel, .sentinel, .sentinel, .sentinel, .sentinel, .sentinel, .sentinel, .sentinel], laidTests := true, laidLooks := .later }
def QuotaWholeUptoCardSaid : Prop := Claim7.holds Tryd.pinned (.plain (OpenSpec.upto quotaWholeSpec)) quotaWholeUptoCard
end Rows
end Go.Proofs.YtcppeoecoijgfaaDoor
