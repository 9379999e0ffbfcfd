/-
  NARROWER THAN 'FOR EVERY INPUT', by the rows' own cells (each row's printed sentence says how): JoinSays: laid.
  DERIVED. THE GIVEN ROWS OF THIS SEAT. 1 by the template 'for every input the law returns true; each argument reads behind the call as it read before'; 0 by the template 'total and deterministic' (their statements: YtlafokjkpbhckaaGreatDoorTotals.lean).
  GIVEN WITH THE SEED: the statements are not yours to turn. If you find one false, say at which input.
  Laid BY PROGRAM, IN A SANDBOX (cutbox-rows.mjs): the forced cells as the released guide's own fill.sh prints them over the translation 7c91e1e3529dabdf… (all of the seat's roots in one cut). By AI agents, Wed Nov 11 2026. No macro, syntax, notation, axiom, sorry.
-/
import Derived.Test.YtlafokjkpbhckaaGreatDoorChecked
import GoSem.Claim
import GoSem.ClaimJoined
import GoSem.ClaimMapViews
import Derived.JoinedTies
import Derived.KernelRfl
namespace Go.Proofs.YtlafokjkpbhckaaGreatDoor
/- THE CELL 'sum', in the pinned program and in every row, IS THE sha256 OF THE DUMP (.gsa) THAT YtlafokjkpbhckaaGreatDoorProg.lean LOADS. Nothing in Lean hashes anything: it is a label: what it is worth is what the hold of that sum in a sandbox is worth. -/
noncomputable def Tryz.pinned : Pinned := { name := "ytlafokjkpbhckaagreatdoor", sum := "7c91e1e3529dabdf651e4ab4cec23055391629544fadb720575f6b55e06fdb04", checked := Tryz.checked }
namespace Rows
def none {H : Type} : Left H := { results := [], args := [] }

/- WHAT THE LISTED PACKAGE-LEVEL VARIABLES READ AS WHEN THE CALL BEGINS. Each datum BY PROGRAM (the guide's laid-datum.mjs) off the statement by which the dump's own 'gosem.cut.vars' lays the variable. In a bare row this is a premise. The card (YtlafokjkpbhckaaGreatDoorCards.lean) ties it to the program's text. -/
def laid_belvedere_api_ErrText {H : Type} : DataW H := .iface "*errors.errorString" (.ptr (.agg [.lit (.string [110, 111, 116, 32, 97, 115, 32, 105, 116, 32, 105, 115, 32, 119, 114, 105, 116, 116, 101, 110])]))
def laid_belvedere_api_ErrType {H : Type} : DataW H := .iface "*errors.errorString" (.ptr (.agg [.lit (.string [116, 121, 112, 101, 115, 32, 116, 104, 97, 116, 32, 100, 111, 32, 110, 111, 116, 32, 102, 105, 116])]))
def laid_belvedere_api_ErrName {H : Type} : DataW H := .iface "*errors.errorString" (.ptr (.agg [.lit (.string [97, 32, 110, 97, 109, 101, 32, 116, 104, 97, 116, 32, 105, 115, 32, 110, 111, 98, 111, 100, 121, 39, 115])]))
def laid_belvedere_api_ErrTwice {H : Type} : DataW H := .iface "*errors.errorString" (.ptr (.agg [.lit (.string [97, 32, 110, 97, 109, 101, 32, 116, 119, 105, 99, 101])]))
def laid_belvedere_api_ErrUse {H : Type} : DataW H := .iface "*errors.errorString" (.ptr (.agg [.lit (.string [97, 32, 116, 97, 98, 108, 101, 32, 116, 104, 97, 116, 32, 105, 115, 32, 117, 115, 101, 100])]))
def laid_belvedere_api_ErrArity {H : Type} : DataW H := .iface "*errors.errorString" (.ptr (.agg [.lit (.string [99, 111, 108, 117, 109, 110, 115, 32, 116, 104, 97, 116, 32, 97, 114, 101, 32, 116, 111, 111, 32, 109, 97, 110, 121, 44, 32, 111, 114, 32, 116, 111, 111, 32, 102, 101, 119])]))
def laid_belvedere_api_ErrOver {H : Type} : DataW H := .iface "*errors.errorString" (.ptr (.agg [.lit (.string [97, 32, 110, 117, 109, 98, 101, 114, 32, 98, 101, 121, 111, 110, 100, 32, 105, 116, 115, 32, 98, 111, 117, 110, 100, 115])]))
def laid_belvedere_api_ErrFull {H : Type} : DataW H := .iface "*errors.errorString" (.ptr (.agg [.lit (.string [109, 111, 114, 101, 32, 114, 111, 119, 115, 32, 116, 104, 97, 110, 32, 109, 97, 121, 32, 98, 101])]))
def laid_belvedere_api_ErrPending {H : Type} : DataW H := .iface "*errors.errorString" (.ptr (.agg [.lit (.string [97, 32, 109, 105, 103, 114, 97, 116, 105, 111, 110, 32, 105, 115, 32, 117, 110, 100, 101, 114, 32, 119, 97, 121])]))
def laid_belvedere_api_ErrNone {H : Type} : DataW H := .iface "*errors.errorString" (.ptr (.agg [.lit (.string [110, 111, 32, 109, 105, 103, 114, 97, 116, 105, 111, 110, 32, 105, 115, 32, 117, 110, 100, 101, 114, 32, 119, 97, 121])]))
def laid_belvedere_api_ErrLimit {H : Type} : DataW H := .iface "*errors.errorString" (.ptr (.agg [.lit (.string [109, 111, 114, 101, 32, 116, 104, 97, 110, 32, 109, 97, 121, 32, 98, 101])]))

/-- 'belvederelaw12.JoinSays': WHATEVER THE INPUT: true; the input reads as it did. -/
def joinSaysSpec : ChangeSpec := { name := "joinSays", fn := fun _ => fun
  | [d] => { results := [.lit (.bool true)], args := [d] }
  | _ => none }
def joinSaysRow : OpenClaim := { program := "ytlafokjkpbhckaagreatdoor", sum := "7c91e1e3529dabdf651e4ab4cec23055391629544fadb720575f6b55e06fdb04", func := "belvedere/belvederelaw12.JoinSays", spec := "joinSays", inPlace := ["math/bits.Add64"], unfollowed := true, recurses := true, named := ["belvedere/api.ErrOver", "belvedere/api.ErrText", "belvedere/api.ErrType", "belvedere/api.ErrName", "belvedere/api.ErrTwice", "belvedere/api.ErrUse", "belvedere/api.ErrArity", "belvedere/api.ErrFull", "belvedere/api.ErrPending", "belvedere/api.ErrNone", "belvedere/api.ErrLimit"], apart := false, laid := [("belvedere/api.ErrText", laid_belvedere_api_ErrText), ("belvedere/api.ErrType", laid_belvedere_api_ErrType), ("belvedere/api.ErrName", laid_belvedere_api_ErrName), ("belvedere/api.ErrTwice", laid_belvedere_api_ErrTwice), ("belvedere/api.ErrUse", laid_belvedere_api_ErrUse), ("belvedere/api.ErrArity", laid_belvedere_api_ErrArity), ("belvedere/api.ErrOver", laid_belvedere_api_ErrOver), ("belvedere/api.ErrFull", laid_belvedere_api_ErrFull), ("belvedere/api.ErrPending", laid_belvedere_api_ErrPending), ("belvedere/api.ErrNone", laid_belvedere_api_ErrNone), ("belvedere/api.ErrLimit", laid_belvedere_api_ErrLimit)] }
def JoinSaysSaid : Prop := joinSaysRow.holds Tryz.pinned (OpenSpec.ofChange joinSaysSpec)

/-- ITS FALSE NEIGHBOUR: 'it returns false'. Refute it at one input. -/
def joinSaysWrong : ChangeSpec := { name := "joinSays", fn := fun _ => fun
  | [d] => { results := [.lit (.bool false)], args := [d] }
  | _ => none }
def JoinSaysWrongFalsely : Prop := joinSaysRow.holds Tryz.pinned (OpenSpec.ofChange joinSaysWrong)

/- THE SECOND FORM. 'bulk': how many values and letters a reading holds, each counted each time it is reached (what is shared counts as often as it is met; a slice's spare places count too). A statement '..UptoSaid' is the law's where the arguments, and the package variables that the reading takes, are together of bulk at most 1048576: NARROWER than '..Said'. Prove '..Said' where nothing that the law and all that it calls make is longer than what came in: it says more and counts as full. Else prove '..UptoSaid'. A law counts once. -/
mutual
def uptoBulk {H : Type} : DataW H → Nat
  | .lit (.string bytes) => bytes.length + 1
  | .lit _ => 1
  | .nil => 1
  | .ptr d => uptoBulk d + 1
  | .slice elems spare => uptoBulkAll elems + uptoBulkAll spare + 1
  | .agg parts => uptoBulkAll parts + 1
  | .iface _ d => uptoBulk d + 1
  | .map entries => uptoBulkEntries entries + 1
  | .held _ => 1
def uptoBulkAll {H : Type} : List (DataW H) → Nat
  | [] => 0
  | d :: r => uptoBulk d + uptoBulkAll r
def uptoBulkEntries {H : Type} : List (Lit × DataW H) → Nat
  | [] => 0
  | x :: r => uptoBulkEntry x + uptoBulkEntries r
def uptoBulkEntry {H : Type} : Lit × DataW H → Nat
  | (.string bytes, d) => bytes.length + uptoBulk d + 1
  | (_, d) => uptoBulk d + 1
 end
def uptoSmall : (H : Type) → List (DataW H) → Bool := fun _ ds => decide (uptoBulkAll ds ≤ 1048576)
def OpenSpec.upto (s : _root_.Go.ChangeSpec) : _root_.Go.OpenSpec := { _root_.Go.OpenSpec.ofChange s with cond := some uptoSmall }

/-- 'belvederelaw12.JoinSays', WHERE WHAT IT READS IS OF BULK AT MOST 1048576: true; the input reads as it did. -/
def joinSaysUptoRow : OpenClaim := { program := "ytlafokjkpbhckaagreatdoor", sum := "7c91e1e3529dabdf651e4ab4cec23055391629544fadb720575f6b55e06fdb04", func := "belvedere/belvederelaw12.JoinSays", spec := "joinSays", inPlace := ["math/bits.Add64"], unfollowed := true, recurses := true, named := ["belvedere/api.ErrOver", "belvedere/api.ErrText", "belvedere/api.ErrType", "belvedere/api.ErrName", "belvedere/api.ErrTwice", "belvedere/api.ErrUse", "belvedere/api.ErrArity", "belvedere/api.ErrFull", "belvedere/api.ErrPending", "belvedere/api.ErrNone", "belvedere/api.ErrLimit"], apart := false, laid := [("belvedere/api.ErrText", laid_belvedere_api_ErrText), ("belvedere/api.ErrType", laid_belvedere_api_ErrType), ("belvedere/api.ErrName", laid_belvedere_api_ErrName), ("belvedere/api.ErrTwice", laid_belvedere_api_ErrTwice), ("belvedere/api.ErrUse", laid_belvedere_api_ErrUse), ("belvedere/api.ErrArity", laid_belvedere_api_ErrArity), ("belvedere/api.ErrOver", laid_belvedere_api_ErrOver), ("belvedere/api.ErrFull", laid_belvedere_api_ErrFull), ("belvedere/api.ErrPending", laid_belvedere_api_ErrPending), ("belvedere/api.ErrNone", laid_belvedere_api_ErrNone), ("belvedere/api.ErrLimit", laid_belvedere_api_ErrLimit)], narrowed := true }
def JoinSaysUptoSaid : Prop := joinSaysUptoRow.holds Tryz.pinned (OpenSpec.upto joinSaysSpec)

end Rows
end Go.Proofs.YtlafokjkpbhckaaGreatDoor
