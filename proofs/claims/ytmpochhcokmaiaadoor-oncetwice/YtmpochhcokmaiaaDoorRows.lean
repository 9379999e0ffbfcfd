/-
  NARROWER THAN 'FOR EVERY INPUT', by the rows' own cells (each row's printed sentence says how): OnceSays: laid · OnceTwice: laid · OnceLittle: laid.
  DERIVED. THE GIVEN ROWS OF THIS SEAT. 3 by the template 'for every input the law returns true; each argument reads behind the call as it read before'; 0 by the template 'total and deterministic' (their statements: YtmpochhcokmaiaaDoorTotals.lean).
  GIVEN WITH THE SEED: the statements are not yours to turn. If you find one false, say at which input.
  Laid BY PROGRAM, IN A SANDBOX (cutbox-rows.mjs): the forced cells as the released guide's own fill.sh prints them over the translation 85e135e38e9fe6f0… (all of the seat's roots in one cut). By AI agents, Wed Nov 11 2026. No macro, syntax, notation, axiom, sorry.
-/
import Derived.Test.YtmpochhcokmaiaaDoorChecked
import GoSem.Claim
import GoSem.ClaimJoined
import GoSem.ClaimMapViews
import Derived.JoinedTies
import Derived.KernelRfl
namespace Go.Proofs.YtmpochhcokmaiaaDoor
/- THE CELL 'sum', in the pinned program and in every row, IS THE sha256 OF THE DUMP (.gsa) THAT YtmpochhcokmaiaaDoorProg.lean LOADS. Nothing in Lean hashes anything: it is a label: what it is worth is what the hold of that sum in a sandbox is worth. -/
noncomputable def Tryd.pinned : Pinned := { name := "ytmpochhcokmaiaadoor", sum := "85e135e38e9fe6f065e7e17ffc0fb9c0cf9a4a20df77d8d8bbc06ccf57574618", checked := Tryd.checked }
namespace Rows
def none {H : Type} : Left H := { results := [], args := [] }

/- WHAT THE LISTED PACKAGE-LEVEL VARIABLES READ AS WHEN THE CALL BEGINS. Each datum BY PROGRAM (the guide's laid-datum.mjs) off the statement by which the dump's own 'gosem.cut.vars' lays the variable. In a bare row this is a premise. The card (YtmpochhcokmaiaaDoorCards.lean) ties it to the program's text. -/
def laid_belvedere_api_ErrText {H : Type} : DataW H := .iface "*errors.errorString" (.ptr (.agg [.lit (.string [110, 111, 116, 32, 97, 115, 32, 105, 116, 32, 105, 115, 32, 119, 114, 105, 116, 116, 101, 110])]))
def laid_belvedere_api_ErrType {H : Type} : DataW H := .iface "*errors.errorString" (.ptr (.agg [.lit (.string [116, 121, 112, 101, 115, 32, 116, 104, 97, 116, 32, 100, 111, 32, 110, 111, 116, 32, 102, 105, 116])]))
def laid_belvedere_api_ErrName {H : Type} : DataW H := .iface "*errors.errorString" (.ptr (.agg [.lit (.string [97, 32, 110, 97, 109, 101, 32, 116, 104, 97, 116, 32, 105, 115, 32, 110, 111, 98, 111, 100, 121, 39, 115])]))
def laid_belvedere_api_ErrTwice {H : Type} : DataW H := .iface "*errors.errorString" (.ptr (.agg [.lit (.string [97, 32, 110, 97, 109, 101, 32, 116, 119, 105, 99, 101])]))
def laid_belvedere_api_ErrUse {H : Type} : DataW H := .iface "*errors.errorString" (.ptr (.agg [.lit (.string [97, 32, 116, 97, 98, 108, 101, 32, 116, 104, 97, 116, 32, 105, 115, 32, 117, 115, 101, 100])]))
def laid_belvedere_api_ErrArity {H : Type} : DataW H := .iface "*errors.errorString" (.ptr (.agg [.lit (.string [99, 111, 108, 117, 109, 110, 115, 32, 116, 104, 97, 116, 32, 97, 114, 101, 32, 116, 111, 111, 32, 109, 97, 110, 121, 44, 32, 111, 114, 32, 116, 111, 111, 32, 102, 101, 119])]))
def laid_belvedere_api_ErrOver {H : Type} : DataW H := .iface "*errors.errorString" (.ptr (.agg [.lit (.string [97, 32, 110, 117, 109, 98, 101, 114, 32, 98, 101, 121, 111, 110, 100, 32, 105, 116, 115, 32, 98, 111, 117, 110, 100, 115])]))
def laid_belvedere_api_ErrFull {H : Type} : DataW H := .iface "*errors.errorString" (.ptr (.agg [.lit (.string [109, 111, 114, 101, 32, 114, 111, 119, 115, 32, 116, 104, 97, 110, 32, 109, 97, 121, 32, 98, 101])]))
def laid_belvedere_api_ErrPending {H : Type} : DataW H := .iface "*errors.errorString" (.ptr (.agg [.lit (.string [97, 32, 109, 105, 103, 114, 97, 116, 105, 111, 110, 32, 105, 115, 32, 117, 110, 100, 101, 114, 32, 119, 97, 121])]))
def laid_belvedere_api_ErrNone {H : Type} : DataW H := .iface "*errors.errorString" (.ptr (.agg [.lit (.string [110, 111, 32, 109, 105, 103, 114, 97, 116, 105, 111, 110, 32, 105, 115, 32, 117, 110, 100, 101, 114, 32, 119, 97, 121])]))
def laid_belvedere_api_ErrLimit {H : Type} : DataW H := .iface "*errors.errorString" (.ptr (.agg [.lit (.string [109, 111, 114, 101, 32, 116, 104, 97, 110, 32, 109, 97, 121, 32, 98, 101])]))

/-- 'belvederelaw13.OnceSays': WHATEVER THE INPUT: true; the input reads as it did. -/
def onceSaysSpec : ChangeSpec := { name := "onceSays", fn := fun _ => fun
  | [d] => { results := [.lit (.bool true)], args := [d] }
  | _ => none }
def onceSaysRow : OpenClaim := { program := "ytmpochhcokmaiaadoor", sum := "85e135e38e9fe6f065e7e17ffc0fb9c0cf9a4a20df77d8d8bbc06ccf57574618", func := "belvedere/belvederelaw13.OnceSays", spec := "onceSays", inPlace := ["math/bits.Add64", "math/bits.Sub64"], unfollowed := true, recurses := true, named := ["belvedere/api.ErrOver", "belvedere/api.ErrText", "belvedere/api.ErrType", "belvedere/api.ErrName", "belvedere/api.ErrTwice", "belvedere/api.ErrUse", "belvedere/api.ErrArity", "belvedere/api.ErrFull", "belvedere/api.ErrPending", "belvedere/api.ErrNone", "belvedere/api.ErrLimit"], apart := false, laid := [("belvedere/api.ErrText", laid_belvedere_api_ErrText), ("belvedere/api.ErrType", laid_belvedere_api_ErrType), ("belvedere/api.ErrName", laid_belvedere_api_ErrName), ("belvedere/api.ErrTwice", laid_belvedere_api_ErrTwice), ("belvedere/api.ErrUse", laid_belvedere_api_ErrUse), ("belvedere/api.ErrArity", laid_belvedere_api_ErrArity), ("belvedere/api.ErrOver", laid_belvedere_api_ErrOver), ("belvedere/api.ErrFull", laid_belvedere_api_ErrFull), ("belvedere/api.ErrPending", laid_belvedere_api_ErrPending), ("belvedere/api.ErrNone", laid_belvedere_api_ErrNone), ("belvedere/api.ErrLimit", laid_belvedere_api_ErrLimit)] }
def OnceSaysSaid : Prop := onceSaysRow.holds Tryd.pinned (OpenSpec.ofChange onceSaysSpec)

/-- ITS FALSE NEIGHBOUR: 'it returns false'. Refute it at one input. -/
def onceSaysWrong : ChangeSpec := { name := "onceSays", fn := fun _ => fun
  | [d] => { results := [.lit (.bool false)], args := [d] }
  | _ => none }
def OnceSaysWrongFalsely : Prop := onceSaysRow.holds Tryd.pinned (OpenSpec.ofChange onceSaysWrong)

/-- 'belvederelaw13.OnceTwice': WHATEVER THE INPUT: true; the input reads as it did. -/
def onceTwiceSpec : ChangeSpec := { name := "onceTwice", fn := fun _ => fun
  | [d] => { results := [.lit (.bool true)], args := [d] }
  | _ => none }
def onceTwiceRow : OpenClaim := { program := "ytmpochhcokmaiaadoor", sum := "85e135e38e9fe6f065e7e17ffc0fb9c0cf9a4a20df77d8d8bbc06ccf57574618", func := "belvedere/belvederelaw13.OnceTwice", spec := "onceTwice", inPlace := ["math/bits.Add64", "math/bits.Sub64"], unfollowed := true, recurses := true, named := ["belvedere/api.ErrOver"], apart := false, laid := [("belvedere/api.ErrOver", laid_belvedere_api_ErrOver)] }
def OnceTwiceSaid : Prop := onceTwiceRow.holds Tryd.pinned (OpenSpec.ofChange onceTwiceSpec)

/-- ITS FALSE NEIGHBOUR: 'it returns false'. Refute it at one input. -/
def onceTwiceWrong : ChangeSpec := { name := "onceTwice", fn := fun _ => fun
  | [d] => { results := [.lit (.bool false)], args := [d] }
  | _ => none }
def OnceTwiceWrongFalsely : Prop := onceTwiceRow.holds Tryd.pinned (OpenSpec.ofChange onceTwiceWrong)

/-- 'belvederelaw13.OnceLittle': WHATEVER THE INPUT: true; the input reads as it did. -/
def onceLittleSpec : ChangeSpec := { name := "onceLittle", fn := fun _ => fun
  | [d1, d2, d3] => { results := [.lit (.bool true)], args := [d1, d2, d3] }
  | _ => none }
def onceLittleRow : OpenClaim := { program := "ytmpochhcokmaiaadoor", sum := "85e135e38e9fe6f065e7e17ffc0fb9c0cf9a4a20df77d8d8bbc06ccf57574618", func := "belvedere/belvederelaw13.OnceLittle", spec := "onceLittle", inPlace := ["math/bits.Add64", "math/bits.Sub64"], unfollowed := true, recurses := true, named := ["belvedere/api.ErrOver"], apart := false, laid := [("belvedere/api.ErrOver", laid_belvedere_api_ErrOver)] }
def OnceLittleSaid : Prop := onceLittleRow.holds Tryd.pinned (OpenSpec.ofChange onceLittleSpec)

/-- ITS FALSE NEIGHBOUR: 'it returns false'. Refute it at one input. -/
def onceLittleWrong : ChangeSpec := { name := "onceLittle", fn := fun _ => fun
  | [d1, d2, d3] => { results := [.lit (.bool false)], args := [d1, d2, d3] }
  | _ => none }
def OnceLittleWrongFalsely : Prop := onceLittleRow.holds Tryd.pinned (OpenSpec.ofChange onceLittleWrong)

/- THE SECOND FORM. 'bulk': how many values and letters a reading holds, each counted each time it is reached (what is shared counts as often as it is met; a slice's spare places count too). A statement '..UptoSaid' is the law's where the arguments, and the package variables that the reading takes, are together of bulk at most 1048576: NARROWER than '..Said'. Prove '..Said' where nothing that the law and all that it calls make is longer than what came in: it says more and counts as full. Else prove '..UptoSaid'. A law counts once. -/
mutual
def uptoBulk {H : Type} : DataW H → Nat
  | .lit (.string bytes) => bytes.length + 1
  | .lit _ => 1
  | .nil => 1
  | .ptr d => uptoBulk d + 1
  | .slice elems spare => uptoBulkAll elems + uptoBulkAll spare + 1
  | .agg parts => uptoBulkAll parts + 1
  | .iface _ d => uptoBulk d + 1
  | .map entries => uptoBulkEntries entries + 1
  | .held _ => 1
def uptoBulkAll {H : Type} : List (DataW H) → Nat
  | [] => 0
  | d :: r => uptoBulk d + uptoBulkAll r
def uptoBulkEntries {H : Type} : List (Lit × DataW H) → Nat
  | [] => 0
  | x :: r => uptoBulkEntry x + uptoBulkEntries r
def uptoBulkEntry {H : Type} : Lit × DataW H → Nat
  | (.string bytes, d) => bytes.length + uptoBulk d + 1
  | (_, d) => uptoBulk d + 1
 end
def uptoSmall : (H : Type) → List (DataW H) → Bool := fun _ ds => decide (uptoBulkAll ds ≤ 1048576)
def OpenSpec.upto (s : _root_.Go.ChangeSpec) : _root_.Go.OpenSpec := { _root_.Go.OpenSpec.ofChange s with cond := some uptoSmall }

/-- 'belvederelaw13.OnceSays', WHERE WHAT IT READS IS OF BULK AT MOST 1048576: true; the input reads as it did. -/
def onceSaysUptoRow : OpenClaim := { program := "ytmpochhcokmaiaadoor", sum := "85e135e38e9fe6f065e7e17ffc0fb9c0cf9a4a20df77d8d8bbc06ccf57574618", func := "belvedere/belvederelaw13.OnceSays", spec := "onceSays", inPlace := ["math/bits.Add64", "math/bits.Sub64"], unfollowed := true, recurses := true, named := ["belvedere/api.ErrOver", "belvedere/api.ErrText", "belvedere/api.ErrType", "belvedere/api.ErrName", "belvedere/api.ErrTwice", "belvedere/api.ErrUse", "belvedere/api.ErrArity", "belvedere/api.ErrFull", "belvedere/api.ErrPending", "belvedere/api.ErrNone", "belvedere/api.ErrLimit"], apart := false, laid := [("belvedere/api.ErrText", laid_belvedere_api_ErrText), ("belvedere/api.ErrType", laid_belvedere_api_ErrType), ("belvedere/api.ErrName", laid_belvedere_api_ErrName), ("belvedere/api.ErrTwice", laid_belvedere_api_ErrTwice), ("belvedere/api.ErrUse", laid_belvedere_api_ErrUse), ("belvedere/api.ErrArity", laid_belvedere_api_ErrArity), ("belvedere/api.ErrOver", laid_belvedere_api_ErrOver), ("belvedere/api.ErrFull", laid_belvedere_api_ErrFull), ("belvedere/api.ErrPending", laid_belvedere_api_ErrPending), ("belvedere/api.ErrNone", laid_belvedere_api_ErrNone), ("belvedere/api.ErrLimit", laid_belvedere_api_ErrLimit)], narrowed := true }
def OnceSaysUptoSaid : Prop := onceSaysUptoRow.holds Tryd.pinned (OpenSpec.upto onceSaysSpec)

/-- 'belvederelaw13.OnceTwice', WHERE WHAT IT READS IS OF BULK AT MOST 1048576: true; the input reads as it did. -/
def onceTwiceUptoRow : OpenClaim := { program := "ytmpochhcokmaiaadoor", sum := "85e135e38e9fe6f065e7e17ffc0fb9c0cf9a4a20df77d8d8bbc06ccf57574618", func := "belvedere/belvederelaw13.OnceTwice", spec := "onceTwice", inPlace := ["math/bits.Add64", "math/bits.Sub64"], unfollowed := true, recurses := true, named := ["belvedere/api.ErrOver"], apart := false, laid := [("belvedere/api.ErrOver", laid_belvedere_api_ErrOver)], narrowed := true }
def OnceTwiceUptoSaid : Prop := onceTwiceUptoRow.holds Tryd.pinned (OpenSpec.upto onceTwiceSpec)

/-- 'belvederelaw13.OnceLittle', WHERE WHAT IT READS IS OF BULK AT MOST 1048576: true; the input reads as it did. -/
def onceLittleUptoRow : OpenClaim := { program := "ytmpochhcokmaiaadoor", sum := "85e135e38e9fe6f065e7e17ffc0fb9c0cf9a4a20df77d8d8bbc06ccf57574618", func := "belvedere/belvederelaw13.OnceLittle", spec := "onceLittle", inPlace := ["math/bits.Add64", "math/bits.Sub64"], unfollowed := true, recurses := true, named := ["belvedere/api.ErrOver"], apart := false, laid := [("belvedere/api.ErrOver", laid_belvedere_api_ErrOver)], narrowed := true }
def OnceLittleUptoSaid : Prop := onceLittleUptoRow.holds Tryd.pinned (OpenSpec.upto onceLittleSpec)

end Rows
end Go.Proofs.YtmpochhcokmaiaaDoor
