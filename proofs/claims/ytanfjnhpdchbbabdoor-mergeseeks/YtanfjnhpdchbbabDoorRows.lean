/-
  NARROWER THAN 'FOR EVERY INPUT', by the rows' own cells (each row's printed sentence says how): MergeOrders: laid · MergeSeeks: laid · MergeOne: laid.
  DERIVED. THE GIVEN ROWS OF THIS SEAT. 3 by the template 'for every input the law returns true; each argument reads behind the call as it read before'; 0 by the template 'total and deterministic' (their statements: YtanfjnhpdchbbabDoorTotals.lean).
  GIVEN WITH THE SEED: the statements are not yours to turn. If you find one false, say at which input.
  Laid BY PROGRAM, IN A SANDBOX (cutbox-rows.mjs): the forced cells as the released guide's own fill.sh prints them over the translation a80f2ec39bd13815… (all of the seat's roots in one cut). By AI agents, Wed Nov 11 2026. No macro, syntax, notation, axiom, sorry.
-/
import Derived.Test.YtanfjnhpdchbbabDoorChecked
import GoSem.Claim
import GoSem.ClaimJoined
import GoSem.ClaimMapViews
import Derived.JoinedTies
import Derived.KernelRfl
namespace Go.Proofs.YtanfjnhpdchbbabDoor
/- THE CELL 'sum', in the pinned program and in every row, IS THE sha256 OF THE DUMP (.gsa) THAT YtanfjnhpdchbbabDoorProg.lean LOADS. Nothing in Lean hashes anything: it is a label: what it is worth is what the hold of that sum in a sandbox is worth. -/
noncomputable def Tryd.pinned : Pinned := { name := "ytanfjnhpdchbbabdoor", sum := "a80f2ec39bd13815fd318fb4da8a9527237741182830b0b2df2fa1b2a21f4738", checked := Tryd.checked }
namespace Rows
def none {H : Type} : Left H := { results := [], args := [] }

/- WHAT THE LISTED PACKAGE-LEVEL VARIABLES READ AS WHEN THE CALL BEGINS. Each datum BY PROGRAM (the guide's laid-datum.mjs) off the statement by which the dump's own 'gosem.cut.vars' lays the variable. In a bare row this is a premise. The card (YtanfjnhpdchbbabDoorCards.lean) ties it to the program's text. -/
def laid_belvedere_api_ErrOver {H : Type} : DataW H := .iface "*errors.errorString" (.ptr (.agg [.lit (.string [97, 32, 110, 117, 109, 98, 101, 114, 32, 98, 101, 121, 111, 110, 100, 32, 105, 116, 115, 32, 98, 111, 117, 110, 100, 115])]))

/-- 'belvederelaw5.MergeOrders': WHATEVER THE INPUT: true; the input reads as it did. -/
def mergeOrdersSpec : ChangeSpec := { name := "mergeOrders", fn := fun _ => fun
  | [d1, d2] => { results := [.lit (.bool true)], args := [d1, d2] }
  | _ => none }
def mergeOrdersRow : OpenClaim := { program := "ytanfjnhpdchbbabdoor", sum := "a80f2ec39bd13815fd318fb4da8a9527237741182830b0b2df2fa1b2a21f4738", func := "belvedere/belvederelaw5.MergeOrders", spec := "mergeOrders", inPlace := ["math/bits.Add64"], unfollowed := true, recurses := true, named := ["belvedere/api.ErrOver"], apart := false, laid := [("belvedere/api.ErrOver", laid_belvedere_api_ErrOver)] }
def MergeOrdersSaid : Prop := mergeOrdersRow.holds Tryd.pinned (OpenSpec.ofChange mergeOrdersSpec)

/-- ITS FALSE NEIGHBOUR: 'it returns false'. Refute it at one input. -/
def mergeOrdersWrong : ChangeSpec := { name := "mergeOrders", fn := fun _ => fun
  | [d1, d2] => { results := [.lit (.bool false)], args := [d1, d2] }
  | _ => none }
def MergeOrdersWrongFalsely : Prop := mergeOrdersRow.holds Tryd.pinned (OpenSpec.ofChange mergeOrdersWrong)

/-- 'belvederelaw5.MergeSeeks': WHATEVER THE INPUT: true; the input reads as it did. -/
def mergeSeeksSpec : ChangeSpec := { name := "mergeSeeks", fn := fun _ => fun
  | [d1, d2, d3] => { results := [.lit (.bool true)], args := [d1, d2, d3] }
  | _ => none }
def mergeSeeksRow : OpenClaim := { program := "ytanfjnhpdchbbabdoor", sum := "a80f2ec39bd13815fd318fb4da8a9527237741182830b0b2df2fa1b2a21f4738", func := "belvedere/belvederelaw5.MergeSeeks", spec := "mergeSeeks", inPlace := ["math/bits.Add64"], unfollowed := true, recurses := true, named := ["belvedere/api.ErrOver"], apart := false, laid := [("belvedere/api.ErrOver", laid_belvedere_api_ErrOver)] }
def MergeSeeksSaid : Prop := mergeSeeksRow.holds Tryd.pinned (OpenSpec.ofChange mergeSeeksSpec)

/-- ITS FALSE NEIGHBOUR: 'it returns false'. Refute it at one input. -/
def mergeSeeksWrong : ChangeSpec := { name := "mergeSeeks", fn := fun _ => fun
  | [d1, d2, d3] => { results := [.lit (.bool false)], args := [d1, d2, d3] }
  | _ => none }
def MergeSeeksWrongFalsely : Prop := mergeSeeksRow.holds Tryd.pinned (OpenSpec.ofChange mergeSeeksWrong)

/-- 'belvederelaw5.MergeOne': WHATEVER THE INPUT: true; the input reads as it did. -/
def mergeOneSpec : ChangeSpec := { name := "mergeOne", fn := fun _ => fun
  | [d1, d2] => { results := [.lit (.bool true)], args := [d1, d2] }
  | _ => none }
def mergeOneRow : OpenClaim := { program := "ytanfjnhpdchbbabdoor", sum := "a80f2ec39bd13815fd318fb4da8a9527237741182830b0b2df2fa1b2a21f4738", func := "belvedere/belvederelaw5.MergeOne", spec := "mergeOne", inPlace := ["math/bits.Add64"], unfollowed := true, recurses := true, named := ["belvedere/api.ErrOver"], apart := false, laid := [("belvedere/api.ErrOver", laid_belvedere_api_ErrOver)] }
def MergeOneSaid : Prop := mergeOneRow.holds Tryd.pinned (OpenSpec.ofChange mergeOneSpec)

/-- ITS FALSE NEIGHBOUR: 'it returns false'. Refute it at one input. -/
def mergeOneWrong : ChangeSpec := { name := "mergeOne", fn := fun _ => fun
  | [d1, d2] => { results := [.lit (.bool false)], args := [d1, d2] }
  | _ => none }
def MergeOneWrongFalsely : Prop := mergeOneRow.holds Tryd.pinned (OpenSpec.ofChange mergeOneWrong)

/- THE SECOND FORM. 'bulk': how many values and letters a reading holds, each counted each time it is reached (what is shared counts as often as it is met; a slice's spare places count too). A statement '..UptoSaid' is the law's where the arguments, and the package variables that the reading takes, are together of bulk at most 1048576: NARROWER than '..Said'. Prove '..Said' where nothing that the law and all that it calls make is longer than what came in: it says more and counts as full. Else prove '..UptoSaid'. A law counts once. -/
mutual
def uptoBulk {H : Type} : DataW H → Nat
  | .lit (.string bytes) => bytes.length + 1
  | .lit _ => 1
  | .nil => 1
  | .ptr d => uptoBulk d + 1
  | .slice elems spare => uptoBulkAll elems + uptoBulkAll spare + 1
  | .agg parts => uptoBulkAll parts + 1
  | .iface _ d => uptoBulk d + 1
  | .map entries => uptoBulkEntries entries + 1
  | .held _ => 1
def uptoBulkAll {H : Type} : List (DataW H) → Nat
  | [] => 0
  | d :: r => uptoBulk d + uptoBulkAll r
def uptoBulkEntries {H : Type} : List (Lit × DataW H) → Nat
  | [] => 0
  | x :: r => uptoBulkEntry x + uptoBulkEntries r
def uptoBulkEntry {H : Type} : Lit × DataW H → Nat
  | (.string bytes, d) => bytes.length + uptoBulk d + 1
  | (_, d) => uptoBulk d + 1
 end
def uptoSmall : (H : Type) → List (DataW H) → Bool := fun _ ds => decide (uptoBulkAll ds ≤ 1048576)
def OpenSpec.upto (s : _root_.Go.ChangeSpec) : _root_.Go.OpenSpec := { _root_.Go.OpenSpec.ofChange s with cond := some uptoSmall }

/-- 'belvederelaw5.MergeOrders', WHERE WHAT IT READS IS OF BULK AT MOST 1048576: true; the input reads as it did. -/
def mergeOrdersUptoRow : OpenClaim := { program := "ytanfjnhpdchbbabdoor", sum := "a80f2ec39bd13815fd318fb4da8a9527237741182830b0b2df2fa1b2a21f4738", func := "belvedere/belvederelaw5.MergeOrders", spec := "mergeOrders", inPlace := ["math/bits.Add64"], unfollowed := true, recurses := true, named := ["belvedere/api.ErrOver"], apart := false, laid := [("belvedere/api.ErrOver", laid_belvedere_api_ErrOver)], narrowed := true }
def MergeOrdersUptoSaid : Prop := mergeOrdersUptoRow.holds Tryd.pinned (OpenSpec.upto mergeOrdersSpec)

/-- 'belvederelaw5.MergeSeeks', WHERE WHAT IT READS IS OF BULK AT MOST 1048576: true; the input reads as it did. -/
def mergeSeeksUptoRow : OpenClaim := { program := "ytanfjnhpdchbbabdoor", sum := "a80f2ec39bd13815fd318fb4da8a9527237741182830b0b2df2fa1b2a21f4738", func := "belvedere/belvederelaw5.MergeSeeks", spec := "mergeSeeks", inPlace := ["math/bits.Add64"], unfollowed := true, recurses := true, named := ["belvedere/api.ErrOver"], apart := false, laid := [("belvedere/api.ErrOver", laid_belvedere_api_ErrOver)], narrowed := true }
def MergeSeeksUptoSaid : Prop := mergeSeeksUptoRow.holds Tryd.pinned (OpenSpec.upto mergeSeeksSpec)

/-- 'belvederelaw5.MergeOne', WHERE WHAT IT READS IS OF BULK AT MOST 1048576: true; the input reads as it did. -/
def mergeOneUptoRow : OpenClaim := { program := "ytanfjnhpdchbbabdoor", sum := "a80f2ec39bd13815fd318fb4da8a9527237741182830b0b2df2fa1b2a21f4738", func := "belvedere/belvederelaw5.MergeOne", spec := "mergeOne", inPlace := ["math/bits.Add64"], unfollowed := true, recurses := true, named := ["belvedere/api.ErrOver"], apart := false, laid := [("belvedere/api.ErrOver", laid_belvedere_api_ErrOver)], narrowed := true }
def MergeOneUptoSaid : Prop := mergeOneUptoRow.holds Tryd.pinned (OpenSpec.upto mergeOneSpec)

end Rows
end Go.Proofs.YtanfjnhpdchbbabDoor
