/-
  No cell of these rows narrows 'for every input' (looked for: loops, veiled, ifaces, maps, wideKeys, modest, calm, conditions, laid).
  DERIVED. THE GIVEN ROWS OF THIS SEAT. 4 by the template 'for every input the law returns true; each argument reads behind the call as it read before'; 0 by the template 'total and deterministic' (their statements: YtjpgnohhgkalbaaTotals.lean).
  GIVEN WITH THE SEED: the statements are not yours to turn. If you find one false, say at which input.
  Laid BY PROGRAM, IN A SANDBOX (cutbox-rows.mjs): the forced cells as the released guide's own fill.sh prints them over the translation b7b17b8b9b68a44f… (all of the seat's roots in one cut). By AI agents, Wed Nov 11 2026. No macro, syntax, notation, axiom, sorry.
-/
import Derived.Test.YtjpgnohhgkalbaaChecked
import GoSem.Claim
import GoSem.ClaimJoined
import GoSem.ClaimMapViews
import Derived.JoinedTies
import Derived.KernelRfl
namespace Go.Proofs.Ytjpgnohhgkalbaa
/- THE CELL 'sum', in the pinned program and in every row, IS THE sha256 OF THE DUMP (.gsa) THAT YtjpgnohhgkalbaaProg.lean LOADS. Nothing in Lean hashes anything: it is a label: what it is worth is what the hold of that sum in a sandbox is worth. -/
noncomputable def Try.pinned : Pinned := { name := "ytjpgnohhgkalbaa", sum := "b7b17b8b9b68a44f7e43a1af5d13545602bcfe59c6f0d4459108dfc43a6e7441", checked := Try.checked }
namespace Rows
def none {H : Type} : Left H := { results := [], args := [] }

/-- 'belvederelaw4.SliceSays': WHATEVER THE INPUT: true; the input reads as it did. -/
def sliceSaysSpec : ChangeSpec := { name := "sliceSays", fn := fun _ => fun
  | [d1, d2, d3] => { results := [.lit (.bool true)], args := [d1, d2, d3] }
  | _ => none }
def sliceSaysRow : OpenClaim := { program := "ytjpgnohhgkalbaa", sum := "b7b17b8b9b68a44f7e43a1af5d13545602bcfe59c6f0d4459108dfc43a6e7441", func := "belvedere/belvederelaw4.SliceSays", spec := "sliceSays", inPlace := ["math/bits.Add64"], unfollowed := true, recurses := true, apart := false }
def SliceSaysSaid : Prop := sliceSaysRow.holds Try.pinned (OpenSpec.ofChange sliceSaysSpec)

/-- ITS FALSE NEIGHBOUR: 'it returns false'. Refute it at one input. -/
def sliceSaysWrong : ChangeSpec := { name := "sliceSays", fn := fun _ => fun
  | [d1, d2, d3] => { results := [.lit (.bool false)], args := [d1, d2, d3] }
  | _ => none }
def SliceSaysWrongFalsely : Prop := sliceSaysRow.holds Try.pinned (OpenSpec.ofChange sliceSaysWrong)

/-- 'belvederelaw4.SliceChunks': WHATEVER THE INPUT: true; the input reads as it did. -/
def sliceChunksSpec : ChangeSpec := { name := "sliceChunks", fn := fun _ => fun
  | [d1, d2] => { results := [.lit (.bool true)], args := [d1, d2] }
  | _ => none }
def sliceChunksRow : OpenClaim := { program := "ytjpgnohhgkalbaa", sum := "b7b17b8b9b68a44f7e43a1af5d13545602bcfe59c6f0d4459108dfc43a6e7441", func := "belvedere/belvederelaw4.SliceChunks", spec := "sliceChunks", inPlace := ["math/bits.Add64"], unfollowed := true, recurses := true, apart := false }
def SliceChunksSaid : Prop := sliceChunksRow.holds Try.pinned (OpenSpec.ofChange sliceChunksSpec)

/-- ITS FALSE NEIGHBOUR: 'it returns false'. Refute it at one input. -/
def sliceChunksWrong : ChangeSpec := { name := "sliceChunks", fn := fun _ => fun
  | [d1, d2] => { results := [.lit (.bool false)], args := [d1, d2] }
  | _ => none }
def SliceChunksWrongFalsely : Prop := sliceChunksRow.holds Try.pinned (OpenSpec.ofChange sliceChunksWrong)

/-- 'belvederelaw4.SliceParts': WHATEVER THE INPUT: true; the input reads as it did. -/
def slicePartsSpec : ChangeSpec := { name := "sliceParts", fn := fun _ => fun
  | [d1, d2, d3] => { results := [.lit (.bool true)], args := [d1, d2, d3] }
  | _ => none }
def slicePartsRow : OpenClaim := { program := "ytjpgnohhgkalbaa", sum := "b7b17b8b9b68a44f7e43a1af5d13545602bcfe59c6f0d4459108dfc43a6e7441", func := "belvedere/belvederelaw4.SliceParts", spec := "sliceParts", inPlace := ["math/bits.Add64"], unfollowed := true, recurses := true, apart := false }
def SlicePartsSaid : Prop := slicePartsRow.holds Try.pinned (OpenSpec.ofChange slicePartsSpec)

/-- ITS FALSE NEIGHBOUR: 'it returns false'. Refute it at one input. -/
def slicePartsWrong : ChangeSpec := { name := "sliceParts", fn := fun _ => fun
  | [d1, d2, d3] => { results := [.lit (.bool false)], args := [d1, d2, d3] }
  | _ => none }
def SlicePartsWrongFalsely : Prop := slicePartsRow.holds Try.pinned (OpenSpec.ofChange slicePartsWrong)

/-- 'belvederelaw4.SliceOwn': WHATEVER THE INPUT: true; the input reads as it did. -/
def sliceOwnSpec : ChangeSpec := { name := "sliceOwn", fn := fun _ => fun
  | [d] => { results := [.lit (.bool true)], args := [d] }
  | _ => none }
def sliceOwnRow : OpenClaim := { program := "ytjpgnohhgkalbaa", sum := "b7b17b8b9b68a44f7e43a1af5d13545602bcfe59c6f0d4459108dfc43a6e7441", func := "belvedere/belvederelaw4.SliceOwn", spec := "sliceOwn", inPlace := ["math/bits.Add64"], unfollowed := true, recurses := true, apart := false }
def SliceOwnSaid : Prop := sliceOwnRow.holds Try.pinned (OpenSpec.ofChange sliceOwnSpec)

/-- ITS FALSE NEIGHBOUR: 'it returns false'. Refute it at one input. -/
def sliceOwnWrong : ChangeSpec := { name := "sliceOwn", fn := fun _ => fun
  | [d] => { results := [.lit (.bool false)], args := [d] }
  | _ => none }
def SliceOwnWrongFalsely : Prop := sliceOwnRow.holds Try.pinned (OpenSpec.ofChange sliceOwnWrong)

/- THE SECOND FORM. 'bulk': how many values and letters a reading holds, each counted each time it is reached (what is shared counts as often as it is met; a slice's spare places count too). A statement '..UptoSaid' is the law's where the arguments, and the package variables that the reading takes, are together of bulk at most 1048576: NARROWER than '..Said'. Prove '..Said' where nothing that the law and all that it calls make is longer than what came in: it says more and counts as full. Else prove '..UptoSaid'. A law counts once. -/
mutual
def uptoBulk {H : Type} : DataW H → Nat
  | .lit (.string bytes) => bytes.length + 1
  | .lit _ => 1
  | .nil => 1
  | .ptr d => uptoBulk d + 1
  | .slice elems spare => uptoBulkAll elems + uptoBulkAll spare + 1
  | .agg parts => uptoBulkAll parts + 1
  | .iface _ d => uptoBulk d + 1
  | .map entries => uptoBulkEntries entries + 1
  | .held _ => 1
def uptoBulkAll {H : Type} : List (DataW H) → Nat
  | [] => 0
  | d :: r => uptoBulk d + uptoBulkAll r
def uptoBulkEntries {H : Type} : List (Lit × DataW H) → Nat
  | [] => 0
  | x :: r => uptoBulkEntry x + uptoBulkEntries r
def uptoBulkEntry {H : Type} : Lit × DataW H → Nat
  | (.string bytes, d) => bytes.length + uptoBulk d + 1
  | (_, d) => uptoBulk d + 1
 end
def uptoSmall : (H : Type) → List (DataW H) → Bool := fun _ ds => decide (uptoBulkAll ds ≤ 1048576)
def OpenSpec.upto (s : _root_.Go.ChangeSpec) : _root_.Go.OpenSpec := { _root_.Go.OpenSpec.ofChange s with cond := some uptoSmall }

/-- 'belvederelaw4.SliceSays', WHERE WHAT IT READS IS OF BULK AT MOST 1048576: true; the input reads as it did. -/
def sliceSaysUptoRow : OpenClaim := { program := "ytjpgnohhgkalbaa", sum := "b7b17b8b9b68a44f7e43a1af5d13545602bcfe59c6f0d4459108dfc43a6e7441", func := "belvedere/belvederelaw4.SliceSays", spec := "sliceSays", inPlace := ["math/bits.Add64"], unfollowed := true, recurses := true, apart := false, narrowed := true }
def SliceSaysUptoSaid : Prop := sliceSaysUptoRow.holds Try.pinned (OpenSpec.upto sliceSaysSpec)

/-- 'belvederelaw4.SliceChunks', WHERE WHAT IT READS IS OF BULK AT MOST 1048576: true; the input reads as it did. -/
def sliceChunksUptoRow : OpenClaim := { program := "ytjpgnohhgkalbaa", sum := "b7b17b8b9b68a44f7e43a1af5d13545602bcfe59c6f0d4459108dfc43a6e7441", func := "belvedere/belvederelaw4.SliceChunks", spec := "sliceChunks", inPlace := ["math/bits.Add64"], unfollowed := true, recurses := true, apart := false, narrowed := true }
def SliceChunksUptoSaid : Prop := sliceChunksUptoRow.holds Try.pinned (OpenSpec.upto sliceChunksSpec)

/-- 'belvederelaw4.SliceParts', WHERE WHAT IT READS IS OF BULK AT MOST 1048576: true; the input reads as it did. -/
def slicePartsUptoRow : OpenClaim := { program := "ytjpgnohhgkalbaa", sum := "b7b17b8b9b68a44f7e43a1af5d13545602bcfe59c6f0d4459108dfc43a6e7441", func := "belvedere/belvederelaw4.SliceParts", spec := "sliceParts", inPlace := ["math/bits.Add64"], unfollowed := true, recurses := true, apart := false, narrowed := true }
def SlicePartsUptoSaid : Prop := slicePartsUptoRow.holds Try.pinned (OpenSpec.upto slicePartsSpec)

/-- 'belvederelaw4.SliceOwn', WHERE WHAT IT READS IS OF BULK AT MOST 1048576: true; the input reads as it did. -/
def sliceOwnUptoRow : OpenClaim := { program := "ytjpgnohhgkalbaa", sum := "b7b17b8b9b68a44f7e43a1af5d13545602bcfe59c6f0d4459108dfc43a6e7441", func := "belvedere/belvederelaw4.SliceOwn", spec := "sliceOwn", inPlace := ["math/bits.Add64"], unfollowed := true, recurses := true, apart := false, narrowed := true }
def SliceOwnUptoSaid : Prop := sliceOwnUptoRow.holds Try.pinned (OpenSpec.upto sliceOwnSpec)

end Rows
end Go.Proofs.Ytjpgnohhgkalbaa
