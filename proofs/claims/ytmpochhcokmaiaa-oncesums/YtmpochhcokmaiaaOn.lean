/- A cell that stands where all below is as it was. -/
import Derived.Test.YtmpochhcokmaiaaSeq
import Derived.Lib.QuietBelow
import Derived.BigQuiet
namespace Go.Proofs.Ytmpochhcokmaiaa
open Go.RowKit Go.Sort
set_option maxRecDepth 100000
theorem cell_on {w w' : World} {a : Addr} {v : Value} (h : w.cell? a = some v) (hb : Below w.heap.size w w') : w'.cell? a = some v := by
  rw [hb.cell (World.block_lt_of_cell? _ _ h)]; exact h
end Go.Proofs.Ytmpochhcokmaiaa
