/- Where the error of weights that are beyond lies. -/
import Derived.Test.YtmpochhcokmaiaaDoorOn
import Derived.Test.YtmpochhcokmaiaaDoorLaidErrs
namespace Go.Proofs.YtmpochhcokmaiaaDoor
open Go.RowKit Go.Sort
set_option maxRecDepth 100000

/-- The error of weights that are beyond. -/
def OverAt (a : Addr) (w : World) : Prop := w.cell? ⟨0, 0, none⟩ = some (errV a)
theorem OverAt.on {a : Addr} {w w' : World} (h : OverAt a w) (hb : Below w.heap.size w w') : OverAt a w' := cell_on h hb
theorem OverAt.lt {a : Addr} {w : World} (h : OverAt a w) : 0 < w.heap.size := World.block_lt_of_cell? _ _ h
end Go.Proofs.YtmpochhcokmaiaaDoor
