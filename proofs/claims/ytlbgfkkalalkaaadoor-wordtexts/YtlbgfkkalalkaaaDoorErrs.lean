/- The program's own errors as values, and what the statements' see.Is tells of them. -/
import Derived.Test.YtlbgfkkalalkaaaDoorOn
import Derived.LaidEql
import Derived.WideLaws
import Derived.Lib.QuietBelow
import Derived.BigQuiet
import Derived.Stop.LaidErr
namespace Go.Proofs.YtlbgfkkalalkaaaDoor
open Go.RowKit Go.Sort
set_option maxRecDepth 100000

/-- An error of the program's own: the interface value over its address. -/
def errV (a : Addr) : Value := .iface 99 (.pointer (some a))
theorem err_comp : (Tryd.prog.info? 99).map (·.comparable) = some true := by kernel_rfl
theorem err_size : (Tryd.prog.info? 101).map (·.size) = some 1 := by kernel_rfl

end Go.Proofs.YtlbgfkkalalkaaaDoor
