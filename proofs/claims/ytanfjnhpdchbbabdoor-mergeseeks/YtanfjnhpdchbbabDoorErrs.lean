/- The program's own errors as values, and what the statements' see.Is tells of them. -/
import Derived.Test.YtanfjnhpdchbbabDoorOn
import Derived.LaidEql
import Derived.WideLaws
import Derived.Lib.QuietBelow
import Derived.BigQuiet
import Derived.Stop.LaidErr
namespace Go.Proofs.YtanfjnhpdchbbabDoor
open Go.RowKit Go.Sort
set_option maxRecDepth 100000

/-- An error of the program's own: the interface value over its address. -/
def errV (a : Addr) : Value := .iface 148 (.pointer (some a))
theorem err_comp : (Tryd.prog.info? 148).map (·.comparable) = some true := by kernel_rfl
theorem err_size : (Tryd.prog.info? 164).map (·.size) = some 1 := by kernel_rfl

end Go.Proofs.YtanfjnhpdchbbabDoor
