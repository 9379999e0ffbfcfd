/- What the document's own Add answers: its rows are rows that came in. -/
import Derived.Test.YtanfjnhpdchbbaaDoorPackNeg
namespace Go.Proofs.YtanfjnhpdchbbaaDoor
open Go.RowKit Go.Sort
set_option maxRecDepth 100000
end Go.Proofs.YtanfjnhpdchbbaaDoor
