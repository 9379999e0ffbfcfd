/- What the document's own Add answers: its rows are rows that came in. -/
import Derived.Test.YtlafokjkpbhckaaGreatDoorZAdd
namespace Go.Proofs.YtlafokjkpbhckaaGreatDoor
open Go.RowKit Go.Sort
set_option maxRecDepth 100000
end Go.Proofs.YtlafokjkpbhckaaGreatDoor
