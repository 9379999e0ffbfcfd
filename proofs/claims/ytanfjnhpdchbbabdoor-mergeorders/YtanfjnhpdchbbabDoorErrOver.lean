/- The error of weights that are beyond, among all. -/
import Derived.Test.YtanfjnhpdchbbabDoorPackPut
namespace Go.Proofs.YtanfjnhpdchbbabDoor
end Go.Proofs.YtanfjnhpdchbbabDoor
