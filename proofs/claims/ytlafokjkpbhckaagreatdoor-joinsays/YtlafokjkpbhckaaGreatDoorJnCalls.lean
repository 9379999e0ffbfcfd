/- What join's calls answer: Fits (JcCmp), Join (JcJoin). -/
import Derived.Test.YtlafokjkpbhckaaGreatDoorJcJoin
namespace Go.Proofs.YtlafokjkpbhckaaGreatDoor
end Go.Proofs.YtlafokjkpbhckaaGreatDoor
