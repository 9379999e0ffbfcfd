/- What join's calls answer: Fits (JcCmp), Join (JcJoin). -/
import Derived.Test.YtlafokjkpbhckaaDoorJcJoin
namespace Go.Proofs.YtlafokjkpbhckaaDoor
end Go.Proofs.YtlafokjkpbhckaaDoor
