/- What value.Of, Str, Is and Check answer, in whatever world. -/
import Derived.Test.YtmpochhcokmaiaaCmp
namespace Go.Proofs.Ytmpochhcokmaiaa
open Go.RowKit

/-- May the value be? -/
def ckV (k n : Int) (s : ByteArray) : Bool :=
  if k = 0 then n == 0 && s.toList.isEmpty
  else if k = 1 then s.toList.isEmpty
  else if k = 2 then n == 0 && decide ((s.size : Int) ≤ 64)
  else if k = 3 then (n == 0 || n == 1) && s.toList.isEmpty
  else false

end Go.Proofs.Ytmpochhcokmaiaa
