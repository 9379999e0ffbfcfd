/- The error of weights that are beyond is told. -/
import Derived.Test.YtmpochhcokmaiaaDoorErrs
import Derived.Test.YtmpochhcokmaiaaDoorZDrop
namespace Go.Proofs.YtmpochhcokmaiaaDoor
open Go.RowKit Go.Sort
set_option maxRecDepth 100000

theorem seeOver (ad : Fin 11 → Addr) (l : List Ent) (w : World) (h : ErrsAt ad w) :
    Calls Tryd.prog 14 #[ovE (ad 6) (okZ l), .int .i64 (if okZ l then 0 else 107)] w fun e w' => e = .returned (.bool true) ∧ Below w.heap.size w w' := by
  unfold ovE
  by_cases h2 : okZ l = true
  · rw [if_pos h2, if_pos h2]; exact seeIs ad none 0 w h
  · rw [if_neg h2, if_neg h2]; exact seeIs ad (some 6) 107 w h
end Go.Proofs.YtmpochhcokmaiaaDoor
