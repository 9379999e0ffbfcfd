/- What a line's next answers. -/
import Derived.Test.YtlafokjkpbhckaaGreatDoorPackJn
import Derived.Test.YtlafokjkpbhckaaGreatDoorPackGrown
import Derived.Test.YtlafokjkpbhckaaGreatDoorOrd
namespace Go.Proofs.YtlafokjkpbhckaaGreatDoor
open Go.RowKit Go.Sort
set_option maxRecDepth 100000
set_option linter.unusedVariables false
set_option maxHeartbeats 2000000 in
theorem jcNext (a1 a2 : Option Addr) (n1 c1 n2 c2 b o m c : Nat) (k : Int) (w : World) (hm : 0 < m) (hc : w.cell? ⟨b, o, none⟩ = some (.slice a2 n2 c2)) :
    Calls Tryz.prog 41 #[.agg #[.slice a1 n1 c1, .int .i64 k, .slice (some ⟨b, o, none⟩) m c]] w fun e w' => e = .returned (.agg #[.slice a1 n1 c1, .slice a2 n2 c2]) ∧ Below w.heap.size w w' := by
  have hlt : b < w.heap.size := World.block_lt_of_cell? _ _ hc
  have I1 : (0 : Int) < (m : Int) := by omega
  have hc2 : ((w.alloc (.cells #[.slice a1 n1 c1, .int .i64 k, .slice (some ⟨b, o, none⟩) m c] 57)).alloc (.cells #[.slice none 0 0, .slice none 0 0] 60)).cell? ⟨b, o, none⟩ = some (.slice a2 n2 c2) := by
    exact cell_on hc below_two
  go_enter Tryz.func41, Tryz.ntmps41
  go_wp2_with fail
  go_region
  all_goals (go_wp2_with fail; exact bodyPost_ret (v := .agg #[.slice a1 n1 c1, .slice a2 n2 c2]) (by simp [results, Tryz.results41, go_sem]) rfl ⟨rfl, below_two.drew⟩)
end Go.Proofs.YtlafokjkpbhckaaGreatDoor
