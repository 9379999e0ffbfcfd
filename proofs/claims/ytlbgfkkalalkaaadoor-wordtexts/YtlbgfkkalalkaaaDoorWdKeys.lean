/- Which words are reserved. -/
import Derived.Test.YtlbgfkkalalkaaaDoorWdRun
namespace Go.Proofs.YtlbgfkkalalkaaaDoor
open Go.RowKit
set_option maxRecDepth 100000

set_option maxHeartbeats 4000000 in
theorem wReserved (s : ByteArray) (w : World) :
    Calls Tryd.prog 23 #[.string s] w fun e w' => e = .returned (.bool (resv s.data.toList)) ∧ w' = w := by
  rw [← Lib.toList_data]
  go_enter Tryd.func23, Tryd.ntmps23
  go_wp2
  all_goals go_ret
  all_goals refine ⟨?_, rfl⟩
  all_goals first
    | (rename_i h1 h2; exact absurd (h1.symm.trans h2) (by decide))
    | (refine retB (Eq.symm ?_); simp only [resv, wKeys, List.contains_cons, List.contains_nil, *, Bool.true_or, Bool.false_or, Bool.or_false])
end Go.Proofs.YtlbgfkkalalkaaaDoor
