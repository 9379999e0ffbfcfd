/- What value.Of, Str, Is and Check answer, in whatever world. -/
import Derived.Test.YtiphnbpkliglcaaDoorCmp
namespace Go.Proofs.YtiphnbpkliglcaaDoor
open Go.RowKit

/-- May the value be? -/
def ckV (k n : Int) (s : ByteArray) : Bool :=
  if k = 0 then n == 0 && s.toList.isEmpty
  else if k = 1 then s.toList.isEmpty
  else if k = 2 then n == 0 && decide ((s.size : Int) ≤ 64)
  else if k = 3 then (n == 0 || n == 1) && s.toList.isEmpty
  else false

set_option maxHeartbeats 1000000 in
theorem valueCheck (k n : Int) (s : ByteArray) (w : World) :
    Calls Tryd.prog 28 #[.agg #[.int .i64 k, .int .i64 n, .string s]] w fun e w' => e = .returned (.bool (ckV k n s)) ∧ Below w.heap.size w w' := by
  unfold ckV
  by_cases h0 : k = 0
  · subst h0
    cases hn : (n == 0)
    all_goals
      go_enter Tryd.func28, Tryd.ntmps28
      go_wp2
      go_ret
      exact ⟨rfl, one_box⟩
  by_cases h1 : k = 1
  · subst h1
    go_enter Tryd.func28, Tryd.ntmps28
    go_wp2
    go_ret
    exact ⟨rfl, one_box⟩
  by_cases h2 : k = 2
  · subst h2
    cases hn : (n == 0)
    all_goals
      go_enter Tryd.func28, Tryd.ntmps28
      go_wp2
      go_ret
      exact ⟨rfl, one_box⟩
  by_cases h3 : k = 3
  · subst h3
    cases hn : (n == 0) <;> cases hm : (n == 1)
    all_goals
      go_enter Tryd.func28, Tryd.ntmps28
      go_wp2
      go_ret
      exact ⟨rfl, one_box⟩
  · have b0 : (k == 0) = false := by simp [h0]
    have b1 : (k == 1) = false := by simp [h1]
    have b2 : (k == 2) = false := by simp [h2]
    have b3 : (k == 3) = false := by simp [h3]
    go_enter Tryd.func28, Tryd.ntmps28
    go_wp2
    go_ret
    exact ⟨rfl, one_box⟩
end Go.Proofs.YtiphnbpkliglcaaDoor
