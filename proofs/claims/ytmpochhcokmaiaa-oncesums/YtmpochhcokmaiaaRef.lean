/- What the document's own CheckValue and CompareValues answer, in whatever world: the same as the program's. -/
import Derived.Test.YtmpochhcokmaiaaSmall
namespace Go.Proofs.Ytmpochhcokmaiaa
open Go.RowKit

theorem empty_size (s : ByteArray) : ((s.size : Int) == 0) = s.toList.isEmpty := by
  rw [Lib.toList_data, Lib.size_eq]
  cases s.data.toList <;> simp
  omega


/-- A value's order at each of its ways. -/
theorem cV_cases (k n : Int) (s : ByteArray) (k' n' : Int) (s' : ByteArray) :
    (k < k' ∧ cV k n s k' n' s' = -1) ∨ (k' < k ∧ cV k n s k' n' s' = 1) ∨ (k = k' ∧ n < n' ∧ cV k n s k' n' s' = -1) ∨ (k = k' ∧ n' < n ∧ cV k n s k' n' s' = 1) ∨ (k = k' ∧ n = n' ∧ cV k n s k' n' s' = cS s s') := by
  have h1 := cI_neg k k'; have h2 := cI_neg n n'; have h3 := cI_zero k k'; have h4 := cI_zero n n'
  have h5 := cI_sq k k'; have h6 := cI_sq n n'
  unfold cV
  split
  · split <;> omega
  · omega

set_option maxHeartbeats 1000000 in
theorem refCompareValues (k n : Int) (s : ByteArray) (k' n' : Int) (s' : ByteArray) (w : World) :
    Calls Try.prog 19 #[.agg #[.int .i64 k, .int .i64 n, .string s], .agg #[.int .i64 k', .int .i64 n', .string s']] w fun e w' => e = .returned (.int .i64 (cV k n s k' n' s')) ∧ Below w.heap.size w w' := by
  rcases cV_cases k n s k' n' s' with ⟨h1, hc⟩ | ⟨h1, hc⟩ | ⟨rfl, h2, hc⟩ | ⟨rfl, h2, hc⟩ | ⟨rfl, rfl, hc⟩
  · rw [hc]
    go_enter Try.func19, Try.ntmps19
    go_wp2
    go_ret
    exact ⟨rfl, two_boxes⟩
  · rw [hc]
    have e1 : ¬ k < k' := by omega
    have e2 : (k == k') = false := by simp; omega
    go_enter Try.func19, Try.ntmps19
    go_wp2
    go_ret
    exact ⟨rfl, two_boxes⟩
  · rw [hc]
    go_enter Try.func19, Try.ntmps19
    go_wp2
    go_ret
    exact ⟨rfl, two_boxes⟩
  · rw [hc]
    have e1 : ¬ n < n' := by omega
    go_enter Try.func19, Try.ntmps19
    go_wp2
    go_ret
    exact ⟨rfl, two_boxes⟩
  · rw [hc]
    clear hc
    unfold cS
    by_cases g1 : Op.bytesLess s.toList s'.toList = true
    · go_enter Try.func19, Try.ntmps19
      go_wp2
      go_ret
      exact ⟨rfl, two_boxes⟩
    · have g4 : Op.bytesLess s.toList s'.toList = false := by simpa using g1
      by_cases g2 : s.toList = s'.toList
      · have g3 : (s.toList == s'.toList) = true := by simp [g2]
        go_enter Try.func19, Try.ntmps19
        go_wp2
        all_goals go_ret
        all_goals exact ⟨rfl, two_boxes⟩
      · have g3 : (s.toList == s'.toList) = false := by simp [g2]
        go_enter Try.func19, Try.ntmps19
        go_wp2
        all_goals go_ret
        all_goals exact ⟨rfl, two_boxes⟩
end Go.Proofs.Ytmpochhcokmaiaa
