/- What value.Of, Str, Is and Check answer, in whatever world. -/
import Derived.Test.YtjenkfiihpgaeaaDoorCmp
namespace Go.Proofs.YtjenkfiihpgaeaaDoor
open Go.RowKit

set_option maxHeartbeats 400000 in
theorem valueOf (n : Int) (w : World) :
    Calls Tryd.prog 17 #[.int .i64 n] w fun e w' => e = .returned (.agg #[.int .i64 1, .int .i64 n, .string ⟨#[]⟩]) ∧ Below w.heap.size w w' := by
  go_enter Tryd.func17, Tryd.ntmps17
  go_wp2
  exact bodyPost_ret (v := .agg #[.int .i64 1, .int .i64 n, .string ⟨#[]⟩]) (by simp [results, Tryd.results17, go_sem]) rfl ⟨rfl, one_box⟩

set_option maxHeartbeats 400000 in
theorem valueStr (s : ByteArray) (w : World) :
    Calls Tryd.prog 18 #[.string s] w fun e w' => e = .returned (.agg #[.int .i64 2, .int .i64 0, .string s]) ∧ Below w.heap.size w w' := by
  go_enter Tryd.func18, Tryd.ntmps18
  go_wp2
  exact bodyPost_ret (v := .agg #[.int .i64 2, .int .i64 0, .string s]) (by simp [results, Tryd.results18, go_sem]) rfl ⟨rfl, one_box⟩

def bN (b : Bool) : Int := if b then 1 else 0
set_option maxHeartbeats 400000 in
theorem valueIs (b : Bool) (w : World) :
    Calls Tryd.prog 19 #[.bool b] w fun e w' => e = .returned (.agg #[.int .i64 3, .int .i64 (bN b), .string ⟨#[]⟩]) ∧ Below w.heap.size w w' := by
  cases b
  · go_enter Tryd.func19, Tryd.ntmps19
    go_wp2
    exact bodyPost_ret (v := .agg #[.int .i64 3, .int .i64 0, .string ⟨#[]⟩]) (by simp [results, Tryd.results19, go_sem]) rfl ⟨rfl, one_box⟩
  · go_enter Tryd.func19, Tryd.ntmps19
    go_wp2
    exact bodyPost_ret (v := .agg #[.int .i64 3, .int .i64 1, .string ⟨#[]⟩]) (by simp [results, Tryd.results19, go_sem]) rfl ⟨rfl, one_box⟩

/-- May the value be? -/
def ckV (k n : Int) (s : ByteArray) : Bool :=
  if k = 0 then n == 0 && s.toList.isEmpty
  else if k = 1 then s.toList.isEmpty
  else if k = 2 then n == 0 && decide ((s.size : Int) ≤ 64)
  else if k = 3 then (n == 0 || n == 1) && s.toList.isEmpty
  else false

set_option maxHeartbeats 1000000 in
theorem valueCheck (k n : Int) (s : ByteArray) (w : World) :
    Calls Tryd.prog 10 #[.agg #[.int .i64 k, .int .i64 n, .string s]] w fun e w' => e = .returned (.bool (ckV k n s)) ∧ Below w.heap.size w w' := by
  unfold ckV
  by_cases h0 : k = 0
  · subst h0
    cases hn : (n == 0)
    all_goals
      go_enter Tryd.func10, Tryd.ntmps10
      go_wp2
      go_ret
      exact ⟨rfl, one_box⟩
  by_cases h1 : k = 1
  · subst h1
    go_enter Tryd.func10, Tryd.ntmps10
    go_wp2
    go_ret
    exact ⟨rfl, one_box⟩
  by_cases h2 : k = 2
  · subst h2
    cases hn : (n == 0)
    all_goals
      go_enter Tryd.func10, Tryd.ntmps10
      go_wp2
      go_ret
      exact ⟨rfl, one_box⟩
  by_cases h3 : k = 3
  · subst h3
    cases hn : (n == 0) <;> cases hm : (n == 1)
    all_goals
      go_enter Tryd.func10, Tryd.ntmps10
      go_wp2
      go_ret
      exact ⟨rfl, one_box⟩
  · have b0 : (k == 0) = false := by simp [h0]
    have b1 : (k == 1) = false := by simp [h1]
    have b2 : (k == 2) = false := by simp [h2]
    have b3 : (k == 3) = false := by simp [h3]
    go_enter Tryd.func10, Tryd.ntmps10
    go_wp2
    go_ret
    exact ⟨rfl, one_box⟩
end Go.Proofs.YtjenkfiihpgaeaaDoor
