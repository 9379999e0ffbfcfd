/- The law RowSorts answers true at every argument: its walk, joined with the way of long arguments. -/
import Derived.Test.YtihijfbbmenbnaaDoorRowSortsWalk
import Derived.Test.YtihijfbbmenbnaaDoorRowMod
namespace Go.Proofs.YtihijfbbmenbnaaDoor
open Go.RowKit
set_option maxRecDepth 100000
set_option maxHeartbeats 1000000 in
theorem rowsorts_long (a : Option Addr) (len cap : Nat) (t m n : Int) (w : World) (hr : Ready w) (h : 80 < (len : Int) ∨ ((len : Int) ≤ 80 ∧ m = n)) :
    Calls Tryd.prog 3 #[.slice a len cap, .int .i64 t, .int .i64 m, .int .i64 n] w fun e w' => e = .returned (.bool true) ∧ Below w.heap.size w w' := by
  rcases h with h | ⟨h1, rfl⟩
  all_goals
    go_enter Tryd.func3, Tryd.ntmps3
    go_wp2_with fail
    refine (lawFirst2 _ hr).mono ?_
    rintro e w1 ⟨rfl, hb1⟩
    go_wp2_with fail
    go_ret
    exact ⟨rfl, hb1⟩
theorem rowSorts_walk (a : Option Addr) (len cap : Nat) (zs : List Int) (t : Int) (_ : (Lit.int .i64 t).wf = true) (m : Int) (_ : (Lit.int .i64 m).wf = true) (n : Int) (_ : (Lit.int .i64 n).wf = true)
    (w : World) (hr : Ready w) (ha : IsRow .i64 w a len cap zs) :
    Calls Tryd.prog 3 #[.slice a len cap, .int .i64 t, .int .i64 m, .int .i64 n] w fun e w' => e = .returned (.bool true) ∧ Below w.heap.size w w' := by
  by_cases h : (len : Int) ≤ 80 ∧ m ≠ n
  · obtain ⟨k, hk, hN⟩ := mod_pos t 4 (by decide) (by decide)
    exact rowsorts_main a len cap zs t m n k (by omega) hN h.2 h.1 w hr ha
  · exact rowsorts_long a len cap t m n w hr (by omega)
end Go.Proofs.YtihijfbbmenbnaaDoor
