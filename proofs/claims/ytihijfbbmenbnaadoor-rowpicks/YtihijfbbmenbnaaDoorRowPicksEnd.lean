/- The law RowPicks answers true at every argument: its walk, joined with the way of long arguments. -/
import Derived.Test.YtihijfbbmenbnaaDoorRowPicksWalk
import Derived.Test.YtihijfbbmenbnaaDoorRowMod
namespace Go.Proofs.YtihijfbbmenbnaaDoor
open Go.RowKit
set_option maxRecDepth 100000
set_option maxHeartbeats 1000000 in
theorem rowpicks_long (a : Option Addr) (len cap : Nat) (t n : Int) (w : World) (hr : Ready w) (h : 60 < (len : Int)) :
    Calls Tryd.prog 5 #[.slice a len cap, .int .i64 t, .int .i64 n] w fun e w' => e = .returned (.bool true) ∧ Below w.heap.size w w' := by
  go_enter Tryd.func5, Tryd.ntmps5
  go_wp2_with fail
  refine (lawFirst2 _ hr).mono ?_
  rintro e w1 ⟨rfl, hb1⟩
  go_wp2_with fail
  go_ret
  exact ⟨rfl, hb1⟩
theorem rowPicks_walk (a : Option Addr) (len cap : Nat) (zs : List Int) (t : Int) (_ : (Lit.int .i64 t).wf = true) (n : Int) (_ : (Lit.int .i64 n).wf = true)
    (w : World) (hr : Ready w) (ha : IsRow .i64 w a len cap zs) :
    Calls Tryd.prog 5 #[.slice a len cap, .int .i64 t, .int .i64 n] w fun e w' => e = .returned (.bool true) ∧ Below w.heap.size w w' := by
  by_cases h : (len : Int) ≤ 60
  · obtain ⟨k, hk, hN⟩ := mod_pos t 4 (by decide) (by decide)
    exact rowpicks_main a len cap zs t n k (by omega) hN h w hr ha
  · exact rowpicks_long a len cap t n w hr (by omega)
end Go.Proofs.YtihijfbbmenbnaaDoor
