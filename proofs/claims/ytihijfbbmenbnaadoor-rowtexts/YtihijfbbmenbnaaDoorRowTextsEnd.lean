/- The law RowTexts answers true at every argument: its walk, joined with the way of long arguments. -/
import Derived.Test.YtihijfbbmenbnaaDoorRowTextsWalk
import Derived.Test.YtihijfbbmenbnaaDoorRowMod
namespace Go.Proofs.YtihijfbbmenbnaaDoor
open Go.RowKit
set_option maxRecDepth 100000
set_option maxHeartbeats 1000000 in
theorem rowtexts_long (a : Option Addr) (len cap : Nat) (a' : Option Addr) (len' cap' : Nat) (n : Int) (w : World) (hr : Ready w) (h : 40 < (len : Int) ∨ ((len : Int) ≤ 40 ∧ 40 < (len' : Int))) :
    Calls Tryd.prog 7 #[.slice a len cap, .slice a' len' cap', .int .i64 n] w fun e w' => e = .returned (.bool true) ∧ Below w.heap.size w w' := by
  rcases h with h | ⟨h1, h⟩
  all_goals
    go_enter Tryd.func7, Tryd.ntmps7
    go_wp2_with fail
    refine (lawFirst2 _ hr).mono ?_
    rintro e w1 ⟨rfl, hb1⟩
    go_wp2_with fail
    go_ret
    exact ⟨rfl, hb1⟩
theorem rowTexts_walk (a : Option Addr) (len cap : Nat) (zs : List Int) (a' : Option Addr) (len' cap' : Nat) (zs' : List Int) (n : Int) (_ : (Lit.int .i64 n).wf = true)
    (w : World) (hr : Ready w) (ha : IsRow .i64 w a len cap zs) (ha' : IsRow .i64 w a' len' cap' zs') :
    Calls Tryd.prog 7 #[.slice a len cap, .slice a' len' cap', .int .i64 n] w fun e w' => e = .returned (.bool true) ∧ Below w.heap.size w w' := by
  by_cases h : (len : Int) ≤ 40 ∧ (len' : Int) ≤ 40
  · obtain ⟨k, hk, hN⟩ := mod_pos n 4 (by decide) (by decide)
    exact rowtexts_main a len cap zs a' len' cap' zs' n k (by omega) hN h.1 h.2 w hr ha ha'
  · exact rowtexts_long a len cap a' len' cap' n w hr (by omega)
end Go.Proofs.YtihijfbbmenbnaaDoor
