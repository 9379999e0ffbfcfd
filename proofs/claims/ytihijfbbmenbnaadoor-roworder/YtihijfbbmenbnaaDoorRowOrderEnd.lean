/- The law RowOrder answers true at every argument: its walk, joined with the way of long arguments. -/
import Derived.Test.YtihijfbbmenbnaaDoorRowOrderWalk
import Derived.Test.YtihijfbbmenbnaaDoorRowMod
namespace Go.Proofs.YtihijfbbmenbnaaDoor
open Go.RowKit
set_option maxRecDepth 100000
set_option maxHeartbeats 1000000 in
theorem roworder_long (a : Option Addr) (len cap : Nat) (a' : Option Addr) (len' cap' : Nat) (a'' : Option Addr) (len'' cap'' : Nat) (w : World) (hr : Ready w)
    (h : 40 < (len : Int) ∨ ((len : Int) ≤ 40 ∧ 40 < (len' : Int)) ∨ ((len : Int) ≤ 40 ∧ (len' : Int) ≤ 40 ∧ 40 < (len'' : Int))) :
    Calls Tryd.prog 6 #[.slice a len cap, .slice a' len' cap', .slice a'' len'' cap''] w fun e w' => e = .returned (.bool true) ∧ Below w.heap.size w w' := by
  rcases h with h | ⟨h1, h⟩ | ⟨h1, h2, h⟩
  all_goals
    go_enter Tryd.func6, Tryd.ntmps6
    go_wp2_with fail
    refine (lawFirst2 _ hr).mono ?_
    rintro e w1 ⟨rfl, hb1⟩
    go_wp2_with fail
    go_ret
    exact ⟨rfl, hb1⟩
theorem rowOrder_walk (a : Option Addr) (len cap : Nat) (zs : List Int) (a' : Option Addr) (len' cap' : Nat) (zs' : List Int) (a'' : Option Addr) (len'' cap'' : Nat) (zs'' : List Int)
    (w : World) (hr : Ready w) (ha : IsRow .i64 w a len cap zs) (ha' : IsRow .i64 w a' len' cap' zs') (ha'' : IsRow .i64 w a'' len'' cap'' zs'') :
    Calls Tryd.prog 6 #[.slice a len cap, .slice a' len' cap', .slice a'' len'' cap''] w fun e w' => e = .returned (.bool true) ∧ Below w.heap.size w w' := by
  by_cases h : (len : Int) ≤ 40 ∧ (len' : Int) ≤ 40 ∧ (len'' : Int) ≤ 40
  · exact roworder_main a len cap zs a' len' cap' zs' a'' len'' cap'' zs'' h.1 h.2.1 h.2.2 w hr ha ha' ha''
  · exact roworder_long a len cap a' len' cap' a'' len'' cap'' w hr (by omega)
end Go.Proofs.YtihijfbbmenbnaaDoor
