/- The law RowChecks answers true at every argument: its walk, joined with the way of long arguments. -/
import Derived.Test.YtihijfbbmenbnaaDoorRowChecksWalk
import Derived.Test.YtihijfbbmenbnaaDoorRowMod
namespace Go.Proofs.YtihijfbbmenbnaaDoor
open Go.RowKit
set_option maxRecDepth 100000
/-- RowChecks; its two errors are asked of the world besides. -/
theorem rowChecks_walk (a : Option Addr) (len cap : Nat) (zs : List Int) (t : Int) (_ : (Lit.int .i64 t).wf = true) (n : Int) (_ : (Lit.int .i64 n).wf = true)
    (w : World) (hr : Ready w) (h2 : ∃ eT eA, TwoAt eT eA w) (ha : IsRow .i64 w a len cap zs) :
    Calls Tryd.prog 8 #[.slice a len cap, .int .i64 t, .int .i64 n] w fun e w' => e = .returned (.bool true) ∧ Below w.heap.size w w' := by
  obtain ⟨eT, eA, h2⟩ := h2
  by_cases h : (len : Int) ≤ 40
  · obtain ⟨k, hk, hN⟩ := mod_pos t 3 (by decide) (by decide)
    obtain ⟨j, hj, hJ⟩ := mod_pos n 3 (by decide) (by decide)
    exact rowchecks_main a len cap zs t n k j (by omega) hN (by omega) hJ eT eA h w hr h2 ha
  · exact rowchecks_long a len cap t n w hr (by omega)
end Go.Proofs.YtihijfbbmenbnaaDoor
