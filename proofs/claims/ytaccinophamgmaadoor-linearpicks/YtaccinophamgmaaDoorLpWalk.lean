/- The walk of the law of the picked columns -/
import Derived.Test.YtaccinophamgmaaDoorLpIn
import Derived.Test.YtaccinophamgmaaDoorLpNeg
import Derived.Test.YtaccinophamgmaaDoorLpBig
namespace Go.Proofs.YtaccinophamgmaaDoor
open Go.RowKit Go.Sort
set_option maxRecDepth 100000
set_option linter.unusedVariables false

theorem linearPicks_walk (a : Option Addr) (len cap : Nat) (zs : List Int) (col : Int) (_ : (Lit.int .i64 col).wf = true) (out : Int) (wo : (Lit.int .i64 out).wf = true) (w : World) (he : ∃ ad, ErrsAt ad w) (ha : IsRow .i64 w a len cap zs) :
    Calls Tryd.prog 5 #[.slice a len cap, .int .i64 col, .int .i64 out] w fun e w' => e = .returned (.bool true) ∧ Below w.heap.size w w' := by
  obtain ⟨ad, he⟩ := he
  have hoI : inI out = true := inI_wf wo
  by_cases h : 120 < (len : Int)
  · exact lp_long a len cap col out ad w he h
  · by_cases h0 : 0 ≤ out
    · by_cases h1 : out < 3
      · exact lp_in a len cap zs col out h0 h1 ad h w he ha
      · exact lp_big a len cap zs col out h0 h1 hoI ad h w he ha
    · exact lp_neg a len cap zs col out h0 hoI ad h w he ha
end Go.Proofs.YtaccinophamgmaaDoor
