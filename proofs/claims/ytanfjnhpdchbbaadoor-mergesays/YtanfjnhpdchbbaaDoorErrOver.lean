/- The error of weights that are beyond, among all. -/
import Derived.Test.YtanfjnhpdchbbaaDoorPackPut
namespace Go.Proofs.YtanfjnhpdchbbaaDoor
theorem ErrsAt.over {ad : Fin 11 → Addr} {w : World} (h : ErrsAt ad w) : OverAt (ad 6) w := by
  obtain ⟨_, _, c0, c1, c2, c3, c4, c5, c6, _⟩ := h; exact c6
end Go.Proofs.YtanfjnhpdchbbaaDoor
