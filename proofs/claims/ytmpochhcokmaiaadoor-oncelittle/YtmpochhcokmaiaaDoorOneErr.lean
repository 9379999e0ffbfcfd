/- The error of weights that are beyond, as it is laid. -/
import Derived.Test.YtmpochhcokmaiaaDoorOverAt
namespace Go.Proofs.YtmpochhcokmaiaaDoor
open Go.RowKit
set_option maxRecDepth 100000
theorem over_of {W : World} (t : List UInt8) (r : List (String × DataW Unit)) (h : laidMet Tryd.prog (sentL [("belvedere/api.ErrOver", t)] ++ r) W) : ∃ ad, OverAt ad W := by
  obtain ⟨ps, hv, hnd, hrows⟩ := h
  obtain ⟨l, h1, h2, h3, h4⟩ := sents [("belvedere/api.ErrOver", t)] r ps hv hnd hrows (by
    intro x hx
    simp only [List.mem_cons, List.not_mem_nil, or_false] at hx
    rcases hx with rfl
    exact ⟨0, by kernel_rfl, by kernel_rfl⟩)
  have hl : l.length = 1 := h1
  refine ⟨l[0], ?_⟩
  have := World.var?_cell (show Tryd.prog.globalNamed "belvedere/api.ErrOver" = some 0 by kernel_rfl) (h4 0 (by simp) (by omega)) 0
  have t : W.cell? ⟨0, 0, none⟩ = some (errV l[0]) := by simpa using this
  exact t
end Go.Proofs.YtmpochhcokmaiaaDoor
