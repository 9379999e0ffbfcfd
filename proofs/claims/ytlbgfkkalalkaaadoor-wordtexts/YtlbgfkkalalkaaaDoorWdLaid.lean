/- What a law of layer 9 holds of the world, as it is laid. -/
import Derived.Test.YtlbgfkkalalkaaaDoorWdLaw
import Derived.Test.YtlbgfkkalalkaaaDoorLaidErrs
namespace Go.Proofs.YtlbgfkkalalkaaaDoor
open Go.RowKit
set_option maxRecDepth 100000
theorem wderrs_of {W : World} (t0 t1 t2 t3 : List UInt8) (r : List (String × DataW Unit)) (h : laidMet Tryd.prog (sentL [("strconv.ErrRange", t0), ("strconv.ErrSyntax", t1), ("belvedere/api.ErrText", t2), ("belvedere/api.ErrLimit", t3)] ++ r) W) (hr : Ready W) : WdA W := by
  obtain ⟨ps, hv, hnd, hrows⟩ := h
  obtain ⟨l, h1, h2, h3, h4⟩ := sents [("strconv.ErrRange", t0), ("strconv.ErrSyntax", t1), ("belvedere/api.ErrText", t2), ("belvedere/api.ErrLimit", t3)] r ps hv hnd hrows (by
    intro x hx
    simp only [List.mem_cons, List.not_mem_nil, or_false] at hx
    rcases hx with rfl | rfl | rfl | rfl
    · exact ⟨6, by kernel_rfl, by kernel_rfl⟩
    · exact ⟨5, by kernel_rfl, by kernel_rfl⟩
    · exact ⟨1, by kernel_rfl, by kernel_rfl⟩
    · exact ⟨0, by kernel_rfl, by kernel_rfl⟩)
  have hl : l.length = 4 := h1
  refine ⟨⟨hr, l[0], ?_⟩, ⟨l[2], ?_⟩, l[3], ?_⟩
  · have := World.var?_cell (show Tryd.prog.globalNamed "strconv.ErrRange" = some 6 by kernel_rfl) (h4 0 (by simp) (by omega)) 0
    have t : W.cell? ⟨6, 0, none⟩ = some (errV l[0]) := by simpa using this
    exact t
  · have := World.var?_cell (show Tryd.prog.globalNamed "belvedere/api.ErrText" = some 1 by kernel_rfl) (h4 2 (by simp) (by omega)) 0
    have t : W.cell? ⟨1, 0, none⟩ = some (errV l[2]) := by simpa using this
    exact t
  · have := World.var?_cell (show Tryd.prog.globalNamed "belvedere/api.ErrLimit" = some 0 by kernel_rfl) (h4 3 (by simp) (by omega)) 0
    have t : W.cell? ⟨0, 0, none⟩ = some (errV l[3]) := by simpa using this
    exact t
end Go.Proofs.YtlbgfkkalalkaaaDoor
