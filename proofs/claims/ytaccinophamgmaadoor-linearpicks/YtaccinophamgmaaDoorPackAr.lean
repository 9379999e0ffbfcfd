/- Texts of one claim, one behind the other. -/
import Derived.Test.YtaccinophamgmaaDoorPackPut
/- Where the error of rows without the key's columns lies. -/
namespace Go.Proofs.YtaccinophamgmaaDoor
open Go.RowKit
/-- The error of rows without the key's columns. -/
def ArityAt (a : Addr) (w : World) : Prop := w.cell? ⟨0, 0, none⟩ = some (errV a)
theorem ArityAt.on {a : Addr} {w w' : World} (h : ArityAt a w) (hb : Below w.heap.size w w') : ArityAt a w' := cell_on h hb
end Go.Proofs.YtaccinophamgmaaDoor
/- The errors of rows without the key's columns and of weights that are beyond, as they are laid. -/
namespace Go.Proofs.YtaccinophamgmaaDoor
open Go.RowKit
set_option maxRecDepth 100000
def ArOvAt (aa ad : Addr) (w : World) : Prop := ArityAt aa w ∧ OverAt ad w
theorem arov_of {W : World} (t1 t5 : List UInt8) (r : List (String × DataW Unit)) (h : laidMet Tryd.prog (sentL [("belvedere/api.ErrArity", t1), ("belvedere/api.ErrOver", t5)] ++ r) W) : ∃ eA eO, ArOvAt eA eO W := by
  obtain ⟨ps, hv, hnd, hrows⟩ := h
  obtain ⟨l, h1, h2, h3, h4⟩ := sents [("belvedere/api.ErrArity", t1), ("belvedere/api.ErrOver", t5)] r ps hv hnd hrows (by
    intro x hx
    simp only [List.mem_cons, List.not_mem_nil, or_false] at hx
    rcases hx with rfl | rfl
    · exact ⟨0, by kernel_rfl, by kernel_rfl⟩
    · exact ⟨1, by kernel_rfl, by kernel_rfl⟩)
  have hl : l.length = 2 := h1
  refine ⟨l[0], l[1], ?_, ?_⟩
  · have := World.var?_cell (show Tryd.prog.globalNamed "belvedere/api.ErrArity" = some 0 by kernel_rfl) (h4 0 (by simp) (by omega)) 0
    have t : W.cell? ⟨0, 0, none⟩ = some (errV l[0]) := by simpa using this
    exact t
  · have := World.var?_cell (show Tryd.prog.globalNamed "belvedere/api.ErrOver" = some 1 by kernel_rfl) (h4 1 (by simp) (by omega)) 0
    have t : W.cell? ⟨1, 0, none⟩ = some (errV l[1]) := by simpa using this
    exact t
end Go.Proofs.YtaccinophamgmaaDoor
