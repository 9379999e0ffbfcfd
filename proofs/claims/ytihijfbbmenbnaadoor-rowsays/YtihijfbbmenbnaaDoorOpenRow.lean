/- A row that came in as an argument, opened; the two errors of rows, as they are laid. -/
import Derived.Test.YtihijfbbmenbnaaDoorRowCheck
import Derived.Test.YtihijfbbmenbnaaDoorLaidErrs
import Derived.Lib.SmallJoins
namespace Go.Proofs.YtihijfbbmenbnaaDoor
open Go.RowKit
set_option maxRecDepth 100000
theorem value_cells : Tryd.prog.cellsOf 31 = 3 := by kernel_rfl
theorem int_cells : Tryd.prog.cellsOf 3 = 1 := by kernel_rfl
theorem int64_cells : Tryd.prog.cellsOf 2 = 1 := by kernel_rfl
theorem string_cells : Tryd.prog.cellsOf 9 = 1 := by kernel_rfl
theorem row_of_trod {H : Type} {enc : TypeId × Value → H} {W : World} {base : Nat} {sp : Nat → Bool} {held : Bool} {fuel : Nat} {a : Option Addr} {len cap : Nat} {x : DataW H × List MemPlace}
    (h : DataW.trod enc Tryd.prog W base sp held fuel 25 [.slice a len cap] = some x) : ∃ l, RowIs W (.slice a len cap) l := by
  rcases Deep.open_slice Tryd.underlying25 h with ⟨hcs, _⟩ | ⟨x, l, c, m, n, D, Pl, hcs, hb, hl, hm, hmm, _, hx⟩
  · simp only [List.cons.injEq, Value.slice.injEq, and_true] at hcs
    obtain ⟨rfl, rfl, rfl⟩ := hcs
    exact ⟨[], .inl ⟨none, 0, rfl, rfl⟩⟩
  · simp only [List.cons.injEq, Value.slice.injEq, and_true] at hcs
    obtain ⟨rfl, rfl, rfl⟩ := hcs
    have hlm : len ≤ m := by rw [hmm]; split <;> omega
    by_cases h0 : len = 0
    · subst h0; exact ⟨[], .inl ⟨_, _, rfl, rfl⟩⟩
    have each : ∀ i, i < len → ∃ q : Val, W.cell? (x.add (i * 3)) = some (.int .i64 q.1) ∧ W.cell? (x.add (i * 3 + 1)) = some (.int .i64 q.2.1) ∧ W.cell? (x.add (i * 3 + 2)) = some (.string q.2.2) := by
      intro i hi
      obtain ⟨cs', h1, h2⟩ := hx i (by omega)
      rw [value_cells] at h1
      obtain ⟨_, hlen, hcell⟩ := World.cells?_some h1
      obtain ⟨y0, y1, y2, n', hx', _, g0, g1, g2⟩ := Deep.trod_struct3 Tryd.underlying31 h2
      match cs', hlen with
      | [v0, v1, v2], _ =>
        have c0 := hcell 0 (by omega)
        have c1 := hcell 1 (by omega)
        have c2 := hcell 2 (by omega)
        rw [Deep.add_add] at c0 c1 c2
        have g0' : DataW.trod enc Tryd.prog W base sp held n' 3 [v0] = some y0 := by simpa [int_cells] using g0
        have g1' : DataW.trod enc Tryd.prog W base sp held n' 2 [v1] = some y1 := by simpa [int64_cells] using g1
        have g2' : DataW.trod enc Tryd.prog W base sp held n' 9 [v2] = some y2 := by simpa [string_cells] using g2
        obtain ⟨k0, e0, _, _⟩ := DataW.trod_int Tryd.underlying3 g0'
        obtain ⟨k1, e1, _, _⟩ := DataW.trod_int Tryd.underlying2 g1'
        obtain ⟨k2, e2, _, _⟩ := DataW.trod_string Tryd.underlying9 g2'
        simp only [List.cons.injEq, and_true] at e0 e1 e2
        subst e0 e1 e2
        exact ⟨(k0, k1, k2), by simpa using c0, by simpa using c1, by simpa using c2⟩
    obtain ⟨q, hq⟩ := Deep.choose_lt each
    obtain ⟨b, o, spot⟩ := x
    have hspot : spot = none := by simpa [Addr.add] using World.cell?_spot (hq 0 (by omega)).1
    subst hspot
    have e3 : ((List.range len).map q).length = len := by simp
    refine ⟨(List.range len).map q, .inr ⟨b, o, cap, by rw [e3], by omega, hm, ?_, fun i hi => ?_⟩⟩
    · have := World.block_lt_of_cell? _ _ (hq 0 (by omega)).1
      simpa [Addr.add] using this
    · rw [e3] at hi
      have := hq i hi
      rw [add_plain, add_plain, add_plain] at this
      simpa [Nat.add_assoc] using this
theorem two_of {W : World} (t1 t5 : List UInt8) (r : List (String × DataW Unit)) (h : laidMet Tryd.prog (sentL [("belvedere/api.ErrType", t1), ("belvedere/api.ErrArity", t5)] ++ r) W) : ∃ eT eA, TwoAt eT eA W := by
  obtain ⟨ps, hv, hnd, hrows⟩ := h
  obtain ⟨l, h1, h2, h3, h4⟩ := sents [("belvedere/api.ErrType", t1), ("belvedere/api.ErrArity", t5)] r ps hv hnd hrows (by
    intro x hx
    simp only [List.mem_cons, List.not_mem_nil, or_false] at hx
    rcases hx with rfl | rfl
    · exact ⟨1, by kernel_rfl, by kernel_rfl⟩
    · exact ⟨0, by kernel_rfl, by kernel_rfl⟩)
  have hl : l.length = 2 := h1
  refine ⟨l[0], l[1], ?_, ?_⟩
  · have := World.var?_cell (show Tryd.prog.globalNamed "belvedere/api.ErrType" = some 1 by kernel_rfl) (h4 0 (by simp) (by omega)) 0
    have t : W.cell? ⟨1, 0, none⟩ = some (errV l[0]) := by simpa using this
    exact t
  · have := World.var?_cell (show Tryd.prog.globalNamed "belvedere/api.ErrArity" = some 0 by kernel_rfl) (h4 1 (by simp) (by omega)) 0
    have t : W.cell? ⟨0, 0, none⟩ = some (errV l[1]) := by simpa using this
    exact t
end Go.Proofs.YtihijfbbmenbnaaDoor
