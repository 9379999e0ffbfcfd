/- The program's own errors, listed with their texts: what their variables hold, and that no two are one. -/
import Derived.Test.YtmpochhcokmaiaaDoorErrs
import Derived.LaidLaws
namespace Go.Proofs.YtmpochhcokmaiaaDoor
open Go.RowKit
set_option maxRecDepth 100000

/-- Errors as a row lists them: a name and a text each. -/
def sentL (l : List (String × List UInt8)) : List (String × DataW Unit) := l.map fun x => (x.1, .iface "*errors.errorString" (.ptr (.agg [.lit (.string x.2)])))
theorem err_star : "*" ++ "errors.errorString" = "*errors.errorString" := by decide
theorem err_name (u : TypeId) (h : Tryd.prog.typeName? 3 u = some "*errors.errorString") : u = 114 :=
  typeName_ptr_named (nm := "errors.errorString") (by rw [err_star]; kernel_rfl) (by kernel_rfl) (by decide) u (by rw [err_star]; exact h)
theorem sents {W : World} : ∀ (l : List (String × List UInt8)) (r : List (String × DataW Unit)) (ps : List MemPlace), DataW.LaidVars Tryd.prog W (sentL l ++ r) ps → ps.Nodup →
    (∀ b off, MemPlace.cell b off ∈ ps → (∃ c t, W.heap[b]? = some (.cells c t (0, 0))) ∧ ∀ u v, W.cell? ⟨b, off, none⟩ = some (.iface u v) → Value.okWide Tryd.prog W .any 0 u v) →
    (∀ x ∈ l, ∃ g, Tryd.prog.globalNamed x.1 = some g ∧ (Tryd.prog.globals[g]?).map (·.type) = some 30) →
    ∃ as' : List Addr, as'.length = l.length ∧ as'.Nodup ∧ (∀ a ∈ as', a.spot = none ∧ MemPlace.cell a.block a.off ∈ ps) ∧ ∀ i (h : i < l.length) (h' : i < as'.length), W.var? Tryd.prog l[i].1 = some #[errV as'[i]]
  | [], r, ps, _, _, _, _ => ⟨[], rfl, List.nodup_nil, (fun a h => by cases h), (fun i h => absurd h (Nat.not_lt_zero i))⟩
  | (n, text) :: l, r, ps, hv, hnd, hrows, hg => by
    obtain ⟨g0, t0, cs0, f0, p0, q0, hg0, ht0, hv0, hd0, hq, rfl⟩ := hv
    obtain ⟨g, e1, e2⟩ := hg (n, text) (by simp)
    obtain rfl := Option.some.inj (e1.symm.trans hg0)
    obtain rfl := Option.some.inj (e2.symm.trans ht0)
    obtain ⟨l0⟩ := cs0
    have ok0 : ∀ u v, l0 = [.iface u v] → Value.okWide Tryd.prog W .any 0 u v := fun u v e => by
      subst e
      exact (hrows g 0 (by simp [MemPlace.row])).2 u v (by simpa using World.var?_cell hg0 hv0 0)
    obtain ⟨a0, s0, rfl, hc0, hs0, hz0, rfl⟩ := errorString_of_trod Tryd.underlying30 err_name Tryd.underlying114 Tryd.underlying132 rfl rfl Tryd.underlying9 (by kernel_rfl) (by kernel_rfl) hd0 ok0
    obtain ⟨as', h1, h2, h3, h4⟩ := sents l r q0 hq (List.Nodup.sublist (List.sublist_append_right _ _) hnd) (fun b off hm => hrows b off (List.mem_append_right _ hm)) (fun x hx => hg x (by simp [hx]))
    have hspot := World.cell?_spot hc0
    refine ⟨a0 :: as', by simp [h1], ?_, ?_, ?_⟩
    · refine List.nodup_cons.2 ⟨fun hm => ?_, h2⟩
      have hin := (h3 a0 hm).2
      have hnd' := (List.nodup_append.1 hnd).2.2
      exact hnd' (.cell a0.block a0.off) (by simp [MemPlace.row]) (.cell a0.block a0.off) hin rfl
    · intro a ha
      rcases List.mem_cons.1 ha with rfl | ha
      · exact ⟨hspot, by simp [MemPlace.row]⟩
      · exact ⟨(h3 a ha).1, List.mem_append_right _ (h3 a ha).2⟩
    · intro i hi hi'
      cases i with
      | zero => exact hv0
      | succ i => exact h4 i (by simpa using hi) (by simpa using hi')

/-- The eleven names, in the order of their numbers. -/
def errL (t0 t1 t2 t3 t4 t5 t6 t7 t8 t9 t10 : List UInt8) : List (String × List UInt8) := [("belvedere/api.ErrText", t0), ("belvedere/api.ErrType", t1), ("belvedere/api.ErrName", t2), ("belvedere/api.ErrTwice", t3), ("belvedere/api.ErrUse", t4), ("belvedere/api.ErrArity", t5), ("belvedere/api.ErrOver", t6), ("belvedere/api.ErrFull", t7), ("belvedere/api.ErrPending", t8), ("belvedere/api.ErrNone", t9), ("belvedere/api.ErrLimit", t10)]
theorem errs_of {W : World} (t0 t1 t2 t3 t4 t5 t6 t7 t8 t9 t10 : List UInt8) (r : List (String × DataW Unit)) (h : laidMet Tryd.prog (sentL (errL t0 t1 t2 t3 t4 t5 t6 t7 t8 t9 t10) ++ r) W) : ∃ ad, ErrsAt ad W := by
  obtain ⟨ps, hv, hnd, hrows⟩ := h
  obtain ⟨l, h1, h2, h3, h4⟩ := sents (errL t0 t1 t2 t3 t4 t5 t6 t7 t8 t9 t10) r ps hv hnd hrows (by
    intro x hx
    simp only [errL, List.mem_cons, List.not_mem_nil, or_false] at hx
    rcases hx with rfl | rfl | rfl | rfl | rfl | rfl | rfl | rfl | rfl | rfl | rfl
    · exact ⟨1, by kernel_rfl, by kernel_rfl⟩
    · exact ⟨2, by kernel_rfl, by kernel_rfl⟩
    · exact ⟨3, by kernel_rfl, by kernel_rfl⟩
    · exact ⟨4, by kernel_rfl, by kernel_rfl⟩
    · exact ⟨5, by kernel_rfl, by kernel_rfl⟩
    · exact ⟨6, by kernel_rfl, by kernel_rfl⟩
    · exact ⟨0, by kernel_rfl, by kernel_rfl⟩
    · exact ⟨7, by kernel_rfl, by kernel_rfl⟩
    · exact ⟨8, by kernel_rfl, by kernel_rfl⟩
    · exact ⟨9, by kernel_rfl, by kernel_rfl⟩
    · exact ⟨10, by kernel_rfl, by kernel_rfl⟩)
  have hl : l.length = 11 := h1
  have gE : ∀ (i : Fin 11), i.val < l.length := fun i => by omega
  refine ⟨fun i => l[i.val]'(gE i), ?_, ?_, ?_, ?_, ?_, ?_, ?_, ?_, ?_, ?_, ?_, ?_, ?_⟩
  · intro i j e
    have hp := List.pairwise_iff_getElem.1 h2
    rcases Nat.lt_trichotomy i.val j.val with h | h | h
    · exact absurd e (hp i.val j.val (gE i) (gE j) h)
    · exact Fin.ext h
    · exact absurd e.symm (hp j.val i.val (gE j) (gE i) h)
  · intro i
    have hm := (h3 (l[i.val]'(gE i)) (List.getElem_mem _)).2
    exact (hrows _ _ hm).1
  · have := World.var?_cell (show Tryd.prog.globalNamed "belvedere/api.ErrText" = some 1 by kernel_rfl) (h4 0 (by simp [errL]) (by omega)) 0
    have t : W.cell? ⟨1, 0, none⟩ = some (errV l[0]) := by simpa using this
    exact t
  · have := World.var?_cell (show Tryd.prog.globalNamed "belvedere/api.ErrType" = some 2 by kernel_rfl) (h4 1 (by simp [errL]) (by omega)) 0
    have t : W.cell? ⟨2, 0, none⟩ = some (errV l[1]) := by simpa using this
    exact t
  · have := World.var?_cell (show Tryd.prog.globalNamed "belvedere/api.ErrName" = some 3 by kernel_rfl) (h4 2 (by simp [errL]) (by omega)) 0
    have t : W.cell? ⟨3, 0, none⟩ = some (errV l[2]) := by simpa using this
    exact t
  · have := World.var?_cell (show Tryd.prog.globalNamed "belvedere/api.ErrTwice" = some 4 by kernel_rfl) (h4 3 (by simp [errL]) (by omega)) 0
    have t : W.cell? ⟨4, 0, none⟩ = some (errV l[3]) := by simpa using this
    exact t
  · have := World.var?_cell (show Tryd.prog.globalNamed "belvedere/api.ErrUse" = some 5 by kernel_rfl) (h4 4 (by simp [errL]) (by omega)) 0
    have t : W.cell? ⟨5, 0, none⟩ = some (errV l[4]) := by simpa using this
    exact t
  · have := World.var?_cell (show Tryd.prog.globalNamed "belvedere/api.ErrArity" = some 6 by kernel_rfl) (h4 5 (by simp [errL]) (by omega)) 0
    have t : W.cell? ⟨6, 0, none⟩ = some (errV l[5]) := by simpa using this
    exact t
  · have := World.var?_cell (show Tryd.prog.globalNamed "belvedere/api.ErrOver" = some 0 by kernel_rfl) (h4 6 (by simp [errL]) (by omega)) 0
    have t : W.cell? ⟨0, 0, none⟩ = some (errV l[6]) := by simpa using this
    exact t
  · have := World.var?_cell (show Tryd.prog.globalNamed "belvedere/api.ErrFull" = some 7 by kernel_rfl) (h4 7 (by simp [errL]) (by omega)) 0
    have t : W.cell? ⟨7, 0, none⟩ = some (errV l[7]) := by simpa using this
    exact t
  · have := World.var?_cell (show Tryd.prog.globalNamed "belvedere/api.ErrPending" = some 8 by kernel_rfl) (h4 8 (by simp [errL]) (by omega)) 0
    have t : W.cell? ⟨8, 0, none⟩ = some (errV l[8]) := by simpa using this
    exact t
  · have := World.var?_cell (show Tryd.prog.globalNamed "belvedere/api.ErrNone" = some 9 by kernel_rfl) (h4 9 (by simp [errL]) (by omega)) 0
    have t : W.cell? ⟨9, 0, none⟩ = some (errV l[9]) := by simpa using this
    exact t
  · have := World.var?_cell (show Tryd.prog.globalNamed "belvedere/api.ErrLimit" = some 10 by kernel_rfl) (h4 10 (by simp [errL]) (by omega)) 0
    have t : W.cell? ⟨10, 0, none⟩ = some (errV l[10]) := by simpa using this
    exact t
end Go.Proofs.YtmpochhcokmaiaaDoor
