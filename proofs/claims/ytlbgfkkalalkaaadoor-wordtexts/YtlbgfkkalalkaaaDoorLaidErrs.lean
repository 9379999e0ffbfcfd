/- The program's own errors, listed with their texts: what their variables hold, and that no two are one. -/
import Derived.Test.YtlbgfkkalalkaaaDoorErrs
import Derived.LaidLaws
namespace Go.Proofs.YtlbgfkkalalkaaaDoor
open Go.RowKit
set_option maxRecDepth 100000

/-- Errors as a row lists them: a name and a text each. -/
def sentL (l : List (String × List UInt8)) : List (String × DataW Unit) := l.map fun x => (x.1, .iface "*errors.errorString" (.ptr (.agg [.lit (.string x.2)])))
theorem err_star : "*" ++ "errors.errorString" = "*errors.errorString" := by decide
theorem err_name (u : TypeId) (h : Tryd.prog.typeName? 3 u = some "*errors.errorString") : u = 99 :=
  typeName_ptr_named (nm := "errors.errorString") (by rw [err_star]; kernel_rfl) (by kernel_rfl) (by decide) u (by rw [err_star]; exact h)
theorem sents {W : World} : ∀ (l : List (String × List UInt8)) (r : List (String × DataW Unit)) (ps : List MemPlace), DataW.LaidVars Tryd.prog W (sentL l ++ r) ps → ps.Nodup →
    (∀ b off, MemPlace.cell b off ∈ ps → (∃ c t, W.heap[b]? = some (.cells c t (0, 0))) ∧ ∀ u v, W.cell? ⟨b, off, none⟩ = some (.iface u v) → Value.okWide Tryd.prog W .any 0 u v) →
    (∀ x ∈ l, ∃ g, Tryd.prog.globalNamed x.1 = some g ∧ (Tryd.prog.globals[g]?).map (·.type) = some 36) →
    ∃ as' : List Addr, as'.length = l.length ∧ as'.Nodup ∧ (∀ a ∈ as', a.spot = none ∧ MemPlace.cell a.block a.off ∈ ps) ∧ ∀ i (h : i < l.length) (h' : i < as'.length), W.var? Tryd.prog l[i].1 = some #[errV as'[i]]
  | [], r, ps, _, _, _, _ => ⟨[], rfl, List.nodup_nil, (fun a h => by cases h), (fun i h => absurd h (Nat.not_lt_zero i))⟩
  | (n, text) :: l, r, ps, hv, hnd, hrows, hg => by
    obtain ⟨g0, t0, cs0, f0, p0, q0, hg0, ht0, hv0, hd0, hq, rfl⟩ := hv
    obtain ⟨g, e1, e2⟩ := hg (n, text) (by simp)
    obtain rfl := Option.some.inj (e1.symm.trans hg0)
    obtain rfl := Option.some.inj (e2.symm.trans ht0)
    obtain ⟨l0⟩ := cs0
    have ok0 : ∀ u v, l0 = [.iface u v] → Value.okWide Tryd.prog W .any 0 u v := fun u v e => by
      subst e
      exact (hrows g 0 (by simp [MemPlace.row])).2 u v (by simpa using World.var?_cell hg0 hv0 0)
    obtain ⟨a0, s0, rfl, hc0, hs0, hz0, rfl⟩ := errorString_of_trod Tryd.underlying36 err_name Tryd.underlying99 Tryd.underlying101 rfl rfl Tryd.underlying9 (by kernel_rfl) (by kernel_rfl) hd0 ok0
    obtain ⟨as', h1, h2, h3, h4⟩ := sents l r q0 hq (List.Nodup.sublist (List.sublist_append_right _ _) hnd) (fun b off hm => hrows b off (List.mem_append_right _ hm)) (fun x hx => hg x (by simp [hx]))
    have hspot := World.cell?_spot hc0
    refine ⟨a0 :: as', by simp [h1], ?_, ?_, ?_⟩
    · refine List.nodup_cons.2 ⟨fun hm => ?_, h2⟩
      have hin := (h3 a0 hm).2
      have hnd' := (List.nodup_append.1 hnd).2.2
      exact hnd' (.cell a0.block a0.off) (by simp [MemPlace.row]) (.cell a0.block a0.off) hin rfl
    · intro a ha
      rcases List.mem_cons.1 ha with rfl | ha
      · exact ⟨hspot, by simp [MemPlace.row]⟩
      · exact ⟨(h3 a ha).1, List.mem_append_right _ (h3 a ha).2⟩
    · intro i hi hi'
      cases i with
      | zero => exact hv0
      | succ i => exact h4 i (by simpa using hi) (by simpa using hi')

end Go.Proofs.YtlbgfkkalalkaaaDoor
