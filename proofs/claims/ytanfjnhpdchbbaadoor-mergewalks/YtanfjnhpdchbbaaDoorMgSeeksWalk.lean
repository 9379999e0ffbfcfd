/- The walk of the law that a cursor that is sent on tells the first one that is not less. -/
import Derived.Test.YtanfjnhpdchbbaaDoorMgLaw
import Derived.Test.YtanfjnhpdchbbaaDoorMgNew
import Derived.Test.YtanfjnhpdchbbaaDoorMgSeek
namespace Go.Proofs.YtanfjnhpdchbbaaDoor
open Go.RowKit Go.Sort
set_option maxRecDepth 100000
/-- A row of one number. -/
def rI (n : Int) : List Val := [(1, n, ⟨#[]⟩)]
theorem cR_rI {m n : Int} (h : m ≤ n) : cR (rI m) (rI n) ≤ 0 := by
  unfold rI
  simp only [cR, cVal, cV, cI]
  by_cases e : m = n
  · subst e; have := (cS_zero ⟨#[]⟩ ⟨#[]⟩).2 rfl; simp [this]
  · have : m < n := by omega
    simp [this]
/-- How many are less. -/
def LessTo (A : List Ent) (r : List Val) (k : Nat) : Prop := k ≤ A.length ∧ ∀ i (h : i < A.length), i < k → cR A[i].1 r < 0
theorem fromZ_drop {A : List Ent} (hs : SortedZ A) {r : List Val} {k : Nat} (h : LessTo A r k) (hn : ∀ h : k < A.length, ¬ cR A[k].1 r < 0) : fromZ r A = A.drop k := by
  have h2 : ∀ t (h : t < A.length), k ≤ t → 0 ≤ cR A[t].1 r := fun t ht hkt => by
    by_cases e : t = k
    · subst e; have := hn ht; omega
    · have h1 := List.pairwise_iff_getElem.1 hs k t (by omega) ht (by omega)
      have h3 := hn (by omega)
      by_cases hh : 0 ≤ cR A[t].1 r
      · exact hh
      · exact absurd (cR_lt_trans h1 (by omega)) h3
  exact (split_at (P := fun e => decide (0 ≤ cR e.1 r)) (fun t ht hkt => by have := h.2 t ht hkt; simp; omega) (fun t ht hkt => by have := h2 t ht hkt; simpa using this)).1
theorem fromZ_twice {A : List Ent} {r s : List Val} (h : cR s r ≤ 0) : fromZ s (fromZ r A) = fromZ r A := by
  unfold fromZ
  refine List.filter_eq_self.2 (fun e he => ?_)
  have h1 := (List.mem_filter.1 he).2
  simp only [decide_eq_true_eq] at h1 ⊢
  have := cR_anti e.1 r
  have h2 := cR_trans s r e.1 h (by omega)
  have := cR_anti s e.1
  omega
end Go.Proofs.YtanfjnhpdchbbaaDoor
