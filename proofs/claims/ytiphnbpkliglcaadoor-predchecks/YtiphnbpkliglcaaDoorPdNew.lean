/- Columns' kinds in a block of their own. -/
import Derived.Test.YtiphnbpkliglcaaDoorMakeRow
import Derived.Test.YtiphnbpkliglcaaDoorRefPick
namespace Go.Proofs.YtiphnbpkliglcaaDoor
open Go.RowKit
theorem ints_newP (w : World) (ks : List Int) (t : TypeId) (h : ks.length ≤ maxLen) (n : Nat) (hn : ks.length = n) : IntsIs (w.alloc (.cells (ks.map (Value.int .i64)).toArray t)) (.slice (some ⟨w.heap.size, 0, none⟩) n n) ks := by
  subst hn
  refine .inr ⟨w.heap.size, 0, _, rfl, Nat.le_refl _, h, by simp, fun i hi => ?_⟩
  rw [World.cell?_alloc_at _ _ _ _ (by simp)]
  simp [hi]
theorem cols_newP (w : World) (ks : List Int) (t : TypeId) : ColsAt w.heap.size ks (w.alloc (.cells (ks.map (Value.int .i64)).toArray t)) := by
  refine ⟨by simp, fun i hi => ?_⟩
  rw [World.cell?_alloc_at _ _ _ _ rfl]
  simp [hi]
theorem ColsAt.ints {C : Nat} {ks : List Int} {w : World} (h : ColsAt C ks w) (n : Nat) (hn : ks.length = n) (hm : n ≤ maxLen) : IntsIs w (.slice (some ⟨C, 0, none⟩) n n) ks := by
  subst hn
  exact .inr ⟨C, 0, _, rfl, Nat.le_refl _, hm, h.1, fun i hi => by rw [Nat.zero_add]; exact h.2 i hi⟩
end Go.Proofs.YtiphnbpkliglcaaDoor
