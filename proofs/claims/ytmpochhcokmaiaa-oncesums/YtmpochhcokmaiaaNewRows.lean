/- Rows and entries that are newly made. -/
import Derived.Test.YtmpochhcokmaiaaZSum
namespace Go.Proofs.Ytmpochhcokmaiaa
open Go.RowKit
set_option maxRecDepth 100000
theorem isZ_one (r : List Val) (k : Int) (h0 : k ≠ 0) : IsZ [(r, k)] := ⟨by simp [SortedZ], fun e he => by simp at he; rw [he]; exact h0⟩
theorem row_new (w : World) (k n : Int) (s : ByteArray) : RowIs (w.alloc (.cells #[.int .i64 k, .int .i64 n, .string s] 39)) (.slice (some ⟨w.heap.size, 0, none⟩) 1 1) [(k, n, s)] := by
  refine .inr ⟨w.heap.size, 0, 1, rfl, Nat.le_refl _, by unfold maxLen; omega, by simp, fun i hi => ?_⟩
  obtain rfl : i = 0 := by simp at hi; exact hi
  exact ⟨by rw [World.cell?_alloc_at _ _ _ _ rfl]; rfl, by rw [World.cell?_alloc_at _ _ _ _ rfl]; rfl, by rw [World.cell?_alloc_at _ _ _ _ rfl]; rfl⟩
theorem ents_one {w : World} {v : Value} {r : List Val} (h : RowIs w v r) (n : Int) : EntsIs (w.alloc (.cells #[v, .int .i64 n] 36)) (.slice (some ⟨w.heap.size, 0, none⟩) 1 1) [(r, n)] := by
  refine ⟨[(v, n)], .inr ⟨w.heap.size, 0, 1, rfl, Nat.le_refl _, by unfold maxLen; omega, by simp, fun i hi => ?_⟩, Reads.one (h.on one_box) n⟩
  obtain rfl : i = 0 := by simp at hi; exact hi
  exact ⟨by rw [World.cell?_alloc_at _ _ _ _ rfl]; rfl, by rw [World.cell?_alloc_at _ _ _ _ rfl]; rfl⟩
theorem ents_two {w : World} {v : Value} {r : List Val} (h : RowIs w v r) (n m : Int) : EntsIs (w.alloc (.cells #[v, .int .i64 n, v, .int .i64 m] 36)) (.slice (some ⟨w.heap.size, 0, none⟩) 2 2) [(r, n), (r, m)] := by
  refine ⟨[(v, n), (v, m)], .inr ⟨w.heap.size, 0, 2, rfl, Nat.le_refl _, by unfold maxLen; omega, by simp, fun i hi => ?_⟩, (Reads.one (h.on one_box) n).snoc (h.on one_box) m⟩
  obtain rfl | rfl : i = 0 ∨ i = 1 := by simp at hi; omega
  · exact ⟨by rw [World.cell?_alloc_at _ _ _ _ rfl]; rfl, by rw [World.cell?_alloc_at _ _ _ _ rfl]; rfl⟩
  · exact ⟨by rw [World.cell?_alloc_at _ _ _ _ rfl]; rfl, by rw [World.cell?_alloc_at _ _ _ _ rfl]; rfl⟩
end Go.Proofs.Ytmpochhcokmaiaa
