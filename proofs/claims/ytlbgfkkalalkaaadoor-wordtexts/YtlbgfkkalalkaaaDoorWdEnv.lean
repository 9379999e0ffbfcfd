/- What package word wants of the world; a word as a value. -/
import Derived.Test.YtlbgfkkalalkaaaDoorErrs
import Derived.Test.YtlbgfkkalalkaaaDoorShow
import Derived.Test.YtlbgfkkalalkaaaDoorWdKeys
namespace Go.Proofs.YtlbgfkkalalkaaaDoor
open Go.RowKit Go.Sort
set_option maxRecDepth 100000

/-- What the library wants, and what stands in the variable of its error. -/
def WdW (w : World) : Prop := Ready w ∧ (∃ a, w.cell? ⟨6, 0, none⟩ = some (errV a))
theorem WdW.on {w w' : World} (h : WdW w) (hb : Below w.heap.size w w') : WdW w' := by
  obtain ⟨h1, b, h3⟩ := h
  exact ⟨h1.on hb, b, cell_on h3 hb⟩
/-- A word as it is handed out: its place is told later. -/
def wdV (p : Int) (x : Wd) : Value := .agg #[.int .i64 x.k, .int .i64 p, .string ⟨x.t.toArray⟩, .int .i64 x.n]
def noWd : Wd := ⟨0, [], 0, 0⟩
def wdA (x : Option Wd) : Ending := .returned (.tuple #[wdV 0 (x.getD noWd), .int .i64 ((x.getD noWd).z : Nat)])
theorem ext_take (s : ByteArray) (k : Nat) : s.extract 0 k = ⟨(s.data.toList.take k).toArray⟩ := by rw [Lib.extract_eq]; simp
theorem ext_drop (s : ByteArray) (k : Nat) : s.extract k s.size = ⟨(s.data.toList.drop k).toArray⟩ := by
  rw [Lib.extract_eq, List.take_of_length_le (by rw [List.length_drop, Lib.size_eq]; exact Nat.le_refl _)]
/-- The box of the word that is handed out, behind a call. -/
theorem wbox {w w1 : World} {a b c d : Value} {t : TypeId} (hb : Below (w.heap.size + 1) (w.alloc (.cells #[a, b, c, d] t)) w1) :
    w1.cell? ⟨w.heap.size, 0, none⟩ = some a ∧ w1.cell? ⟨w.heap.size, 1, none⟩ = some b ∧ w1.cell? ⟨w.heap.size, 2, none⟩ = some c ∧ w1.cell? ⟨w.heap.size, 3, none⟩ = some d ∧ w1.frozen? ⟨w.heap.size, 0, none⟩ = false ∧ w1.frozen? ⟨w.heap.size, 1, none⟩ = false ∧ w1.frozen? ⟨w.heap.size, 2, none⟩ = false ∧ w1.frozen? ⟨w.heap.size, 3, none⟩ = false := by
  have h : ∀ o, w1.cell? ⟨w.heap.size, o, none⟩ = (w.alloc (.cells #[a, b, c, d] t)).cell? ⟨w.heap.size, o, none⟩ := fun o => hb.cell (p := ⟨w.heap.size, o, none⟩) (by simp)
  have g : ∀ o, w1.frozen? ⟨w.heap.size, o, none⟩ = (w.alloc (.cells #[a, b, c, d] t)).frozen? ⟨w.heap.size, o, none⟩ := fun o => hb.frozen (p := ⟨w.heap.size, o, none⟩) (by simp)
  refine ⟨?_, ?_, ?_, ?_, ?_, ?_, ?_, ?_⟩
  · rw [h, World.cell?_alloc_at _ _ _ _ rfl]; rfl
  · rw [h, World.cell?_alloc_at _ _ _ _ rfl]; rfl
  · rw [h, World.cell?_alloc_at _ _ _ _ rfl]; rfl
  · rw [h, World.cell?_alloc_at _ _ _ _ rfl]; rfl
  · rw [g]; simp [go_sem]
  · rw [g]; simp [go_sem]
  · rw [g]; simp [go_sem]
  · rw [g]; simp [go_sem]
theorem wbox_put {w w1 : World} {o : Obj} (hb : Below (w.heap.size + 1) (w.alloc o) w1) (x0 x1 x2 x3 : Value) :
    Below w.heap.size w ((((w1.setCell ⟨w.heap.size, 0, none⟩ x0).setCell ⟨w.heap.size, 1, none⟩ x1).setCell ⟨w.heap.size, 2, none⟩ x2).setCell ⟨w.heap.size, 3, none⟩ x3) :=
  ((((one_box.trans (hb.mono (by simp))).setCell (Nat.le_refl _) x0).setCell (Nat.le_refl _) x1).setCell (Nat.le_refl _) x2).setCell (Nat.le_refl _) x3
end Go.Proofs.YtlbgfkkalalkaaaDoor
