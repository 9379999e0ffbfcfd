/- What value.Compare, the document's CompareValues and SameValue answer, in whatever world: contracts for the laws of values. -/
import Derived.Test.YtmpochhcokmaiaaChecked
import Derived.WalkKit
import Derived.ProofKit
import Derived.WalkLawsBesides
import Derived.WalkSpells
import Derived.Outline
import Derived.Below
import Derived.Test.YtmpochhcokmaiaaPlain
namespace Go.Proofs.Ytmpochhcokmaiaa
open Go.RowKit

theorem retI {a b : Int} (h : a = b) : Ending.returned (.int .i64 a) = .returned (.int .i64 b) := by rw [h]
theorem retB {a b : Bool} (h : a = b) : Ending.returned (.bool a) = .returned (.bool b) := by rw [h]
theorem bcell {W w1 : World} (hb : Below W.heap.size W w1) : (∀ b o, b < W.heap.size → w1.cell? ⟨b, o, none⟩ = W.cell? ⟨b, o, none⟩) ∧ (∀ b o, b < W.heap.size → w1.frozen? ⟨b, o, none⟩ = W.frozen? ⟨b, o, none⟩) :=
  ⟨fun b o h => hb.cell (p := ⟨b, o, none⟩) h, fun b o h => hb.frozen (p := ⟨b, o, none⟩) h⟩

theorem two_boxes {w : World} {o p : Obj} : Below w.heap.size w ((w.alloc o).alloc p) :=
  ((Below.refl _ _).alloc (Nat.le_refl _) _).alloc (by simp) _
theorem one_box {w : World} {o : Obj} : Below w.heap.size w (w.alloc o) := (Below.refl _ _).alloc (Nat.le_refl _) _

/-- The two are one, as a Bool. -/
def sV (k n : Int) (s : ByteArray) (k' n' : Int) (s' : ByteArray) : Bool := k == k' && n == n' && s.toList == s'.toList
theorem sV_iff (k n : Int) (s : ByteArray) (k' n' : Int) (s' : ByteArray) : sV k n s k' n' s' = true ↔ k = k' ∧ n = n' ∧ s = s' := by
  unfold sV
  simp only [Bool.and_eq_true, beq_iff_eq, and_assoc]
  constructor
  · rintro ⟨a, b, c⟩; exact ⟨a, b, toList_inj c⟩
  · rintro ⟨rfl, rfl, rfl⟩; exact ⟨rfl, rfl, rfl⟩

end Go.Proofs.Ytmpochhcokmaiaa
