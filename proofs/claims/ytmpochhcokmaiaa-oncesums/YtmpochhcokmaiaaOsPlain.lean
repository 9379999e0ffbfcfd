/- Each row once of two together, plainly. -/
import Derived.Test.YtmpochhcokmaiaaOncePlain
namespace Go.Proofs.Ytmpochhcokmaiaa
open Go.RowKit Go.Sort
set_option maxRecDepth 100000
set_option linter.unusedVariables false

theorem on_01 (r : List Val) {z : List Ent} (h : SortedZ z) : wt r (onZ z) = 0 ∨ wt r (onZ z) = 1 := by
  rw [wt_on r h]; split <;> simp
theorem on_S3 {B m n : Nat} {z : List Ent} (h : S3 B m n z) : S3 1 m n (onZ z) :=
  ⟨onZ_isZ h.1.1, fun r => by have := on_01 r h.1.1; omega, Nat.le_trans (onZ_len z) h.2.2.1, fun e he => by
    obtain ⟨_, x, hx, _, h2⟩ := onZ_mem he
    rw [← h2]; exact h.2.2.2 x hx⟩
theorem os_one {x y : List Ent} (hx : SortedZ x) (hy : SortedZ y) (ok : okZ (onZ x ++ onZ y) = true) {e : Ent} (he : e ∈ onZ (mkZ (onZ x ++ onZ y))) :
    e.2 = 1 ∧ ((gt e.1 (onZ x) = 1 ∧ gt e.1 (onZ y) = 0) ∨ (gt e.1 (onZ x) = 0 ∧ gt e.1 (onZ y) = 1) ∨ (gt e.1 (onZ x) = 1 ∧ gt e.1 (onZ y) = 1)) := by
  obtain ⟨h1, s, hs, h2, h3⟩ := onZ_mem he
  have h4 := wt_mem (mkZ_isZ _).1 hs
  rw [wt_mkZ ok, wt_append, h3] at h4
  rw [gt_wt (onZ_isZ hx).1, gt_wt (onZ_isZ hy).1]
  have := on_01 e.1 hx
  have := on_01 e.1 hy
  exact ⟨h1, by omega⟩
theorem os_len {x y : List Ent} (hx : SortedZ x) (hy : SortedZ y) (ok : okZ (onZ x ++ onZ y) = true) :
    (onZ (mkZ (onZ x ++ onZ y))).length = (mkZ (onZ x ++ onZ y)).length ∧ (onZ x).length ≤ (mkZ (onZ x ++ onZ y)).length ∧ (onZ y).length ≤ (mkZ (onZ x ++ onZ y)).length := by
  have hw : ∀ r, wt r (mkZ (onZ x ++ onZ y)) = wt r (onZ x) + wt r (onZ y) := fun r => by rw [wt_mkZ ok, wt_append]
  refine ⟨on_len fun e he => ?_, sub_lenZ (onZ_isZ hx).1 fun e he => ?_, sub_lenZ (onZ_isZ hy).1 fun e he => ?_⟩
  · have h1 := wt_mem (mkZ_isZ _).1 he
    have h2 := (mkZ_isZ _).2 e he
    rw [hw] at h1
    have := on_01 e.1 hx
    have := on_01 e.1 hy
    omega
  · rw [hw, wt_mem (onZ_isZ hx).1 he, (onZ_mem he).1]
    have := on_01 e.1 hy
    omega
  · rw [hw, wt_mem (onZ_isZ hy).1 he, (onZ_mem he).1]
    have := on_01 e.1 hx
    omega
end Go.Proofs.Ytmpochhcokmaiaa
