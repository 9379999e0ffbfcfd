/- Plain facts on a text whose signs ' are doubled, on decimal numerals, and on how values are written. -/
import Derived.Lib.Replace
import Derived.Lib.ReplaceLaws
import Derived.Lib.ItoaNum
import Derived.Lib.Small
namespace Go.Proofs.YtiphnbpkliglcaaDoor
open Go.Lib

/-- Each sign ' twice. -/
def dq : List UInt8 → List UInt8
  | [] => []
  | c :: l => if c = 39 then 39 :: 39 :: dq l else c :: dq l

theorem rk_other (N : List UInt8) (c : UInt8) (hc : c ≠ 39) (k : Nat) (l : List UInt8) : replaceK [39] N k (c :: l) = c :: replaceK [39] N k l := by
  cases k with
  | zero => rfl
  | succ k =>
    have hp : List.isPrefixOf [39] (c :: l) = false := by simp [List.isPrefixOf]; exact fun e => hc e.symm
    have hix : index (c :: l) [39] = if index l [39] == -1 then -1 else index l [39] + 1 := by rw [index, hp]; simp
    have hg := index_ge l [39]
    by_cases hm : index l [39] = -1
    · simp [replaceK, hix, hm]
    · obtain ⟨j, hj⟩ : ∃ j : Nat, index l [39] = j := ⟨(index l [39]).toNat, by omega⟩
      have hix' : index (c :: l) [39] = ((j + 1 : Nat) : Int) := by rw [hix, if_neg (fun e => hm (beq_iff_eq.1 e)), hj]; omega
      rw [replaceK_hit _ _ _ _ (j + 1) hix', replaceK_hit _ _ _ _ j hj]
      simp
theorem rk_sign (N : List UInt8) (k : Nat) (l : List UInt8) : replaceK [39] N (k + 1) (39 :: l) = N ++ replaceK [39] N k l := by
  have hix : index (39 :: l) [39] = ((0 : Nat) : Int) := by rw [index]; simp [List.isPrefixOf]
  rw [replaceK_hit _ _ _ _ 0 hix]; simp
theorem rk_dq : ∀ l : List UInt8, replaceK [39] [39, 39] (count l [39]) l = dq l
  | [] => by rw [count_miss (by simp [index])]; rfl
  | c :: l => by
    by_cases h : c = 39
    · subst h; rw [count_cons_eq, Nat.add_comm, rk_sign, rk_dq l]; simp [dq]
    · rw [count_cons_ne c 39 l h, rk_other _ c h, rk_dq l]; simp [dq, h]
theorem replaceAll_dq (l : List UInt8) : replaceAll l [39] [39, 39] = dq l := by
  unfold replaceAll replace replaceNum
  rw [if_neg (by decide), if_pos (Or.inl (by decide)), rk_dq]
theorem dq_len (l : List UInt8) : (dq l).length ≤ 2 * l.length := by
  induction l with
  | nil => simp [dq]
  | cons c l ih => unfold dq; split <;> simp <;> omega
end Go.Proofs.YtiphnbpkliglcaaDoor
