/- Projections of small z-sets, plainly: what the law of the picked columns speaks of. -/
import Derived.Test.YtaccinophamgmaaDoorLnSums
namespace Go.Proofs.YtaccinophamgmaaDoor
open Go.RowKit Go.Sort
set_option maxRecDepth 100000

theorem prjP_self {z : List Ent} (h : ∀ e ∈ z, e.1.length = 3) : prjP [0, 1, 2] z = z := by
  unfold prjP
  conv => rhs; rw [← List.map_id z]
  exact List.map_congr_left (fun e he => by rw [(pk_all3 e.1 (h e he)).1]; rfl)
theorem prj_self {B m : Nat} {z : List Ent} (h : S3 B m 3 z) (hB : B * m ≤ 1000000) : prjZ [0, 1, 2] z = z := by
  have c := h.prj (ks := [0, 1, 2]) (by decide) hB
  refine s3_eq c.2.2.1 h (fun r => ?_)
  rw [c.2.2.2, prjP_self h.2.2.2]
theorem prjP_twice {z : List Ent} (h : ∀ e ∈ z, e.1.length = 3) {c : Int} (hc : 0 ≤ c ∧ c < 3) : prjP [1] (prjP [c, c] z) = prjP [c] z := by
  unfold prjP
  rw [List.map_map]
  refine List.map_congr_left (fun e he => ?_)
  have ha : allIn e.1 [c, c] = true := by
    have := h e he
    unfold allIn; simp [inR]; omega
  have := (pk_pk e.1 [c, c] [1] ha (by simp)).1
  show (pk (pk e.1 [c, c]) [1], e.2) = (pk e.1 [c], e.2)
  rw [this]; rfl
theorem prj_twice {B m : Nat} {z : List Ent} (h : S3 B m 3 z) {c : Int} (hc : 0 ≤ c ∧ c < 3) (h1 : B * m * m ≤ 1000000) (h2 : B * m ≤ 1000000) : prjZ [1] (prjZ [c, c] z) = prjZ [c] z := by
  have k2 : ∀ k ∈ [c, c], 0 ≤ k ∧ k < ((3 : Nat) : Int) := by intro k hk; simp at hk; omega
  have k1 : ∀ k ∈ [c], 0 ≤ k ∧ k < ((3 : Nat) : Int) := by intro k hk; simp at hk; omega
  have a := h.prj k2 h2
  have b := a.2.2.1.prj (ks := [1]) (by intro k hk; simp at hk; subst hk; simp) h1
  have d := h.prj k1 h2
  refine s3_eq b.2.2.1 d.2.2.1 (fun r => ?_)
  rw [b.2.2.2, d.2.2.2, wt_prj_same [1] (m := prjP [c, c] z) a.2.2.2, prjP_twice h.2.2.2 hc]
theorem prj_out {B m : Nat} {z : List Ent} (h : S3 B m 3 z) (hz : z ≠ []) {o : Int} (ho : ¬ (0 ≤ o ∧ o < 3)) : prjOk [0, o] z = false := by
  obtain ⟨e, z', rfl⟩ := List.exists_cons_of_ne_nil hz
  have h3 := h.2.2.2 e (by simp)
  have : allIn e.1 [0, o] = false := by
    cases hh : allIn e.1 [0, o] with
    | false => rfl
    | true =>
      unfold allIn at hh
      simp [inR] at hh
      omega
  unfold prjOk
  simp [this]
theorem prj_no {B m : Nat} {z : List Ent} (h : S3 B m 3 z) (hB : B * m ≤ 1000000) : prjZ [] z = if sumW z = 0 then [] else [([], sumW z)] := by
  have c := h.prj (ks := []) (by simp) hB
  have e : ∀ r, wt r (prjZ [] z) = if r = [] then sumW z else 0 := fun r => by rw [c.2.2.2, prj_none]
  by_cases hs : sumW z = 0
  · rw [if_pos hs]
    refine z_uniq c.2.2.1.1.1 List.Pairwise.nil c.2.2.1.1.2 (by simp) (fun r => ?_)
    rw [e r, hs]; simp [wt]
  · rw [if_neg hs]
    refine z_uniq c.2.2.1.1.1 (List.pairwise_singleton _ _) c.2.2.1.1.2 (by simpa using hs) (fun r => ?_)
    rw [e r]
    by_cases hr : r = []
    · subst hr; simp [wt]
    · rw [if_neg hr]; simp [wt, Ne.symm hr]
theorem sumW_snoc : ∀ (l : List Ent) (e : Ent), sumW (l ++ [e]) = sumW l + e.2
  | [], e => by simp [sumW]
  | x :: l, e => by
    have := sumW_snoc l e
    simp only [List.cons_append, sumW]; omega
theorem sumW_take {z : List Ent} {j : Nat} (h : j < z.length) : sumW (z.take (j + 1)) = sumW (z.take j) + z[j].2 := by
  rw [List.take_succ_eq_append_getElem h, sumW_snoc]
theorem sumW_in {B m n : Nat} {z : List Ent} (h : S3 B m n z) (j : Nat) : -((B * m : Nat) : Int) ≤ sumW (z.take j) ∧ sumW (z.take j) ≤ ((B * m : Nat) : Int) := by
  have h1 := wt_within [] B (prjP [] (z.take j)) (fun e he => by
    obtain ⟨x, hx, rfl⟩ := List.mem_map.1 he
    exact h.small x (List.mem_of_mem_take hx))
  rw [prj_none, if_pos rfl, prj_len] at h1
  have h2 : B * (z.take j).length ≤ B * m := Nat.mul_le_mul_left B (Nat.le_trans (by rw [List.length_take]; omega) h.2.2.1)
  omega
end Go.Proofs.YtaccinophamgmaaDoor
