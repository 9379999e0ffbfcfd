/- Each row once, plainly. -/
import Derived.Test.YtmpochhcokmaiaaS3Plain
import Derived.Test.YtmpochhcokmaiaaZNeg
namespace Go.Proofs.Ytmpochhcokmaiaa
open Go.RowKit Go.Sort
set_option maxRecDepth 100000
set_option linter.unusedVariables false

/-- Each row whose weight is above 0, once. -/
def onZ (z : List Ent) : List Ent := (z.filter fun e => decide (0 < e.2)).map fun e => (e.1, 1)
theorem onZ_take {z : List Ent} {j : Nat} (h : j < z.length) : onZ (z.take (j + 1)) = onZ (z.take j) ++ if 0 < z[j].2 then [(z[j].1, 1)] else [] := by
  unfold onZ
  rw [List.take_succ_eq_append_getElem h, List.filter_append, List.map_append, List.filter_cons, List.filter_nil]
  by_cases h0 : 0 < z[j].2
  · rw [if_pos (by simpa using h0), if_pos h0]; rfl
  · rw [if_neg (by simpa using h0), if_neg h0]; rfl
theorem onZ_len (z : List Ent) : (onZ z).length ≤ z.length := by unfold onZ; rw [List.length_map]; exact List.length_filter_le _ _
theorem onZ_mem {z : List Ent} {e : Ent} (h : e ∈ onZ z) : e.2 = 1 ∧ ∃ x ∈ z, 0 < x.2 ∧ x.1 = e.1 := by
  obtain ⟨x, hx, rfl⟩ := List.mem_map.1 h
  obtain ⟨h1, h2⟩ := List.mem_filter.1 hx
  exact ⟨rfl, x, h1, by simpa using h2, rfl⟩
theorem onZ_isZ {z : List Ent} (h : SortedZ z) : IsZ (onZ z) := by
  refine ⟨?_, fun e he => by rw [(onZ_mem he).1]; decide⟩
  unfold onZ SortedZ
  rw [List.pairwise_map]
  exact List.Pairwise.sublist List.filter_sublist h
theorem wt_on (r : List Val) : ∀ {z : List Ent}, SortedZ z → wt r (onZ z) = if 0 < wt r z then 1 else 0
  | [], _ => by simp [onZ, wt]
  | e :: z, h => by
    obtain ⟨h1, h2⟩ := List.pairwise_cons.1 h
    have ih := wt_on r h2
    by_cases hr : e.1 = r
    · have hz : wt r z = 0 := wt_less (fun x hx => by rw [← hr]; exact h1 x hx)
      have e1 : wt r (e :: z) = e.2 := by simp only [wt]; rw [if_pos hr, hz]; omega
      rw [hz] at ih
      rw [e1]
      by_cases h0 : 0 < e.2
      · have e2 : onZ (e :: z) = (e.1, 1) :: onZ z := by unfold onZ; rw [List.filter_cons_of_pos (by simpa using h0)]; rfl
        rw [e2, if_pos h0]
        simp only [wt]
        rw [if_pos hr, ih]; rfl
      · have e2 : onZ (e :: z) = onZ z := by unfold onZ; rw [List.filter_cons_of_neg (by simpa using h0)]
        rw [e2, if_neg h0, ih]; rfl
    · have e1 : wt r (e :: z) = wt r z := by simp only [wt]; rw [if_neg hr]; omega
      rw [e1, ← ih]
      by_cases h0 : 0 < e.2
      · have e2 : onZ (e :: z) = (e.1, 1) :: onZ z := by unfold onZ; rw [List.filter_cons_of_pos (by simpa using h0)]; rfl
        rw [e2]
        simp only [wt]
        rw [if_neg hr]; omega
      · have e2 : onZ (e :: z) = onZ z := by unfold onZ; rw [List.filter_cons_of_neg (by simpa using h0)]
        rw [e2]
/-- What a change of z-sets changes of each row once. -/
def chP (a b : List Ent) : List Ent := onZ (mkZ (a ++ b)) ++ (onZ a).map ngE
def chZ (a b : List Ent) : List Ent := if okZ (a ++ b) then mkZ (chP a b) else []
theorem wt_ch (a b : List Ent) (ha : SortedZ a) (r : List Val) : wt r (chP a b) = (if 0 < wt r (mkZ (a ++ b)) then 1 else 0) - (if 0 < wt r a then 1 else 0) := by
  unfold chP
  rw [wt_append, wt_ng, wt_on r (mkZ_isZ _).1, wt_on r ha]; omega
theorem ch_ok (a b : List Ent) (ha : SortedZ a) : okZ (chP a b) = true := (okZ_iff _).2 fun r => by
  rw [wt_ch a b ha]
  exact inI_small (by split <;> split <;> omega)
theorem on_on {z : List Ent} (h : SortedZ z) : onZ (onZ z) = onZ z := by
  have h1 := onZ_isZ h
  refine z_uniq (onZ_isZ h1.1).1 h1.1 (onZ_isZ h1.1).2 h1.2 (fun r => ?_)
  rw [wt_on r h1.1, wt_on r h]
  by_cases h0 : 0 < wt r z
  · rw [if_pos h0]; rfl
  · rw [if_neg h0]; rfl
/-- The change, put to what was, is what is then. -/
theorem ch_put {a b : List Ent} (ha : SortedZ a) (hok : okZ (a ++ b) = true) : okZ (onZ a ++ chZ a b) = true ∧ mkZ (onZ a ++ chZ a b) = onZ (mkZ (a ++ b)) := by
  have hw : ∀ r, wt r (onZ a ++ chZ a b) = wt r (onZ (mkZ (a ++ b))) := fun r => by
    unfold chZ
    rw [if_pos hok, wt_append, wt_mkZ (ch_ok a b ha), wt_ch a b ha, wt_on r ha, wt_on r (mkZ_isZ _).1]; omega
  have ok : okZ (onZ a ++ chZ a b) = true := (okZ_iff _).2 fun r => by
    rw [hw, wt_on r (mkZ_isZ _).1]; split <;> rfl
  exact ⟨ok, mkZ_of ok (onZ_isZ (mkZ_isZ _).1) (fun r => (hw r).symm)⟩
theorem ch_one {a b : List Ent} (ha : SortedZ a) : ∀ e ∈ chZ a b, e.2 = 1 ∨ e.2 = -1 := by
  intro e he
  unfold chZ at he
  split at he
  · have h1 := wt_mem (mkZ_isZ _).1 he
    have h2 := (mkZ_isZ _).2 e he
    rw [wt_mkZ (ch_ok a b ha), wt_ch a b ha] at h1
    split at h1 <;> split at h1 <;> omega
  · cases he
theorem ch_rows {a b : List Ent} {n : Nat} (ha : ∀ e ∈ a, e.1.length = n) (hb : ∀ e ∈ b, e.1.length = n) : ∀ e ∈ chZ a b, e.1.length = n := by
  intro e he
  unfold chZ at he
  split at he
  · obtain ⟨x, hx, h1⟩ := mkZ_rows _ e he
    rw [← h1]
    unfold chP at hx
    rcases List.mem_append.1 hx with hx | hx
    · obtain ⟨_, y, hy, _, h2⟩ := onZ_mem hx
      obtain ⟨y', hy', h3⟩ := mkZ_rows _ y hy
      rw [← h2, ← h3]
      rcases List.mem_append.1 hy' with h | h
      · exact ha _ h
      · exact hb _ h
    · obtain ⟨y, hy, rfl⟩ := List.mem_map.1 hx
      obtain ⟨_, y', hy', _, h2⟩ := onZ_mem hy
      show y.1.length = n
      rw [← h2]; exact ha _ hy'
  · cases he
/-- Unlike rows that all stand in another list are no more than its. -/
theorem sub_len : ∀ (xs ys : List (List Val)), xs.Pairwise (· ≠ ·) → (∀ x ∈ xs, x ∈ ys) → xs.length ≤ ys.length
  | [], _, _, _ => Nat.zero_le _
  | x :: xs, ys, hp, hs => by
    obtain ⟨h1, h2⟩ := List.pairwise_cons.1 hp
    have hx := hs x (by simp)
    have := sub_len xs (ys.eraseP fun y => decide (y = x)) h2 (fun y hy => (List.mem_eraseP_of_neg (by simpa using fun e : y = x => h1 y hy e.symm)).2 (hs y (by simp [hy])))
    have hl := List.length_eraseP_of_mem (p := fun y => decide (y = x)) hx (by simp)
    have hpos : 0 < ys.length := List.length_pos_of_mem hx
    rw [List.length_cons]; omega
theorem sub_lenZ {y z : List Ent} (hy : SortedZ y) (hs : ∀ e ∈ y, wt e.1 z ≠ 0) : y.length ≤ z.length := by
  have := sub_len (y.map (·.1)) (z.map (·.1)) (List.pairwise_map.2 (hy.imp (fun {a b} hlt he => by rw [he, cR_self] at hlt; omega))) (fun r hr => by
    obtain ⟨e, he, rfl⟩ := List.mem_map.1 hr
    obtain ⟨x, hx, h1⟩ := mem_of_wt (hs e he)
    exact List.mem_map.2 ⟨x, hx, h1⟩)
  simpa using this
/-- All are above 0: each is there once. -/
theorem on_len {z : List Ent} (h : ∀ e ∈ z, 0 < e.2) : (onZ z).length = z.length := by
  unfold onZ
  rw [List.length_map, List.filter_eq_self.2 (fun e he => by simpa using h e he)]
end Go.Proofs.Ytmpochhcokmaiaa
