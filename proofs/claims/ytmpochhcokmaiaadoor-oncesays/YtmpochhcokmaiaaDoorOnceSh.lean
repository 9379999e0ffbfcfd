/- Those of a z-set whose rows a change has: with them alone the change is what it is with all. -/
import Derived.Test.YtmpochhcokmaiaaDoorOncePlain
import Derived.Test.YtmpochhcokmaiaaDoorOwns
import Derived.Test.YtmpochhcokmaiaaDoorZDrop
namespace Go.Proofs.YtmpochhcokmaiaaDoor
open Go.RowKit Go.Sort
set_option maxRecDepth 100000
set_option linter.unusedVariables false

/-- Those of a whose rows b has. -/
def shZ (a b : List Ent) : List Ent := (b.filter fun e => decide (wt e.1 a ≠ 0)).map fun e => (e.1, wt e.1 a)
theorem shZ_take {a b : List Ent} {j : Nat} (h : j < b.length) : shZ a (b.take (j + 1)) = shZ a (b.take j) ++ if wt b[j].1 a ≠ 0 then [(b[j].1, wt b[j].1 a)] else [] := by
  unfold shZ
  rw [List.take_succ_eq_append_getElem h, List.filter_append, List.map_append, List.filter_cons, List.filter_nil]
  by_cases h0 : wt b[j].1 a ≠ 0
  · rw [if_pos (by simpa using h0), if_pos h0]; rfl
  · rw [if_neg (by simpa using h0), if_neg h0]; rfl
theorem shZ_len (a b : List Ent) : (shZ a b).length ≤ b.length := by unfold shZ; rw [List.length_map]; exact List.length_filter_le _ _
theorem shZ_mem {a b : List Ent} {e : Ent} (h : e ∈ shZ a b) : e.2 = wt e.1 a ∧ e.2 ≠ 0 ∧ ∃ x ∈ b, x.1 = e.1 := by
  obtain ⟨x, hx, rfl⟩ := List.mem_map.1 h
  obtain ⟨h1, h2⟩ := List.mem_filter.1 hx
  exact ⟨rfl, by simpa using h2, x, h1, rfl⟩
theorem shZ_isZ {a b : List Ent} (h : SortedZ b) : IsZ (shZ a b) := by
  refine ⟨?_, fun e he => (shZ_mem he).2.1⟩
  unfold shZ SortedZ
  rw [List.pairwise_map]
  exact List.Pairwise.sublist List.filter_sublist h
theorem wt_sh {a b : List Ent} (h : SortedZ b) (r : List Val) (hr : ∃ e ∈ b, e.1 = r) : wt r (shZ a b) = wt r a := by
  obtain ⟨e, he, rfl⟩ := hr
  by_cases h0 : wt e.1 a = 0
  · rw [h0]
    refine wt_none (fun x hx hxe => ?_)
    have := shZ_mem hx
    rw [hxe, h0] at this
    exact this.2.1 this.1
  · have hm : (e.1, wt e.1 a) ∈ shZ a b := List.mem_map.2 ⟨e, List.mem_filter.2 ⟨he, by simpa using h0⟩, rfl⟩
    exact wt_mem (shZ_isZ h).1 hm
theorem wt_sh_not {a b : List Ent} (r : List Val) (hr : ∀ e ∈ b, e.1 ≠ r) : wt r (shZ a b) = 0 := wt_none (fun x hx => by
  obtain ⟨_, _, y, hy, h1⟩ := shZ_mem hx
  rw [← h1]; exact hr y hy)
theorem wt_inI {a : List Ent} (ha : SortedZ a) (hA : EOk a) (r : List Val) : inI (wt r a) = true := by
  by_cases h0 : wt r a = 0
  · rw [h0]; rfl
  · obtain ⟨e, he, rfl⟩ := mem_of_wt h0
    rw [wt_mem ha he]; exact (hA e he).1
theorem sh_eok {a b : List Ent} (ha : SortedZ a) (hA : EOk a) (hB : EOk b) : EOk (shZ a b) := fun e he => by
  obtain ⟨h1, _, x, hx, h2⟩ := shZ_mem he
  exact ⟨by rw [h1]; exact wt_inI ha hA _, by rw [← h2]; exact (hB x hx).2⟩
theorem has_row (b : List Ent) (r : List Val) : (∃ e ∈ b, e.1 = r) ∨ ∀ e ∈ b, e.1 ≠ r := by
  by_cases h : ∃ e ∈ b, e.1 = r
  · exact .inl h
  · exact .inr (fun e he h1 => h ⟨e, he, h1⟩)
theorem sh_ok {a b : List Ent} (ha : SortedZ a) (hA : EOk a) (hb : SortedZ b) : okZ (shZ a b ++ b) = okZ (a ++ b) := by
  rw [Bool.eq_iff_iff, okZ_iff, okZ_iff]
  refine ⟨fun h r => ?_, fun h r => ?_⟩
  · rcases has_row b r with hr | hr
    · have := h r
      rw [wt_append, wt_sh hb r hr] at this
      rw [wt_append]; exact this
    · rw [wt_append, wt_none hr, Int.add_zero]; exact wt_inI ha hA r
  · rcases has_row b r with hr | hr
    · have := h r
      rw [wt_append] at this
      rw [wt_append, wt_sh hb r hr]; exact this
    · rw [wt_append, wt_none hr, wt_sh_not r hr]; rfl
/-- The change is the same. -/
theorem sh_ch {a b : List Ent} (ha : SortedZ a) (hA : EOk a) (hb : SortedZ b) : chZ (shZ a b) b = chZ a b := by
  unfold chZ
  rw [sh_ok ha hA hb]
  split
  · rename_i hok
    have hs := (shZ_isZ (a := a) hb).1
    have hok' : okZ (shZ a b ++ b) = true := by rw [sh_ok ha hA hb]; exact hok
    refine mkZ_of (ch_ok _ _ hs) (mkZ_isZ _) (fun r => ?_)
    rw [wt_mkZ (ch_ok a b ha), wt_ch a b ha, wt_ch _ b hs, wt_mkZ hok, wt_mkZ hok', wt_append, wt_append]
    rcases has_row b r with hr | hr
    · rw [wt_sh hb r hr]
    · rw [wt_none hr, wt_sh_not r hr, Int.add_zero, Int.add_zero]; omega
  · rfl
end Go.Proofs.YtmpochhcokmaiaaDoor
