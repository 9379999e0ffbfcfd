/- Chosen rows, columns, two as one, plainly. -/
import Derived.Test.YtaccinophamgmaaDoorPackPlain
import Derived.Test.YtaccinophamgmaaDoorPackRow
namespace Go.Proofs.YtaccinophamgmaaDoor
set_option maxRecDepth 100000
set_option linter.unusedVariables false

/-- Those of which it holds. -/
def fltP (p : Pd) (z : List Ent) : List Ent := z.filter fun e => hd p e.1
theorem fltP_cons (p : Pd) (e : Ent) (z : List Ent) : fltP p (e :: z) = if hd p e.1 = true then e :: fltP p z else fltP p z := by
  unfold fltP; rw [List.filter_cons]
theorem wt_flt (p : Pd) (r : List Val) : ∀ z : List Ent, wt r (fltP p z) = if hd p r = true then wt r z else 0
  | [] => by simp [fltP, wt]
  | e :: z => by
    have ih := wt_flt p r z
    rw [fltP_cons]
    by_cases he : hd p e.1 = true
    · rw [if_pos he]
      simp only [wt]
      rw [ih]
      by_cases hr : e.1 = r
      · subst hr; rw [if_pos he, if_pos he]
      · rw [if_neg hr]; split <;> omega
    · rw [if_neg he, ih]
      simp only [wt]
      by_cases hr : e.1 = r
      · subst hr; rw [if_neg he, if_neg he]
      · rw [if_neg hr]; split <;> omega
theorem flt_isZ {p : Pd} {z : List Ent} (h : IsZ z) : IsZ (fltP p z) :=
  ⟨List.Pairwise.sublist List.filter_sublist h.1, fun e he => h.2 e (List.mem_filter.1 he).1⟩
theorem flt_mem {p : Pd} {z : List Ent} {e : Ent} (h : e ∈ fltP p z) : e ∈ z ∧ hd p e.1 = true := List.mem_filter.1 h
theorem flt_len (p : Pd) (z : List Ent) : (fltP p z).length ≤ z.length := List.length_filter_le _ _
theorem hd_and (p q : Pd) (r : List Val) : hd ⟨4, 0, 0, 0, nul, [p, q]⟩ r = (hd p r && hd q r) := by
  rw [hd_eq]; simp
theorem hd_not (p : Pd) (r : List Val) : hd ⟨6, 0, 0, 0, nul, [p]⟩ r = !hd p r := by
  rw [hd_eq]; simp [notB]
/-- One filter behind another one is both together. -/
theorem flt_flt (p q : Pd) (z : List Ent) : fltP p (fltP q z) = fltP ⟨4, 0, 0, 0, nul, [p, q]⟩ z := by
  unfold fltP
  rw [List.filter_filter]
  congr 1
  funext e
  rw [hd_and]
/-- Rows' weights, each by a number of the row's. -/
def lin (g : List Val → Int) : List Ent → Int
  | [] => 0
  | e :: l => e.2 * g e.1 + lin g l
theorem lin_ins (g : List Val → Int) (r : List Val) (k : Int) : ∀ z : List Ent, lin g (ins r k z) = lin g z + k * g r
  | [] => by simp [ins, lin]
  | x :: z => by
    unfold ins
    split
    · simp only [lin]; rw [lin_ins g r k z]; omega
    · split
      · rename_i h0
        have e := (cR_zero x.1 r).1 h0
        simp only [lin]
        rw [e, Int.add_mul]; omega
      · simp only [lin]; omega
theorem lin_fold (g : List Val → Int) : ∀ (l z : List Ent), lin g (l.foldl (fun z e => ins e.1 e.2 z) z) = lin g z + lin g l
  | [], z => by simp [lin]
  | e :: l, z => by
    rw [List.foldl_cons, lin_fold g l, lin_ins]; simp only [lin]; omega
theorem lin_gat (g : List Val → Int) (l : List Ent) : lin g (gat l) = lin g l := by
  unfold gat; rw [lin_fold]; simp [lin]
theorem lin_nz (g : List Val → Int) : ∀ z : List Ent, lin g (nzZ z) = lin g z
  | [] => rfl
  | e :: z => by
    have ih := lin_nz g z
    unfold nzZ at ih ⊢
    by_cases h : e.2 = 0
    · rw [List.filter_cons_of_neg (by simp [h])]; simp only [lin]; rw [ih, h]; omega
    · rw [List.filter_cons_of_pos (by simp [h])]; simp only [lin]; rw [ih]
/-- It hangs on the rows' weights alone. -/
theorem lin_same (g : List Val → Int) {l m : List Ent} (h : ∀ r, wt r l = wt r m) : lin g l = lin g m := by
  have e : nzZ (gat l) = nzZ (gat m) := z_uniq (nzZ_sorted (gat_sorted l)) (nzZ_sorted (gat_sorted m)) nzZ_nz nzZ_nz (fun r => by rw [wt_nzZ, wt_nzZ, wt_gat, wt_gat, h])
  rw [← lin_gat g l, ← lin_gat g m, ← lin_nz g (gat l), ← lin_nz g (gat m), e]
theorem lin_append (g : List Val → Int) : ∀ l m : List Ent, lin g (l ++ m) = lin g l + lin g m
  | [], m => by simp [lin]
  | e :: l, m => by simp only [List.cons_append, lin]; rw [lin_append g l m]; omega
/-- Each row's columns in its place. -/
def prjP (ks : List Int) (z : List Ent) : List Ent := z.map fun e => (pk e.1 ks, e.2)
def prjOk (ks : List Int) (z : List Ent) : Bool := z.all fun e => allIn e.1 ks
theorem wt_prj (ks : List Int) (r : List Val) : ∀ z : List Ent, wt r (prjP ks z) = lin (fun s => if pk s ks = r then 1 else 0) z
  | [] => rfl
  | e :: z => by
    have ih := wt_prj ks r z
    unfold prjP at ih ⊢
    rw [List.map_cons]
    simp only [wt, lin]
    rw [ih]
    split <;> simp
theorem wt_prj_same (ks : List Int) {l m : List Ent} (h : ∀ r, wt r l = wt r m) (r : List Val) : wt r (prjP ks l) = wt r (prjP ks m) := by
  rw [wt_prj, wt_prj]; exact lin_same _ h
theorem prj_append (ks : List Int) (l m : List Ent) : prjP ks (l ++ m) = prjP ks l ++ prjP ks m := by
  unfold prjP; rw [List.map_append]
theorem prj_len (ks : List Int) (l : List Ent) : (prjP ks l).length = l.length := by
  unfold prjP; rw [List.length_map]
/-- Columns of columns. -/
theorem pk_pk (r : List Val) (ks js : List Int) (h : allIn r ks = true) (h' : ∀ j ∈ js, 0 ≤ j ∧ j < (ks.length : Int)) : pk (pk r ks) js = pk r (js.map fun j => ks.getD j.toNat 0) ∧ allIn (pk r ks) js = true ∧ allIn r (js.map fun j => ks.getD j.toNat 0) = true := by
  have e : pk r ks = ks.map (atV r) := by unfold pk; rw [if_pos h]
  have a1 : allIn (ks.map (atV r)) js = true := by
    unfold allIn
    rw [List.all_eq_true]
    intro j hj
    have := h' j hj
    unfold inR
    simp only [List.length_map, Bool.and_eq_true, decide_eq_true_eq]
    exact this
  have a2 : allIn r (js.map fun j => ks.getD j.toNat 0) = true := by
    unfold allIn at h ⊢
    rw [List.all_eq_true] at h ⊢
    intro k hk
    obtain ⟨j, hj, rfl⟩ := List.mem_map.1 hk
    have := h' j hj
    have hl : j.toNat < ks.length := by omega
    refine h _ ?_
    rw [List.getD_eq_getElem?_getD, List.getElem?_eq_getElem hl]
    exact List.getElem_mem hl
  refine ⟨?_, by rw [e]; exact a1, a2⟩
  rw [e]
  unfold pk
  rw [if_pos a1, if_pos a2, List.map_map]
  apply List.map_congr_left
  intro j hj
  have := h' j hj
  have hl : j.toNat < ks.length := by omega
  simp only [Function.comp]
  unfold atV
  rw [List.getD_eq_getElem?_getD, List.getElem?_map, List.getElem?_eq_getElem hl]
  simp [List.getD_eq_getElem?_getD, hl]
/-- All columns in order are the row itself. -/
theorem pk_all3 (r : List Val) (h : r.length = 3) : pk r [0, 1, 2] = r ∧ allIn r [0, 1, 2] = true := by
  match r, h with
  | [a, b, c], _ => exact ⟨by rfl, by rfl⟩
/-- A sum over all rows. -/
def sumW : List Ent → Int
  | [] => 0
  | e :: l => e.2 + sumW l
theorem lin_one : ∀ l : List Ent, lin (fun _ => 1) l = sumW l
  | [] => rfl
  | e :: l => by simp only [lin, sumW]; rw [lin_one l]; omega
/-- No columns: one row that has none, all weights together. -/
theorem prj_none (z : List Ent) (r : List Val) : wt r (prjP [] z) = if r = [] then sumW z else 0 := by
  rw [wt_prj]
  by_cases h : r = []
  · subst h
    rw [if_pos rfl, ← lin_one]
    congr 1
  · rw [if_neg h]
    have : (fun s : List Val => if pk s [] = r then (1 : Int) else 0) = fun _ => 0 := by
      funext s
      rw [if_neg]
      intro e
      exact h e.symm
    rw [this]
    induction z with
    | nil => rfl
    | cons e z ih => simp only [lin]; rw [ih]; omega
end Go.Proofs.YtaccinophamgmaaDoor
