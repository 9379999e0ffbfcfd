/- Many z-sets as one, plainly: what the first row of all is, what is left behind it, what a cursor tells. -/
import Derived.Test.YtnjbpikhkccekaaDoorPackPlain
import Derived.Test.YtnjbpikhkccekaaDoorZDrop
namespace Go.Proofs.YtnjbpikhkccekaaDoor
open Go.RowKit
set_option maxRecDepth 100000
/-- Each list in order, none empty. -/
def InOrder (X : List QEnt) : Prop := ∀ x ∈ X, x.2 ≠ [] ∧ SortedZ x.2
theorem head_le {l : List Ent} (hs : SortedZ l) {e : Ent} (he : e ∈ l) : cR (hd l) e.1 ≤ 0 := by
  cases l with
  | nil => cases he
  | cons x l =>
    rcases List.mem_cons.1 he with rfl | he
    · show cR e.1 e.1 ≤ 0; rw [cR_self]; omega
    · have := (List.pairwise_cons.1 hs).1 e he
      show cR x.1 e.1 ≤ 0; omega
/-- Who is first is least of all. -/
theorem first_le {X : List QEnt} (ho : InOrder X) (hh : Heap (kf X) X.length) {e : Ent} (he : e ∈ flat X) : cR (kf X 0) e.1 ≤ 0 := by
  obtain ⟨x, hx, he⟩ := mem_flat.1 he
  obtain ⟨i, hi, rfl⟩ := List.getElem_of_mem hx
  have h1 := heap_root hh i hi
  have h2 := head_le (ho _ (List.getElem_mem hi)).2 he
  have e : kf X i = hd X[i].2 := by unfold kf; rw [List.getD_eq_getElem?_getD, List.getElem?_eq_getElem hi]; rfl
  rw [e] at h1
  exact cR_trans _ _ _ h1 h2
theorem first_lt {X : List QEnt} (ho : InOrder X) (hh : Heap (kf X) X.length) {r : List Val} (hr : cR r (kf X 0) < 0) {e : Ent} (he : e ∈ flat X) : cR r e.1 < 0 := by
  have h1 := first_le ho hh he
  rcases Int.lt_or_eq_of_le h1 with h2 | h2
  · exact cR_lt_trans hr h2
  · rw [← (cR_zero _ _).1 h2]; exact hr
/-- Without empty ones it is the same. -/
def nonE (X : List QEnt) : List QEnt := X.filter fun x => !x.2.isEmpty
theorem flat_nonE : ∀ X : List QEnt, flat (nonE X) = flat X
  | [] => rfl
  | x :: X => by
    unfold nonE
    by_cases h : x.2 = []
    · rw [List.filter_cons_of_neg (by simp [h]), flat_cons, h]; exact flat_nonE X
    · rw [List.filter_cons_of_pos (by simp [h]), flat_cons, flat_cons]; congr 1; exact flat_nonE X
theorem nonE_snoc (X : List QEnt) (x : QEnt) : nonE (X ++ [x]) = nonE X ++ (if x.2 = [] then [] else [x]) := by
  unfold nonE; rw [List.filter_append]
  by_cases h : x.2 = []
  · simp [h]
  · simp [h]
/-- What a cursor tells: rows whose weights come to something. -/
def wkZ (l : List Ent) : List Ent := (gat l).filter fun e => e.2 != 0 && inI e.2
def cutI (k : Int) : Int := if inI k then k else 0
theorem wkZ_isZ (l : List Ent) : IsZ (wkZ l) := ⟨List.Pairwise.sublist List.filter_sublist (gat_sorted l), fun e he => by have := (List.mem_filter.1 he).2; simp at this; exact this.1⟩
theorem wkZ_in (l : List Ent) : ∀ e ∈ wkZ l, inI e.2 = true := fun e he => by have := (List.mem_filter.1 he).2; simp at this; exact this.2
theorem wt_wk (r : List Val) : ∀ z : List Ent, SortedZ z → wt r (z.filter fun e => e.2 != 0 && inI e.2) = cutI (wt r z)
  | [], _ => rfl
  | e :: z, h => by
    obtain ⟨h1, h2⟩ := List.pairwise_cons.1 h
    have ih := wt_wk r z h2
    by_cases hr : e.1 = r
    · subst hr
      have hz : wt e.1 z = 0 := wt_less h1
      rw [wt_head h]
      by_cases hc : (e.2 != 0 && inI e.2) = true
      · rw [List.filter_cons_of_pos (by simpa using hc)]
        simp only [wt, if_true]; rw [ih, hz]
        have : inI e.2 = true := by simp at hc; exact hc.2
        unfold cutI; rw [this]; simp [inI]
      · rw [List.filter_cons_of_neg (by simpa using hc), ih, hz]
        unfold cutI
        by_cases h0 : e.2 = 0
        · rw [h0]
        · have : inI e.2 = false := by
            cases hi : inI e.2 with
            | false => rfl
            | true => exact absurd (by simp [h0, hi]) hc
          rw [this]; simp [inI]
    · have e1 : wt r (e :: z) = wt r z := by simp only [wt]; rw [if_neg hr]; omega
      rw [e1, ← ih]
      by_cases hc : (e.2 != 0 && inI e.2) = true
      · rw [List.filter_cons_of_pos (by simpa using hc)]; simp only [wt]; rw [if_neg hr]; omega
      · rw [List.filter_cons_of_neg (by simpa using hc)]
theorem wt_wkZ (r : List Val) (l : List Ent) : wt r (wkZ l) = cutI (wt r l) := by unfold wkZ; rw [wt_wk r _ (gat_sorted l), wt_gat]
theorem wkZ_of {l z : List Ent} (hz : IsZ z) (hw : ∀ r, wt r z = cutI (wt r l)) : wkZ l = z :=
  z_uniq (wkZ_isZ l).1 hz.1 (wkZ_isZ l).2 hz.2 (fun r => by rw [wt_wkZ, hw])
theorem wkZ_eq {l m : List Ent} (h : ∀ r, wt r l = wt r m) : wkZ l = wkZ m := wkZ_of (wkZ_isZ m) (fun r => by rw [wt_wkZ, h])
theorem wkZ_nil : wkZ [] = [] := rfl
/-- Rows of what a cursor tells are rows that came in. -/
theorem wkZ_rows {l : List Ent} {e : Ent} (he : e ∈ wkZ l) : ∃ x ∈ l, x.1 = e.1 := by
  have h1 := wt_mem (wkZ_isZ l).1 he
  rw [wt_wkZ] at h1
  refine mem_of_wt (fun h0 => ?_)
  rw [h0] at h1
  exact (wkZ_isZ l).2 e he (by rw [← h1]; rfl)
/-- The first row's weight of all; what is left. -/
def firstZ (r : List Val) (k : Int) : List Ent := if inI k then nzZ [(r, k)] else []
theorem firstZ_cut (r : List Val) (k : Int) : firstZ r k = nzZ [(r, cutI k)] := by
  unfold firstZ cutI
  split
  · rfl
  · rfl
theorem wt_one (s r : List Val) (k : Int) : wt s [(r, k)] = if r = s then k else 0 := by simp [wt]
/-- What the first row leaves. -/
def Left (r : List Val) (l m : List Ent) : Prop := (∀ s, s ≠ r → wt s m = wt s l) ∧ (∀ e ∈ m, cR r e.1 < 0) ∧ (∀ e ∈ l, cR r e.1 ≤ 0) ∧ m.length < l.length
theorem Left.zero {r : List Val} {l m : List Ent} (h : Left r l m) : wt r m = 0 := wt_none (fun e he => by have := h.2.1 e he; intro e'; rw [e', cR_self] at this; omega)
theorem wk_first {r : List Val} {l m : List Ent} (h : Left r l m) : wkZ l = firstZ r (wt r l) ++ wkZ m := by
  refine wkZ_of ⟨?_, ?_⟩ (fun s => ?_)
  · refine List.pairwise_append.2 ⟨?_, (wkZ_isZ m).1, fun a ha b hb => ?_⟩
    · rw [firstZ_cut]; unfold nzZ; rw [List.filter_cons]; split <;> simp
    · rw [firstZ_cut] at ha
      have : a = (r, cutI (wt r l)) := by have := (List.mem_filter.1 ha).1; simpa using this
      rw [this]
      obtain ⟨x, hx, e⟩ := wkZ_rows hb
      rw [← e]; exact h.2.1 x hx
  · intro e he
    rcases List.mem_append.1 he with h1 | h1
    · rw [firstZ_cut] at h1; exact nzZ_nz e h1
    · exact (wkZ_isZ m).2 e h1
  · rw [wt_append, firstZ_cut, wt_nzZ, wt_one, wt_wkZ]
    by_cases e : r = s
    · subst e; rw [if_pos rfl, h.zero]; simp [cutI, inI]
    · rw [if_neg e, h.1 s (fun e' => e e'.symm)]; omega
/-- Rows that are not ahead of one. -/
def fromZ (r : List Val) (l : List Ent) : List Ent := l.filter fun e => decide (0 ≤ cR e.1 r)
theorem wt_from (s r : List Val) : ∀ l : List Ent, wt s (fromZ r l) = if cR s r < 0 then 0 else wt s l
  | [] => by simp [fromZ, wt]
  | e :: l => by
    have ih := wt_from s r l
    unfold fromZ at ih ⊢
    by_cases h : 0 ≤ cR e.1 r
    · rw [List.filter_cons_of_pos (by simpa using h)]; simp only [wt]; rw [ih]
      by_cases hs : cR s r < 0
      · rw [if_pos hs, if_pos hs, if_neg (fun e' => by rw [e'] at h; omega)]; rfl
      · rw [if_neg hs, if_neg hs]
    · rw [List.filter_cons_of_neg (by simpa using h), ih]
      by_cases hs : cR s r < 0
      · rw [if_pos hs, if_pos hs]
      · rw [if_neg hs, if_neg hs]; simp only [wt]; rw [if_neg (fun e' => by rw [e'] at h; omega)]; omega
theorem wk_from {r : List Val} {l m : List Ent} (h : ∀ s, wt s m = if cR s r < 0 then 0 else wt s l) : wkZ m = fromZ r (wkZ l) := by
  refine wkZ_of ⟨List.Pairwise.sublist List.filter_sublist (wkZ_isZ l).1, fun e he => (wkZ_isZ l).2 e (List.mem_filter.1 he).1⟩ (fun s => ?_)
  rw [wt_from, wt_wkZ, h]
  split
  · rfl
  · rfl
/-- All so far: what has been summed, and what is left. -/
def SumTo (l S m : List Ent) : Prop := IsZ S ∧ (∀ e ∈ S, inI e.2 = true) ∧ (∀ e ∈ S, ∀ f ∈ m, cR e.1 f.1 < 0) ∧ ∀ s, wt s S + wt s m = wt s l
theorem SumTo.start (l : List Ent) : SumTo l [] l := ⟨⟨List.Pairwise.nil, fun e h => by cases h⟩, fun e h => (by cases h), fun e h => (by cases h), fun s => by simp [wt]⟩
theorem SumTo.fin {l S : List Ent} (h : SumTo l S []) : okZ l = true ∧ mkZ l = S := by
  have hw : ∀ r, wt r S = wt r l := fun r => by have := h.2.2.2 r; simp only [wt] at this; omega
  have ho : okZ l = true := (okZ_iff l).2 (fun r => by
    rw [← hw]
    by_cases h0 : wt r S = 0
    · rw [h0]; rfl
    · obtain ⟨e, he, rfl⟩ := mem_of_wt h0
      rw [wt_mem h.1.1 he]; exact h.2.1 e he)
  exact ⟨ho, mkZ_of ho h.1 hw⟩
theorem SumTo.gone {l S m : List Ent} (h : SumTo l S m) {r : List Val} (hr : ∃ e ∈ m, e.1 = r) : wt r S = 0 := by
  obtain ⟨f, hf, rfl⟩ := hr
  exact wt_none (fun e he e' => by have := h.2.2.1 e he f hf; rw [e', cR_self] at this; omega)
theorem SumTo.over {l S m : List Ent} (h : SumTo l S m) {r : List Val} (hr : ∃ e ∈ m, e.1 = r) (hk : inI (wt r m) = false) : okZ l = false := by
  cases ho : okZ l with
  | false => rfl
  | true =>
    have := (okZ_iff l).1 ho r
    rw [← h.2.2.2 r, h.gone hr, Int.zero_add, hk] at this
    cases this
theorem SumTo.step {l S m n : List Ent} (h : SumTo l S m) {r : List Val} (hr : ∃ e ∈ m, e.1 = r) (hl : Left r m n) (hs : ∀ e ∈ n, ∃ x ∈ m, x.1 = e.1) (hk : inI (wt r m) = true) : SumTo l (S ++ firstZ r (wt r m)) n := by
  have hf : firstZ r (wt r m) = nzZ [(r, wt r m)] := by unfold firstZ; rw [if_pos hk]
  have hm : ∀ e ∈ firstZ r (wt r m), e = (r, wt r m) := fun e he => by rw [hf] at he; have := (List.mem_filter.1 he).1; simpa using this
  refine ⟨⟨List.pairwise_append.2 ⟨h.1.1, ?_, fun a ha b hb => ?_⟩, fun e he => ?_⟩, fun e he => ?_, fun e he f hf' => ?_, fun s => ?_⟩
  · rw [hf]; unfold nzZ; rw [List.filter_cons]; split <;> simp
  · rw [hm b hb]
    obtain ⟨f, hf', rfl⟩ := hr
    exact h.2.2.1 a ha f hf'
  · rcases List.mem_append.1 he with he | he
    · exact h.1.2 e he
    · rw [hf] at he; exact nzZ_nz e he
  · rcases List.mem_append.1 he with he | he
    · exact h.2.1 e he
    · rw [hm e he]; exact hk
  · rcases List.mem_append.1 he with he | he
    · obtain ⟨x, hx, e'⟩ := hs f hf'
      rw [← e']; exact h.2.2.1 e he x hx
    · rw [hm e he]; exact hl.2.1 f hf'
  · rw [wt_append, hf, wt_nzZ, wt_one]
    by_cases e : r = s
    · subst e; rw [if_pos rfl, hl.zero]; have := h.2.2.2 r; omega
    · rw [if_neg e, hl.1 s (fun e' => e e'.symm)]; have := h.2.2.2 s; omega
end Go.Proofs.YtnjbpikhkccekaaDoor
