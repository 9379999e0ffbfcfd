/- Two z-sets row by row, plainly; what a list in order comes to. -/
import Derived.Test.YtmpochhcokmaiaaDoorZPlain
namespace Go.Proofs.YtmpochhcokmaiaaDoor
set_option maxRecDepth 100000

def fE (f : Int → Int) (e : Ent) : Ent := (e.1, f e.2)
/-- One row of a list, and what comes of those behind it. -/
def mrgI (f : Int → Int) (x : Ent) (k : List Ent → List Ent) : List Ent → List Ent
  | [] => x :: k []
  | y :: m => if cR x.1 y.1 < 0 then x :: k (y :: m) else if cR x.1 y.1 = 0 then (x.1, x.2 + f y.2) :: k m else (y.1, f y.2) :: mrgI f x k m
/-- Two lists in order as one, each row of both once. -/
def mrg (f : Int → Int) : List Ent → List Ent → List Ent
  | [], m => m.map (fE f)
  | x :: l, m => mrgI f x (mrg f l) m
theorem mrg_nil (f : Int → Int) (m : List Ent) : mrg f [] m = m.map (fE f) := rfl
theorem mrg_nil' (f : Int → Int) : ∀ l : List Ent, mrg f l [] = l
  | [] => rfl
  | x :: l => by show x :: mrg f l [] = x :: l; rw [mrg_nil' f l]
theorem mrg_cons (f : Int → Int) (x y : Ent) (l m : List Ent) : mrg f (x :: l) (y :: m) = if cR x.1 y.1 < 0 then x :: mrg f l (y :: m) else if cR x.1 y.1 = 0 then (x.1, x.2 + f y.2) :: mrg f l m else (y.1, f y.2) :: mrg f (x :: l) m := rfl
theorem wt_mrg (f : Int → Int) (r : List Val) : ∀ (k : Nat) (l m : List Ent), l.length + m.length ≤ k → wt r (mrg f l m) = wt r l + wt r (m.map (fE f))
  | _, [], m, _ => by rw [mrg_nil]; simp [wt]
  | _, x :: l, [], _ => by rw [mrg_nil']; simp [wt]
  | 0, x :: l, y :: m, h => by simp at h
  | k + 1, x :: l, y :: m, h => by
    simp only [List.length_cons] at h
    rw [mrg_cons]
    split
    · have := wt_mrg f r k l (y :: m) (by simp; omega)
      simp only [wt, List.map_cons] at this ⊢; rw [this]; omega
    · split
      · rename_i _ h0
        have e := (cR_zero _ _).1 h0
        have := wt_mrg f r k l m (by omega)
        simp only [wt, List.map_cons, fE] at this ⊢; rw [this, ← e]; split <;> omega
      · have := wt_mrg f r k (x :: l) m (by simp; omega)
        simp only [wt, List.map_cons, fE] at this ⊢; rw [this]; omega
theorem mem_mrg (f : Int → Int) : ∀ (k : Nat) (l m : List Ent), l.length + m.length ≤ k → ∀ e ∈ mrg f l m, (∃ x ∈ l, x.1 = e.1) ∨ ∃ y ∈ m, y.1 = e.1
  | _, [], m, _, e, h => by
    rw [mrg_nil] at h
    obtain ⟨y, hy, rfl⟩ := List.mem_map.1 h
    exact .inr ⟨y, hy, rfl⟩
  | _, x :: l, [], _, e, h => by rw [mrg_nil'] at h; exact .inl ⟨e, h, rfl⟩
  | 0, x :: l, y :: m, h, _, _ => by simp at h
  | k + 1, x :: l, y :: m, h, e, he => by
    simp only [List.length_cons] at h
    rw [mrg_cons] at he
    have pl : ∀ {e : Ent}, (∃ z ∈ l, z.1 = e.1) → ∃ z ∈ x :: l, z.1 = e.1 := fun ⟨z, h1, h2⟩ => ⟨z, by simp [h1], h2⟩
    have pm : ∀ {e : Ent}, (∃ z ∈ m, z.1 = e.1) → ∃ z ∈ y :: m, z.1 = e.1 := fun ⟨z, h1, h2⟩ => ⟨z, by simp [h1], h2⟩
    split at he
    · rcases List.mem_cons.1 he with rfl | he
      · exact .inl ⟨e, by simp, rfl⟩
      · rcases mem_mrg f k l (y :: m) (by simp; omega) e he with h | h
        · exact .inl (pl h)
        · exact .inr h
    · split at he
      · rcases List.mem_cons.1 he with rfl | he
        · exact .inl ⟨x, by simp, rfl⟩
        · rcases mem_mrg f k l m (by omega) e he with h | h
          · exact .inl (pl h)
          · exact .inr (pm h)
      · rcases List.mem_cons.1 he with rfl | he
        · exact .inr ⟨y, by simp, rfl⟩
        · rcases mem_mrg f k (x :: l) m (by simp; omega) e he with h | h
          · exact .inl h
          · exact .inr (pm h)
theorem mrg_sorted (f : Int → Int) : ∀ (k : Nat) (l m : List Ent), l.length + m.length ≤ k → SortedZ l → SortedZ m → SortedZ (mrg f l m)
  | _, [], m, _, _, hm => by rw [mrg_nil]; exact List.pairwise_map.2 hm
  | _, x :: l, [], _, hl, _ => by rw [mrg_nil']; exact hl
  | 0, x :: l, y :: m, h, _, _ => by simp at h
  | k + 1, x :: l, y :: m, h, hl, hm => by
    simp only [List.length_cons] at h
    obtain ⟨l1, l2⟩ := List.pairwise_cons.1 hl
    obtain ⟨m1, m2⟩ := List.pairwise_cons.1 hm
    rw [mrg_cons]
    split
    · rename_i hlt
      refine List.pairwise_cons.2 ⟨fun e he => ?_, mrg_sorted f k l (y :: m) (by simp; omega) l2 hm⟩
      rcases mem_mrg f k l (y :: m) (by simp; omega) e he with ⟨z, h1, h2⟩ | ⟨z, h1, h2⟩
      · rw [← h2]; exact l1 z h1
      · rw [← h2]
        rcases List.mem_cons.1 h1 with rfl | h1
        · exact hlt
        · exact cR_lt_trans hlt (m1 z h1)
    · split
      · rename_i _ h0
        have e' := (cR_zero _ _).1 h0
        refine List.pairwise_cons.2 ⟨fun e he => ?_, mrg_sorted f k l m (by omega) l2 m2⟩
        rcases mem_mrg f k l m (by omega) e he with ⟨z, h1, h2⟩ | ⟨z, h1, h2⟩
        · rw [← h2]; exact l1 z h1
        · rw [← h2]; show cR x.1 z.1 < 0; rw [e']; exact m1 z h1
      · rename_i n1 n2
        have hlt : cR y.1 x.1 < 0 := by have := cR_anti x.1 y.1; omega
        refine List.pairwise_cons.2 ⟨fun e he => ?_, mrg_sorted f k (x :: l) m (by simp; omega) hl m2⟩
        rcases mem_mrg f k (x :: l) m (by simp; omega) e he with ⟨z, h1, h2⟩ | ⟨z, h1, h2⟩
        · rw [← h2]
          rcases List.mem_cons.1 h1 with rfl | h1
          · exact hlt
          · exact cR_lt_trans hlt (l1 z h1)
        · rw [← h2]; exact m1 z h1
/-- A list in order with the same weights: whether it may be, what it comes to. -/
theorem fits_of {g l : List Ent} (hs : SortedZ g) (hw : ∀ r, wt r g = wt r l) : fitsZ g = okZ l := by
  rw [Bool.eq_iff_iff, okZ_iff]
  unfold fitsZ
  rw [List.all_eq_true]
  constructor
  · intro h r
    rw [← hw r]
    by_cases h0 : wt r g = 0
    · rw [h0]; rfl
    · obtain ⟨e, he, rfl⟩ := mem_of_wt h0
      rw [wt_mem hs he]; exact h e he
  · intro h e he
    have := h e.1
    rw [← hw e.1, wt_mem hs he] at this
    exact this
theorem mk_of {g l : List Ent} (hs : SortedZ g) (hw : ∀ r, wt r g = wt r l) (hf : fitsZ g = true) : mkZ l = nzZ g :=
  mkZ_of (by rw [← fits_of hs hw]; exact hf) ⟨nzZ_sorted hs, nzZ_nz⟩ (fun r => by rw [wt_nzZ, hw])
theorem mk_bad {l : List Ent} (h : okZ l = false) : mkZ l = [] := by unfold mkZ; rw [h]; rfl
theorem fitsZ_append (p q : List Ent) : fitsZ (p ++ q) = (fitsZ p && fitsZ q) := by unfold fitsZ; rw [List.all_append]
theorem nzZ_append (p q : List Ent) : nzZ (p ++ q) = nzZ p ++ nzZ q := by unfold nzZ; rw [List.filter_append]
end Go.Proofs.YtmpochhcokmaiaaDoor
