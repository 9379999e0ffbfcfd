/- After, Upto and Range of a z-set in order, plainly: what the laws of layer 4 need. -/
import Derived.Test.YtjpgnohhgkalbaaSlRef
namespace Go.Proofs.Ytjpgnohhgkalbaa
open Go.RowKit
theorem cR_lt_of {a b r : List Val} (h1 : cR a b < 0) (h2 : 0 < cR a r) : 0 < cR b r := by
  have h3 := cR_anti a r
  have h4 := cR_anti r b
  have h5 := cR_anti a b
  -- otherwise b is up to r and r below a: then b is up to a
  by_cases h : 0 < cR b r
  · exact h
  · have := cR_trans b r a (by omega) (by omega)
    omega
/-- Up to a row, then behind it: all. -/
theorem upto_after : ∀ (z : List Ent) (r : List Val), SortedZ z → z.filter (upP true r) ++ z.filter (afP true r) = z
  | [], _, _ => rfl
  | e :: l, r, h => by
    obtain ⟨h1, h2⟩ := List.pairwise_cons.1 h
    by_cases hc : 0 < cR e.1 r
    · have hu : (e :: l).filter (upP true r) = [] := List.filter_eq_nil_iff.2 (fun x hx => by
        have : 0 < cR x.1 r := by
          rcases List.mem_cons.1 hx with rfl | hx
          · exact hc
          · exact cR_lt_of (h1 x hx) hc
        simp [upP]; omega)
      have ha : (e :: l).filter (afP true r) = e :: l := List.filter_eq_self.2 (fun x hx => by
        have : 0 < cR x.1 r := by
          rcases List.mem_cons.1 hx with rfl | hx
          · exact hc
          · exact cR_lt_of (h1 x hx) hc
        simp [afP]; omega)
      rw [hu, ha]; rfl
    · have e1 : upP true r e = true := by simp [upP]; omega
      have e2 : afP true r e = false := by simp [afP]; omega
      rw [List.filter_cons_of_pos e1, List.filter_cons_of_neg (by simp [e2]), List.cons_append, upto_after l r h2]
theorem sorted_lt {z : List Ent} (h : SortedZ z) {i j : Nat} (hij : i < j) (hj : j < z.length) : cR z[i].1 z[j].1 < 0 := List.pairwise_iff_getElem.1 h i j (by omega) hj hij
/-- Up to an entry of it: the first ones; behind it: the others. -/
theorem upto_at {z : List Ent} (h : SortedZ z) {p : Nat} (hp : p < z.length) : z.filter (upP true z[p].1) = z.take (p + 1) := by
  have hz : z.filter (upP true z[p].1) = (z.take (p + 1)).filter (upP true z[p].1) ++ (z.drop (p + 1)).filter (upP true z[p].1) := by rw [← List.filter_append, List.take_append_drop]
  have h1 : (z.take (p + 1)).filter (upP true z[p].1) = z.take (p + 1) := List.filter_eq_self.2 (fun x hx => by
    obtain ⟨i, hi, rfl⟩ := List.getElem_of_mem hx
    rw [List.length_take] at hi
    rw [List.getElem_take]
    have : cR z[i].1 z[p].1 ≤ 0 := by
      by_cases e : i = p
      · subst e; rw [cR_self]; omega
      · have := sorted_lt h (show i < p by omega) hp; omega
    simp [upP]; omega)
  have h2 : (z.drop (p + 1)).filter (upP true z[p].1) = [] := List.filter_eq_nil_iff.2 (fun x hx => by
    obtain ⟨i, hi, rfl⟩ := List.getElem_of_mem hx
    rw [List.length_drop] at hi
    rw [List.getElem_drop]
    have h3 := sorted_lt h (show p < p + 1 + i by omega) (by omega)
    have h4 := cR_anti z[p].1 z[p + 1 + i].1
    simp [upP]; omega)
  rw [hz, h1, h2, List.append_nil]
theorem after_at {z : List Ent} (h : SortedZ z) {p : Nat} (hp : p < z.length) : z.filter (afP true z[p].1) = z.drop (p + 1) := by
  have h1 := upto_after z z[p].1 h
  rw [upto_at h hp] at h1
  have h2 := List.take_append_drop (p + 1) z
  exact List.append_cancel_left (h1.trans h2.symm)
theorem afP_no (r : List Val) (z : List Ent) : z.filter (afP false r) = z := List.filter_eq_self.2 (fun e _ => by simp [afP])
theorem upto_no (r : List Val) (z : List Ent) : upto false r z = [] := by
  unfold upto; exact List.filter_eq_nil_iff.2 (fun e _ => by simp [upP])
theorem after_neg (any : Bool) (r : List Val) (z : List Ent) {n : Int} (h : n ≤ 0) : after any r z n = [] := by
  unfold after; rw [Int.toNat_of_nonpos h]; rfl
theorem after_len_no (r : List Val) (z : List Ent) (n : Int) (h : 0 ≤ n) : ((after false r z n).length : Int) = min n z.length := by
  unfold after; rw [afP_no, List.length_take]; omega
theorem range_self (r : List Val) (z : List Ent) : range r r z = [] := by
  unfold range; exact List.filter_eq_nil_iff.2 (fun e _ => by simp [rgP])
theorem range_mem {f t : List Val} {z : List Ent} {e : Ent} (h : e ∈ range f t z) : 0 ≤ cR e.1 f ∧ cR e.1 t < 0 := by
  have := (List.mem_filter.1 h).2
  simpa [rgP] using this
/-- Chunk by chunk: where 'p' are read, the next ones, and what is left behind each. -/
def readAt (z : List Ent) (p : Nat) : List Val := if h : 0 < p ∧ p ≤ z.length then (z[p - 1]'(by omega)).1 else []
theorem after_read {z : List Ent} (h : SortedZ z) {p : Nat} (hp : p ≤ z.length) : z.filter (afP (decide (0 < p)) (readAt z p)) = z.drop p := by
  by_cases h0 : 0 < p
  · have e : readAt z p = (z[p - 1]'(by omega)).1 := by unfold readAt; rw [dif_pos ⟨h0, hp⟩]
    rw [e, decide_eq_true h0, after_at h (by omega)]
    congr 1; omega
  · obtain rfl : p = 0 := by omega
    rw [decide_eq_false h0, afP_no]; rfl
theorem upto_read {z : List Ent} (h : SortedZ z) {p : Nat} (h0 : 0 < p) (hp : p ≤ z.length) : upto true (readAt z p) z = z.take p := by
  have e : readAt z p = (z[p - 1]'(by omega)).1 := by unfold readAt; rw [dif_pos ⟨h0, hp⟩]
  unfold upto
  rw [e, upto_at h (by omega)]
  congr 1; omega
end Go.Proofs.Ytjpgnohhgkalbaa
