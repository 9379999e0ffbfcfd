/- What the document's own SameEntries, Get and CheckSet answer of entries in memory. -/
import Derived.Test.YtmpochhcokmaiaaZMem
import Derived.Test.YtmpochhcokmaiaaRefRow
import Derived.Test.YtmpochhcokmaiaaOn
import Derived.BigQuiet
namespace Go.Proofs.Ytmpochhcokmaiaa
open Go.RowKit Go.Sort
set_option maxRecDepth 100000

/-- Two entries are one; two lists are. -/
def sE (a b : Ent) : Bool := (a.2 == b.2) && sR a.1 b.1
theorem sE_iff (a b : Ent) : sE a b = true ↔ a = b := by
  unfold sE; rw [Bool.and_eq_true, beq_iff_eq, sR_iff]
  exact ⟨fun h => Prod.ext h.2 h.1, fun h => by subst h; exact ⟨rfl, rfl⟩⟩
def sEs (l m : List Ent) : Bool := decide (l = m)
/-- The weight of the first entry of that row. -/
def gt (r : List Val) : List Ent → Int
  | [] => 0
  | e :: l => if cR e.1 r = 0 then e.2 else gt r l
theorem gt_drop {r : List Val} {l : List Ent} {j : Nat} (h : j < l.length) : gt r (l.drop j) = if cR l[j].1 r = 0 then l[j].2 else gt r (l.drop (j + 1)) := by
  rw [List.drop_eq_getElem_cons h]; rfl
theorem gt_wt {r : List Val} : ∀ {z : List Ent}, SortedZ z → gt r z = wt r z
  | [], _ => rfl
  | e :: z, h => by
    obtain ⟨h1, h2⟩ := List.pairwise_cons.1 h
    unfold gt
    split
    · rename_i h0
      have e' := (cR_zero _ _).1 h0
      subst e'; exact (wt_head h).symm
    · rename_i h0
      simp only [wt]; rw [if_neg (fun e' => h0 ((cR_zero _ _).2 e')), gt_wt h2]; omega
set_option maxHeartbeats 1000000 in
theorem refGet (l : List Ent) (r : List Val) (va vb : Value) (w : World) (ha : EntsIs w va l) (hb : RowIs w vb r) :
    Calls Try.prog 8 #[va, vb] w fun e w' => e = .returned (.int .i64 (gt r l)) ∧ Below w.heap.size w w' := by
  obtain ⟨a0, cap, rfl⟩ := ha.form
  obtain ⟨b0, cap', rfl⟩ := hb.form
  have la := ha.le
  unfold maxLen at la
  have Ha : Hid (EntsIs w (.slice a0 l.length cap) l) := ha
  have Hb : Hid (RowIs w (.slice b0 r.length cap') r) := hb
  clear ha hb
  go_enter Try.func8, Try.ntmps8
  go_wp2_with fail
  go_loopw [5] (fun i wr => ∃ j : Nat, j ≤ l.length ∧ i = .int .i64 j ∧ Hid (gt r l = gt r (l.drop j)) ∧ Below w.heap.size w wr) (fun i _ => l.length - (intOf i).toNat)
  case atStart => exact ⟨0, by omega, rfl, rfl, Below.refl _ _⟩
  case round =>
    obtain ⟨j, hj1, rfl, hc, hB⟩ := hrel
    by_cases k1 : j < l.length
    · obtain ⟨b, o, a1, c1, rfl, x1, x2, x3⟩ := (Ha.out.on hB).at j k1
      have I1 : (j : Int) < (l.length : Int) := by omega
      have HS : Hid (gt r (l.drop j) = if cR l[j].1 r = 0 then l[j].2 else gt r (l.drop (j + 1))) := gt_drop k1
      have q : Hid (Calls Try.prog 13 #[.slice a1 l[j].1.length c1, .slice b0 r.length cap'] wr fun e w'' => e = .returned (.int .i64 (cR l[j].1 r)) ∧ Below wr.heap.size wr w'') := refCompareRows _ _ _ _ wr x3 (Hb.out.on hB)
      clear x3
      generalize cR l[j].1 r = c at *
      generalize l[j].1.length = n1 at *
      generalize l[j].2 = i1 at *
      go_wp2_with fail
      refine q.out.mono ?_
      rintro e w1 ⟨rfl, hb1⟩
      have hB1 : Below w.heap.size w w1 := hB.trans (hb1.mono hB.size)
      have y2 := cell_on x2 hb1
      clear hb1 q x1 x2
      by_cases e0 : c = 0
      · subst e0
        go_wp2_with fail
        go_ret
        exact ⟨retI (by rw [hc.out, HS.out]; simp), hB1⟩
      · have ee : (c == 0) = false := by simp [e0]
        have H2 : Hid (gt r l = gt r (l.drop (j + 1))) := by show _ = _; rw [hc.out, HS.out, if_neg e0]
        clear hc HS
        go_wp2_with fail
        go_roundw
        case rel => exact ⟨j + 1, by omega, by go_num, H2.out, hB1⟩
        case measure => simp [intOf]; omega
    · have I1 : ¬ (j : Int) < (l.length : Int) := by omega
      have E : Hid (gt r l = 0) := by show _ = _; rw [hc.out, List.drop_eq_nil_of_le (by omega)]; rfl
      clear hc
      go_wp2_with fail
      go_ret
      exact ⟨retI E.out.symm, hB⟩
/-- Is it a z-set? -/
def isZ (z : List Ent) : Bool := decide (z.Pairwise (fun a b => cR a.1 b.1 < 0) ∧ ∀ e ∈ z, e.2 ≠ 0)
theorem isZ_yes {z : List Ent} (h : IsZ z) : isZ z = true := decide_eq_true (show z.Pairwise (fun a b => cR a.1 b.1 < 0) ∧ ∀ e ∈ z, e.2 ≠ 0 from h)
theorem isZ_no {z : List Ent} (h : ¬ IsZ z) : isZ z = false := decide_eq_false (show ¬ (z.Pairwise (fun a b => cR a.1 b.1 < 0) ∧ ∀ e ∈ z, e.2 ≠ 0) from h)
def OkTo (z : List Ent) (j : Nat) : Prop := ∀ i (h : i < z.length), i < j → z[i].2 ≠ 0 ∧ (0 < i → cR (z[i - 1]'(by omega)).1 z[i].1 < 0)
theorem adj_sorted {z : List Ent} (h : ∀ i (h : i < z.length), 0 < i → cR (z[i - 1]'(by omega)).1 z[i].1 < 0) : SortedZ z := by
  refine List.pairwise_iff_getElem.2 fun i j hi hj hij => ?_
  obtain ⟨k, rfl⟩ : ∃ k, j = i + 1 + k := ⟨j - i - 1, by omega⟩
  clear hij
  induction k with
  | zero => exact h (i + 1) (by omega) (by omega)
  | succ k ih =>
    have h1 := ih (by omega)
    have h2 := h (i + 1 + k + 1) (by omega) (by omega)
    exact cR_lt_trans h1 h2
theorem OkTo.all {z : List Ent} (h : OkTo z z.length) : IsZ z :=
  ⟨adj_sorted fun i hi h0 => (h i hi hi).2 h0, fun e he => by obtain ⟨i, hi, rfl⟩ := List.getElem_of_mem he; exact (h i hi hi).1⟩
theorem IsZ.at {z : List Ent} (h : IsZ z) (i : Nat) (hi : i < z.length) : z[i].2 ≠ 0 ∧ (0 < i → cR (z[i - 1]'(by omega)).1 z[i].1 < 0) :=
  ⟨h.2 _ (List.getElem_mem hi), fun h0 => List.pairwise_iff_getElem.1 h.1 (i - 1) i (by omega) hi (by omega)⟩
end Go.Proofs.Ytmpochhcokmaiaa
