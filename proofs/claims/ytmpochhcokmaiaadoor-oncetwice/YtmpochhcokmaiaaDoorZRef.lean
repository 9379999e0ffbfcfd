/- What the document's own SameEntries, Get and CheckSet answer of entries in memory. -/
import Derived.Test.YtmpochhcokmaiaaDoorZMem
import Derived.Test.YtmpochhcokmaiaaDoorRefRow
import Derived.Test.YtmpochhcokmaiaaDoorOn
import Derived.BigQuiet
namespace Go.Proofs.YtmpochhcokmaiaaDoor
open Go.RowKit Go.Sort
set_option maxRecDepth 100000

/-- Two entries are one; two lists are. -/
def sE (a b : Ent) : Bool := (a.2 == b.2) && sR a.1 b.1
theorem sE_iff (a b : Ent) : sE a b = true ↔ a = b := by
  unfold sE; rw [Bool.and_eq_true, beq_iff_eq, sR_iff]
  exact ⟨fun h => Prod.ext h.2 h.1, fun h => by subst h; exact ⟨rfl, rfl⟩⟩
def sEs (l m : List Ent) : Bool := decide (l = m)
set_option maxHeartbeats 1000000 in
theorem sameEntry (x y : Ent) (a0 b0 : Option Addr) (cap cap' : Nat) (w : World) (ha : RowIs w (.slice a0 x.1.length cap) x.1) (hb : RowIs w (.slice b0 y.1.length cap') y.1) :
    Calls Tryd.prog 28 #[.agg #[.slice a0 x.1.length cap, .int .i64 x.2], .agg #[.slice b0 y.1.length cap', .int .i64 y.2]] w fun e w' => e = .returned (.bool (sE x y)) ∧ Below w.heap.size w w' := by
  have q : Hid (∀ W, Below w.heap.size w W → Calls Tryd.prog 42 #[.slice a0 x.1.length cap, .slice b0 y.1.length cap'] W fun e w' => e = .returned (.bool (sR x.1 y.1)) ∧ Below W.heap.size W w') :=
    fun W hW => sameRow x.1 y.1 _ _ W (ha.on hW) (hb.on hW)
  unfold sE
  clear ha hb
  generalize sR x.1 y.1 = s at *
  generalize x.1.length = n at *
  generalize y.1.length = m at *
  generalize x.2 = i at *
  generalize y.2 = k at *
  by_cases e : i = k
  · subst e
    go_enter Tryd.func28, Tryd.ntmps28
    go_wp2_with fail
    refine (q.out _ below_two).mono ?_
    rintro e w1 ⟨rfl, hb1⟩
    have hB : Hid (Below w.heap.size w w1) := below_two.trans (hb1.mono (by simp; omega))
    clear hb1 q
    go_wp2_with fail
    go_ret
    exact ⟨by simp, hB.out⟩
  · have b1 : (i == k) = false := by simp [e]
    go_enter Tryd.func28, Tryd.ntmps28
    go_wp2_with fail
    go_ret
    exact ⟨by rw [b1]; rfl, below_two⟩

set_option maxHeartbeats 2000000 in
theorem sameEntries (l m : List Ent) (va vb : Value) (w : World) (ha : EntsIs w va l) (hb : EntsIs w vb m) :
    Calls Tryd.prog 12 #[va, vb] w fun e w' => e = .returned (.bool (sEs l m)) ∧ Below w.heap.size w w' := by
  obtain ⟨a0, cap, rfl⟩ := ha.form
  obtain ⟨b0, cap', rfl⟩ := hb.form
  have la := ha.le
  have lb := hb.le
  unfold maxLen at la lb
  have Ha : Hid (EntsIs w (.slice a0 l.length cap) l) := ha
  have Hb : Hid (EntsIs w (.slice b0 m.length cap') m) := hb
  clear ha hb
  by_cases hlen : l.length = m.length
  · have ee : ((l.length : Int) == (m.length : Int)) = true := by simp [hlen]
    have HL : Hid (l.length = m.length) := hlen
    have ge : m.length ≤ l.length ∧ l.length ≤ m.length := by omega
    clear hlen
    have hx : Hid (((l.length : Int) != (m.length : Int)) = false) := by show _ = _; simp [HL.out]
    go_enter Tryd.func12, Tryd.ntmps12
    go_wp2_with fail
    rw [hx.out]
    go_loopw [5] (fun i wr => ∃ j : Nat, j ≤ l.length ∧ i = .int .i64 j ∧ l.take j = m.take j ∧ Below w.heap.size w wr) (fun i _ => l.length - (intOf i).toNat)
    case atStart => exact ⟨0, by omega, rfl, rfl, Below.refl _ _⟩
    case round =>
      obtain ⟨j, hj1, rfl, hc, hB⟩ := hrel
      by_cases k1 : j < l.length
      · have k2 : j < m.length := by omega
        obtain ⟨b, o, a1, c1, rfl, x1, x2, x3⟩ := (Ha.out.on hB).at j k1
        obtain ⟨b', o', a2, c2, rfl, y1, y2, y3⟩ := (Hb.out.on hB).at j k2
        have I1 : (j : Int) < (l.length : Int) := by omega
        have I2 : (j : Int) < (m.length : Int) := by omega
        have HS : Hid (sE l[j] m[j] = true → l.take (j + 1) = m.take (j + 1)) := fun h => by rw [List.take_succ_eq_append_getElem k1, List.take_succ_eq_append_getElem k2, hc, (sE_iff _ _).1 h]
        have HN : Hid (sE l[j] m[j] = false → sEs l m = false) := fun h => by
          unfold sEs; rw [decide_eq_false_iff_not]; intro e; subst e
          rw [(sE_iff _ _).2 rfl] at h; cases h
        have q : Hid (∀ d os, Calls Tryd.prog 28 #[.agg #[.slice a1 l[j].1.length c1, .int .i64 l[j].2], .agg #[.slice a2 m[j].1.length c2, .int .i64 m[j].2]] (grow (redrawn wr d) os) fun e w'' => e = .returned (.bool (sE l[j] m[j])) ∧ ∃ p : Regrown, w'' = grow (redrawn wr p.d) p.os) :=
          fun d os => Calls.regrown_of (sameEntry l[j] m[j] a1 a2 c1 c2 _ (x3.on (below_regrown wr d os)) (y3.on (below_regrown wr d os)))
        have g1 := fun d os => cell_regrown x1 d os
        have g2 := fun d os => cell_regrown x2 d os
        have g3 := fun d os => cell_regrown y1 d os
        have g4 := fun d os => cell_regrown y2 d os
        clear hc x1 x2 x3 y1 y2 y3
        generalize sE l[j] m[j] = c at *
        generalize l[j].1.length = n1 at *
        generalize m[j].1.length = n2 at *
        generalize l[j].2 = i1 at *
        generalize m[j].2 = i2 at *
        go_wp2_with fail
        refine wp_region_quiet_below (by kernel_rfl) (by kernel_rfl) ?_
        iterate 10 (quiet_step (exact q.out _ _))
        refine wpQuiet_nil ?_
        intro w6 hw6
        obtain ⟨p6, hw6⟩ := hw6
        have hb6 : Below w.heap.size w w6 := by rw [hw6]; exact hB.trans ((below_regrown wr _ _).mono hB.size)
        clear hw6 g1 g2 g3 g4 q
        cases c
        · have E : Hid (sEs l m = false) := HN.out rfl
          clear HN HS
          go_wp2_with fail
          go_ret
          exact ⟨by rw [E.out]; rfl, hb6⟩
        · have E : Hid (l.take (j + 1) = m.take (j + 1)) := HS.out rfl
          clear HN HS
          go_wp2_with fail
          go_roundw
          case rel => exact ⟨j + 1, by omega, by go_num, E.out, hb6⟩
          case measure => simp [intOf]; omega
      · have I1 : ¬ (j : Int) < (l.length : Int) := by omega
        have E : Hid (sEs l m = true) := by
          obtain rfl : j = l.length := by omega
          show _ = _
          unfold sEs; rw [decide_eq_true_eq]
          rw [List.take_length] at hc; rw [hc, HL.out, List.take_length]
        clear hc
        go_wp2_with fail
        go_ret
        exact ⟨by rw [E.out]; rfl, hB⟩
  · have ee : ((l.length : Int) == (m.length : Int)) = false := by simp; omega
    have E : Hid (sEs l m = false) := by show _ = _; unfold sEs; rw [decide_eq_false_iff_not]; intro e; exact hlen (by rw [e])
    go_enter Tryd.func12, Tryd.ntmps12
    go_wp2_with fail
    go_ret
    exact ⟨by rw [E.out]; rfl, Below.refl _ _⟩

/-- The weight of the first entry of that row. -/
def gt (r : List Val) : List Ent → Int
  | [] => 0
  | e :: l => if cR e.1 r = 0 then e.2 else gt r l
theorem gt_drop {r : List Val} {l : List Ent} {j : Nat} (h : j < l.length) : gt r (l.drop j) = if cR l[j].1 r = 0 then l[j].2 else gt r (l.drop (j + 1)) := by
  rw [List.drop_eq_getElem_cons h]; rfl
theorem gt_wt {r : List Val} : ∀ {z : List Ent}, SortedZ z → gt r z = wt r z
  | [], _ => rfl
  | e :: z, h => by
    obtain ⟨h1, h2⟩ := List.pairwise_cons.1 h
    unfold gt
    split
    · rename_i h0
      have e' := (cR_zero _ _).1 h0
      subst e'; exact (wt_head h).symm
    · rename_i h0
      simp only [wt]; rw [if_neg (fun e' => h0 ((cR_zero _ _).2 e')), gt_wt h2]; omega
set_option maxHeartbeats 1000000 in
theorem refGet (l : List Ent) (r : List Val) (va vb : Value) (w : World) (ha : EntsIs w va l) (hb : RowIs w vb r) :
    Calls Tryd.prog 17 #[va, vb] w fun e w' => e = .returned (.int .i64 (gt r l)) ∧ Below w.heap.size w w' := by
  obtain ⟨a0, cap, rfl⟩ := ha.form
  obtain ⟨b0, cap', rfl⟩ := hb.form
  have la := ha.le
  unfold maxLen at la
  have Ha : Hid (EntsIs w (.slice a0 l.length cap) l) := ha
  have Hb : Hid (RowIs w (.slice b0 r.length cap') r) := hb
  clear ha hb
  go_enter Tryd.func17, Tryd.ntmps17
  go_wp2_with fail
  go_loopw [5] (fun i wr => ∃ j : Nat, j ≤ l.length ∧ i = .int .i64 j ∧ Hid (gt r l = gt r (l.drop j)) ∧ Below w.heap.size w wr) (fun i _ => l.length - (intOf i).toNat)
  case atStart => exact ⟨0, by omega, rfl, rfl, Below.refl _ _⟩
  case round =>
    obtain ⟨j, hj1, rfl, hc, hB⟩ := hrel
    by_cases k1 : j < l.length
    · obtain ⟨b, o, a1, c1, rfl, x1, x2, x3⟩ := (Ha.out.on hB).at j k1
      have I1 : (j : Int) < (l.length : Int) := by omega
      have HS : Hid (gt r (l.drop j) = if cR l[j].1 r = 0 then l[j].2 else gt r (l.drop (j + 1))) := gt_drop k1
      have q : Hid (Calls Tryd.prog 24 #[.slice a1 l[j].1.length c1, .slice b0 r.length cap'] wr fun e w'' => e = .returned (.int .i64 (cR l[j].1 r)) ∧ Below wr.heap.size wr w'') := refCompareRows _ _ _ _ wr x3 (Hb.out.on hB)
      clear x3
      generalize cR l[j].1 r = c at *
      generalize l[j].1.length = n1 at *
      generalize l[j].2 = i1 at *
      go_wp2_with fail
      refine q.out.mono ?_
      rintro e w1 ⟨rfl, hb1⟩
      have hB1 : Below w.heap.size w w1 := hB.trans (hb1.mono hB.size)
      have y2 := cell_on x2 hb1
      clear hb1 q x1 x2
      by_cases e0 : c = 0
      · subst e0
        go_wp2_with fail
        go_ret
        exact ⟨retI (by rw [hc.out, HS.out]; simp), hB1⟩
      · have ee : (c == 0) = false := by simp [e0]
        have H2 : Hid (gt r l = gt r (l.drop (j + 1))) := by show _ = _; rw [hc.out, HS.out, if_neg e0]
        clear hc HS
        go_wp2_with fail
        go_roundw
        case rel => exact ⟨j + 1, by omega, by go_num, H2.out, hB1⟩
        case measure => simp [intOf]; omega
    · have I1 : ¬ (j : Int) < (l.length : Int) := by omega
      have E : Hid (gt r l = 0) := by show _ = _; rw [hc.out, List.drop_eq_nil_of_le (by omega)]; rfl
      clear hc
      go_wp2_with fail
      go_ret
      exact ⟨retI E.out.symm, hB⟩
/-- Is it a z-set? -/
def isZ (z : List Ent) : Bool := decide (z.Pairwise (fun a b => cR a.1 b.1 < 0) ∧ ∀ e ∈ z, e.2 ≠ 0)
theorem isZ_yes {z : List Ent} (h : IsZ z) : isZ z = true := decide_eq_true (show z.Pairwise (fun a b => cR a.1 b.1 < 0) ∧ ∀ e ∈ z, e.2 ≠ 0 from h)
theorem isZ_no {z : List Ent} (h : ¬ IsZ z) : isZ z = false := decide_eq_false (show ¬ (z.Pairwise (fun a b => cR a.1 b.1 < 0) ∧ ∀ e ∈ z, e.2 ≠ 0) from h)
def OkTo (z : List Ent) (j : Nat) : Prop := ∀ i (h : i < z.length), i < j → z[i].2 ≠ 0 ∧ (0 < i → cR (z[i - 1]'(by omega)).1 z[i].1 < 0)
theorem adj_sorted {z : List Ent} (h : ∀ i (h : i < z.length), 0 < i → cR (z[i - 1]'(by omega)).1 z[i].1 < 0) : SortedZ z := by
  refine List.pairwise_iff_getElem.2 fun i j hi hj hij => ?_
  obtain ⟨k, rfl⟩ : ∃ k, j = i + 1 + k := ⟨j - i - 1, by omega⟩
  clear hij
  induction k with
  | zero => exact h (i + 1) (by omega) (by omega)
  | succ k ih =>
    have h1 := ih (by omega)
    have h2 := h (i + 1 + k + 1) (by omega) (by omega)
    exact cR_lt_trans h1 h2
theorem OkTo.all {z : List Ent} (h : OkTo z z.length) : IsZ z :=
  ⟨adj_sorted fun i hi h0 => (h i hi hi).2 h0, fun e he => by obtain ⟨i, hi, rfl⟩ := List.getElem_of_mem he; exact (h i hi hi).1⟩
theorem IsZ.at {z : List Ent} (h : IsZ z) (i : Nat) (hi : i < z.length) : z[i].2 ≠ 0 ∧ (0 < i → cR (z[i - 1]'(by omega)).1 z[i].1 < 0) :=
  ⟨h.2 _ (List.getElem_mem hi), fun h0 => List.pairwise_iff_getElem.1 h.1 (i - 1) i (by omega) hi (by omega)⟩
end Go.Proofs.YtmpochhcokmaiaaDoor
