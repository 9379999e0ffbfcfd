/- The law RowSorts answers true at every argument, and writes nothing that was there: its walk. -/
import Derived.Test.YtihijfbbmenbnaaDoorRowTextsWalk
import Derived.Test.YtihijfbbmenbnaaDoorRowStore
import Derived.Lib.QuietBelow
import Derived.BigQuiet
namespace Go.Proofs.YtihijfbbmenbnaaDoor
open Go.RowKit Go.Sort
set_option maxRecDepth 100000

abbrev nul : Val := (0, 0, ⟨#[]⟩)
abbrev ofI (n : Int) : Val := (1, n, ⟨#[]⟩)
/-- The row's value at k put to x, d ones behind it to Null. -/
def sw (l : List Val) (k : Nat) (x : Val) : Nat → List Val
  | 0 => l.set k x
  | d + 1 => (sw l k x d).set (k + 1 + d) nul
theorem sw_len (l : List Val) (k : Nat) (x : Val) : ∀ d, (sw l k x d).length = l.length
  | 0 => by simp [sw]
  | d + 1 => by simp [sw, sw_len l k x d]
theorem sw_at (l : List Val) (k : Nat) (x : Val) : ∀ d i, i ≤ k → (sw l k x d)[i]? = (l.set k x)[i]?
  | 0, i, _ => rfl
  | d + 1, i, h => by rw [sw, List.getElem?_set_ne (by omega), sw_at l k x d i h]
theorem sw_take (l : List Val) (k : Nat) (x : Val) (d : Nat) : (sw l k x d).take k = l.take k := by
  apply List.ext_getElem?
  intro i
  by_cases h : i < k
  · rw [List.getElem?_take_of_lt h, List.getElem?_take_of_lt h, sw_at l k x d i (by omega), List.getElem?_set_ne (by omega)]
  · rw [List.getElem?_eq_none (by simp; omega), List.getElem?_eq_none (by simp; omega)]
theorem cR_same : ∀ (p l m : List Val), cR (p ++ l) (p ++ m) = cR l m
  | [], l, m => rfl
  | a :: p, l, m => by
    rw [List.cons_append, List.cons_append, cR, if_pos ((cVal_zero a a).2 rfl), cR_same p l m]
theorem cVal_int (m n : Int) (h : m ≠ n) : cVal (ofI m) (ofI n) = cI m n := by
  have e1 : cI 1 1 = 0 := by decide
  have e2 : ¬ cI m n = 0 := by unfold cI; split <;> (try split) <;> omega
  show cV 1 m ⟨#[]⟩ 1 n ⟨#[]⟩ = cI m n
  unfold cV; rw [if_pos e1, if_neg e2]
theorem sw_cmp (l : List Val) (k : Nat) (hk : k < l.length) (m n : Int) (h : m ≠ n) (d : Nat) : cR (l.set k (ofI m)) (sw l k (ofI n) d) = cI m n := by
  have e2 : ¬ cI m n = 0 := by unfold cI; split <;> (try split) <;> omega
  have a1 : l.set k (ofI m) = l.take k ++ ofI m :: (l.set k (ofI m)).drop (k + 1) := by
    have := List.take_append_drop k (l.set k (ofI m))
    rw [List.drop_eq_getElem_cons (by simpa using hk)] at this
    rw [← List.take_set_of_le (a := ofI m) (Nat.le_refl k)]
    conv => lhs; rw [← this]
    simp
  have a2 : sw l k (ofI n) d = l.take k ++ ofI n :: (sw l k (ofI n) d).drop (k + 1) := by
    have := List.take_append_drop k (sw l k (ofI n) d)
    rw [List.drop_eq_getElem_cons (by rw [sw_len]; exact hk), sw_take] at this
    have g : (sw l k (ofI n) d)[k]'(by rw [sw_len]; exact hk) = ofI n := by
      have := sw_at l k (ofI n) d k (Nat.le_refl _)
      rw [List.getElem?_eq_getElem (by rw [sw_len]; exact hk), List.getElem?_eq_getElem (by simpa using hk)] at this
      simpa using this
    rw [g] at this
    exact this.symm
  rw [a1, a2, cR_same, cR, cVal_int m n h, if_neg e2]

/-- A row that was made and has values: where it lies. -/
theorem own_place {w : World} {base n : Nat} {v : Value} {l : List Val} (h : w.ownsRow base 31 3 v n (rc l)) (hn : 0 < n) : ∃ g cap, v = .slice (some ⟨g, 0, none⟩) n cap ∧ n ≤ cap ∧ cap ≤ maxLen ∧ base ≤ g ∧ g < w.heap.size := by
  have hlt := h.lt
  obtain ⟨h1, h2 | ⟨g, cap, cur, rfl, hg, hh, hc, hm, _⟩⟩ := h
  · exact absurd h2.2 (by omega)
  · exact ⟨g, cap, rfl, hc, hm, hg, (hlt g rfl).2⟩
theorem size_value : (Tryd.prog.info? 31).map (·.size) = some 3 := by kernel_rfl
/-- The two rows, as far as the loop has come. -/
def Sorts (w wr : World) (b1 b2 g1 cap1 g2 cap2 : Nat) (l : List Val) (k : Nat) (m n : Int) (d : Nat) : Prop :=
  wr.ownsRow b1 31 3 (.slice (some ⟨g1, 0, none⟩) 4 cap1) 4 (rc (l.set k (ofI m))) ∧ wr.ownsRow b2 31 3 (.slice (some ⟨g2, 0, none⟩) 4 cap2) 4 (rc (sw l k (ofI n) d)) ∧ RowKit.Below w.heap.size w wr
theorem cI_ne {m n : Int} (h : m ≠ n) : (cI m n = -1 ∧ decide (m < n) = true) ∨ (cI m n = 1 ∧ decide (m < n) = false) := by
  unfold cI
  by_cases h1 : m < n
  · exact .inl ⟨if_pos h1, by simpa using h1⟩
  · exact .inr ⟨by rw [if_neg h1, if_pos (by omega)], by simpa using h1⟩
set_option maxHeartbeats 4000000 in
theorem rowsorts_main (a : Option Addr) (len cap : Nat) (zs : List Int) (t m n : Int) (k : Nat) (hk : k < 4) (hN : (wrap64 (t.tmod 4 + 4)).tmod 4 = (k : Int)) (hmn : m ≠ n)
    (h1 : (len : Int) ≤ 80) (w : World) (hr : Ready w) (ha : IsRow .i64 w a len cap zs) :
    Calls Tryd.prog 3 #[.slice a len cap, .int .i64 t, .int .i64 m, .int .i64 n] w fun e w' => e = .returned (.bool true) ∧ Below w.heap.size w w' := by
  have Ha : Hid (IsRow .i64 w a len cap zs) := ha
  have HN : Hid (m ≠ n) := hmn
  have I4 : (k : Int) < 4 := by omega
  have I0 : (0 : Int) ≤ (k : Int) := by omega
  have I5 : (m == n) = false := by simpa using hmn
  clear ha hmn
  go_enter Tryd.func3, Tryd.ntmps3
  go_wp2_with fail
  refine (lawFirst2 _ hr).mono ?_
  rintro e w1 ⟨rfl, hb1⟩
  have B1 : Hid (Below w.heap.size w w1) := hb1
  clear hb1
  go_wp2_with fail
  have M := seq_cols (Ha.out.below B1.out) [1, 2, 3, 1] 29 3
  refine (makeRow w1.heap.size a len cap zs 0 (w1.heap.size + 1) 4 4 [1, 2, 3, 1] _ M.1 (by omega) M.2 (by omega) (by decide) (by intro i h; match i, h with | 0, _ => simp | 1, _ => simp | 2, _ => simp | 3, _ => simp)).mono ?_
  clear M
  rintro e w2 ⟨v1, rfl, hso⟩
  obtain ⟨l, n1, ok1, O1, hb2, E1⟩ := made_own hso
  have B2 : Hid (Below w.heap.size w w2) := (B1.out.trans (two_boxes.mono B1.out.size)).trans (hb2.below B1.out.size (by have := B1.out.size; simp; omega))
  have z2 := hb2.size
  simp only [World.size_alloc] at z2
  clear hso hb2
  go_wp2_with fail
  have M := seq_cols (Ha.out.below B2.out) [1, 2, 3, 1] 29 3
  refine (makeRow w2.heap.size a len cap zs 0 (w2.heap.size + 1) 4 4 [1, 2, 3, 1] _ M.1 (by omega) M.2 (by omega) (by decide) (by intro i h; match i, h with | 0, _ => simp | 1, _ => simp | 2, _ => simp | 3, _ => simp)).mono ?_
  clear M
  rintro e w3 ⟨v2, rfl, hso⟩
  obtain ⟨l2, n2, ok2, O2, hb3, E2⟩ := made_own hso
  obtain rfl : l = l2 := E1.symm.trans E2
  have B3 : Hid (Below w.heap.size w w3) := (B2.out.trans (two_boxes.mono B2.out.size)).trans (hb3.below B2.out.size (by have := B2.out.size; simp; omega))
  have lt1 := O1.lt
  have O1' := own_but' (own_on O1 two_boxes) hb3 (fun g hg => by have := (lt1 g hg).2; omega)
  obtain ⟨g1, cap1, rfl, c1, c1', p1, p1'⟩ := own_place O1 (by omega)
  obtain ⟨g2, cap2, rfl, c2, c2', p2, p2'⟩ := own_place O2 (by omega)
  simp only [World.size_alloc] at O1 O1' O2 p1 p2
  have ne : g1 ≠ g2 := by omega
  unfold maxLen at c1' c2'
  have zz := B2.out.size
  have zz' := B1.out.size
  have S1 : Hid (w3.ownsRow (w1.heap.size + 2) 31 3 (.slice (some ⟨g1, 0, none⟩) 4 cap1) 4 (rc l)) := O1'
  have S2 : Hid (w3.ownsRow (w2.heap.size + 2) 31 3 (.slice (some ⟨g2, 0, none⟩) 4 cap2) 4 (rc l)) := O2
  have NL : Hid (l.length = 4) := n1
  have G1 : Hid (w.heap.size ≤ g1) := by show _ ≤ _; omega
  have G2 : Hid (w.heap.size ≤ g2) := by show _ ≤ _; omega
  clear hso hb3 O1 O1' O2 ok1 ok2 lt1 E1 E2 n1 n2 p1 p2 p1' p2' zz zz' z2
  have F1 : Hid (∀ w4, w3.grownBy w4 (some g1) → Below w.heap.size w w4 ∧ w4.ownsRow (w2.heap.size + 2) 31 3 (.slice (some ⟨g2, 0, none⟩) 4 cap2) 4 (rc l)) := fun w4 hg4 =>
    ⟨B3.out.grown hg4 B3.out.size (fun g hg => by cases hg; exact G1.out), own_grown S2.out hg4 (fun e => ne (by cases e; rfl))⟩
  go_wp2_with (first
    | (refine wpList_store_val rfl (.tmp 45) (.tmp 44) rfl k (ofI m) S1.out NL.out hk rfl rfl size_value ?_; intro w4 hown4 hg4; have T1 : Hid _ := hown4; have T2 : Hid _ := F1.out _ hg4; clear hown4 hg4 F1)
    | (refine wpList_store_val rfl (.tmp 50) (.tmp 49) rfl k (ofI n) T2.out.2 NL.out hk rfl rfl size_value ?_; intro w5 hown5 hg5; have T3 : Hid _ := hown5; have T4 : Hid _ := hg5; clear hown5 hg5)
    | fail)
  have H0 : Hid (Sorts w w5 (w1.heap.size + 2) (w2.heap.size + 2) g1 cap1 g2 cap2 l k m n 0) := ⟨own_grown T1.out T4.out (fun e => ne (by cases e; rfl)), T3.out, T2.out.1.grown T4.out T2.out.1.size (fun g hg => by cases hg; exact G2.out)⟩
  clear T1 T2 T3 T4 S1 S2 B1 B2 B3
  go_loopw [13] (fun i wr => ∃ d : Nat, k + 1 + d ≤ 4 ∧ i = .int .i64 ((k + 1 + d : Nat) : Int) ∧ Sorts w wr (w1.heap.size + 2) (w2.heap.size + 2) g1 cap1 g2 cap2 l k m n d) (fun i _ => 4 - (intOf i).toNat)
  case atStart => exact ⟨0, by omega, by simp, H0.out⟩
  case round =>
    obtain ⟨d, hd, rfl, hs⟩ := hrel
    by_cases hlt : k + 1 + d < 4
    · have I6 : ((k + 1 + d : Nat) : Int) < 4 := by omega
      have I7 : (0 : Int) ≤ ((k + 1 + d : Nat) : Int) := by omega
      have HS : Hid (Sorts w wr (w1.heap.size + 2) (w2.heap.size + 2) g1 cap1 g2 cap2 l k m n d) := hs
      clear hs
      have HL : Hid ((sw l k (ofI n) d).length = 4) := by show _ = _; rw [sw_len]; exact NL.out
      have F : Hid (∀ w4, w4.ownsRow (w2.heap.size + 2) 31 3 (.slice (some ⟨g2, 0, none⟩) 4 cap2) 4 (rc ((sw l k (ofI n) d).set (k + 1 + d) nul)) → wr.grownBy w4 (some g2) → Sorts w w4 (w1.heap.size + 2) (w2.heap.size + 2) g1 cap1 g2 cap2 l k m n (d + 1)) := fun w4 h1 h2 =>
        ⟨own_grown HS.out.1 h2 (fun e => ne (by cases e; rfl)), h1, HS.out.2.2.grown h2 HS.out.2.2.size (fun g hg => by cases hg; exact G2.out)⟩
      generalize hj : k + 1 + d = j at *
      go_wp2_with (first | (refine wpList_store_val rfl (.tmp 60) (.tmp 59) rfl j nul HS.out.2.1 HL.out hlt rfl rfl size_value ?_; intro w6 hown hg; have hs := F.out _ hown hg; clear hown hg F HS) | go_in)
      go_roundw
      case rel => exact ⟨d + 1, by omega, by rw [show k + 1 + (d + 1) = j + 1 by omega]; go_num, hs⟩
      case measure => simp [intOf]; omega
    · have I6 : ¬ ((k + 1 + d : Nat) : Int) < 4 := by omega
      have e4 : ((k + 1 + d : Nat) : Int) = 4 := by omega
      obtain ⟨s1, s2, s3⟩ := hs
      have R1 : Hid (RowIs wr (.slice (some ⟨g1, 0, none⟩) 4 cap1) (l.set k (ofI m))) := own_row s1 (by simp [NL.out])
      have R2 : Hid (RowIs wr (.slice (some ⟨g2, 0, none⟩) 4 cap2) (sw l k (ofI n) d)) := own_row s2 (by rw [sw_len]; exact NL.out)
      have B6 : Hid (Below w.heap.size w wr) := s3
      clear s1 s2 s3
      have C1 : Hid (RowIs wr (.slice (some ⟨g1, 0, none⟩) k cap1) (l.take k)) := by
        have := R1.out.cut k (by simp [NL.out]; omega)
        rw [List.take_set_of_le (Nat.le_refl k)] at this; exact this
      have C2 : Hid (RowIs wr (.slice (some ⟨g2, 0, none⟩) k cap2) (l.take k)) := by
        have := R2.out.cut k (by rw [sw_len, NL.out]; omega)
        rw [sw_take] at this; exact this
      have P1 : Hid (cR (l.set k (ofI m)) (sw l k (ofI n) d) = cI m n) := sw_cmp l k (by rw [NL.out]; exact hk) m n HN.out d
      have I8 : (k : Int) ≤ (cap1 : Int) := by omega
      have I9 : (k : Int) ≤ (cap2 : Int) := by omega
      have P2 : Hid (sR (l.take k) (l.take k) = true) := (sR_iff _ _).2 rfl
      go_wp2_with fail
      refine (rowCompare _ _ _ _ wr R1.out R2.out).mono ?_
      rintro e w7 ⟨rfl, hb7⟩
      rw [P1.out]
      have q : Hid (∀ d os, Calls Tryd.prog 12 #[.slice (some ⟨g1, 0, none⟩) k cap1, .slice (some ⟨g2, 0, none⟩) k cap2] (grow (redrawn w7 d) os) fun e w'' => e = .returned (.bool true) ∧ ∃ p : Regrown, w'' = grow (redrawn w7 p.d) p.os) :=
        fun d os => Calls.regrown_of (by have := sameRow (l.take k) (l.take k) _ _ _ ((C1.out.on hb7).on (below_regrown w7 d os)) ((C2.out.on hb7).on (below_regrown w7 d os)); rw [P2.out] at this; exact this)
      rcases cI_ne HN.out with ⟨hc, hlt'⟩ | ⟨hc, hlt'⟩
      all_goals
        rw [hc]
        go_wp2_with fail
        refine wp_region_quiet_below (by kernel_rfl) (by kernel_rfl) ?_
        iterate 21 (go_big_quiet_step (exact q.out _ _))
        iterate 2 (go_big_quiet_step (fail))
        refine wpQuiet_nil ?_
        intro w8 hw8
        obtain ⟨p8, hw8⟩ := hw8
        have hb8 : Below w.heap.size w w8 := by rw [hw8]; exact B6.out.trans ((hb7.trans ((below_regrown w7 _ _).mono hb7.size)).mono B6.out.size)
        clear hw8 q
        go_wp2_with fail
        go_ret
        exact ⟨rfl, hb8⟩
end Go.Proofs.YtihijfbbmenbnaaDoor
