/- The walk of the law of products at their bounds. -/
import Derived.Test.YtlafokjkpbhckaaDoorJnFirst
import Derived.Test.YtlafokjkpbhckaaDoorJnBd
import Derived.Test.YtlafokjkpbhckaaDoorPackErr
namespace Go.Proofs.YtlafokjkpbhckaaDoor
open Go.RowKit Go.Sort
set_option maxRecDepth 100000
set_option linter.unusedVariables false

theorem fit_n (n : Int) : fitP [(0, 0)] [(1, n, ⟨#[]⟩)] [(1, n, ⟨#[]⟩)] = true := by simp [fitP, colR]
theorem inI_wfB {c : Int} (h : (Lit.int .i64 c).wf = true) : inI c = true := by
  unfold inI
  simp only [Lit.wf, Bool.and_eq_true, decide_eq_true_eq] at h ⊢
  exact h
theorem ErrsAt.over {ad : Fin 11 → Addr} {w : World} (h : ErrsAt ad w) : OverAt (ad 6) w := h.2.2.2.2.2.2.2.2.1
set_option maxHeartbeats 4000000 in
theorem jb_none (x y n : Int) (ad : Fin 11 → Addr) (w : World) (he : ErrsAt ad w) (h : x = 0 ∨ y = 0) :
    Calls Tryd.prog 6 #[.int .i64 x, .int .i64 y, .int .i64 n] w fun e w' => e = .returned (.bool true) ∧ Below w.heap.size w w' := by
  have q := lawFirst12 _ w he.over
  clear he
  by_cases hx : x = 0
  · subst hx
    go_enter Tryd.func6, Tryd.ntmps6
    go_wp2_with fail
    refine q.mono ?_
    rintro e w1 ⟨rfl, hb1⟩
    go_wp2_with fail
    go_ret
    exact ⟨rfl, hb1.trans (one_box.mono hb1.size)⟩
  · have hy : y = 0 := by omega
    have bx : (x == 0) = false := by simp [hx]
    subst hy
    clear h
    go_enter Tryd.func6, Tryd.ntmps6
    go_wp2_with fail
    refine q.mono ?_
    rintro e w1 ⟨rfl, hb1⟩
    go_wp2_with fail
    go_ret
    exact ⟨rfl, hb1.trans (one_box.mono hb1.size)⟩
set_option maxHeartbeats 8000000 in
theorem jb_main (x y n : Int) (hx : inI x = true) (hy : inI y = true) (hx0 : ¬ x = 0) (hy0 : ¬ y = 0) (ad : Fin 11 → Addr) (w : World) (he : ErrsAt ad w) :
    Calls Tryd.prog 6 #[.int .i64 x, .int .i64 y, .int .i64 n] w fun e w' => e = .returned (.bool true) ∧ Below w.heap.size w w' := by
  have q := lawFirst12 _ w he.over
  have HE : Hid (ErrsAt ad w) := he
  have bx : (x == 0) = false := by simp [hx0]
  have byy : (y == 0) = false := by simp [hy0]
  have HO := over_iff x y hx hy hy0
  have HX : Hid (inI x = true ∧ inI y = true ∧ x ≠ 0 ∧ y ≠ 0) := ⟨hx, hy, hx0, hy0⟩
  clear he hx hy
  go_enter Tryd.func6, Tryd.ntmps6
  go_wp2_with fail
  refine q.mono ?_
  rintro e w1 ⟨rfl, hb1⟩
  have B1 : Hid (Below w.heap.size w w1) := hb1
  clear q hb1
  have q1 := jnOne [(1, n, ⟨#[]⟩)] (some ⟨w1.heap.size, 0, none⟩) 1 x y (ad 6) _ ((HE.out.on B1.out).over.on one_box) (row_new w1 1 n ⟨#[]⟩) (by simp) HX.out.1 HX.out.2.1 HX.out.2.2.1 HX.out.2.2.2 (fit_n n)
  rw [World.size_alloc] at q1
  unfold oneW at q1
  go_wp2_with fail
  refine q1.mono ?_
  rintro e w2 ⟨v2, rfl, h2, b2⟩
  have B2 : Hid (Below w.heap.size w w2) := B1.out.trans ((one_box.trans (b2.mono (by simp))).mono B1.out.size)
  have H2 : Hid (EntsIs w2 v2 (if inI (x * y) = true then [([(1, n, ⟨#[]⟩)] ++ [(1, n, ⟨#[]⟩)], x * y)] else [])) := h2
  clear q1 h2 b2
  by_cases hin : inI (x * y) = true
  · have hno : ¬ (wrap64 ((wrap64 (x * y)).tdiv y) ≠ x ∨ (x = -1 ∧ y = -9223372036854775808) ∨ (y = -1 ∧ x = -9223372036854775808)) := fun h => by rw [HO.2 h] at hin; cases hin
    have hp : wrap64 (x * y) = x * y := by have := inI_iff.1 hin; unfold wrap64; omega
    have h2 := H2.out
    rw [if_pos hin] at h2
    rw [hin, show ovE (ad 6) true = .nilIface from rfl]
    have HN1 : ¬ (x = -1 ∧ y = -9223372036854775808) := fun h => hno (.inr (.inl h))
    have HN2 : ¬ (y = -1 ∧ x = -9223372036854775808) := fun h => hno (.inr (.inr h))
    have hd : wrap64 ((wrap64 (x * y)).tdiv y) = x := Classical.byContradiction fun h => hno (.inl h)
    rw [← hp] at h2
    clear HO hno H2 hin HX hp
    generalize hm : wrap64 (x * y) = m at *
    obtain ⟨a2, c2, rfl⟩ := h2.form
    obtain ⟨b, o, a3, c3, rfl, x1, x2, _⟩ := h2.at 0 (by simp)
    simp only [Nat.zero_mul, Nat.add_zero, List.getElem_cons_zero] at x1 x2
    simp only [List.length_append, List.length_cons, List.length_nil, Nat.zero_add] at x1
    clear h2
    by_cases c1 : x = -1
    · have b1 : (x == -1) = true := by simp [c1]
      have b2 : (y == -9223372036854775808) = false := by simp; exact fun h => HN1 ⟨c1, h⟩
      by_cases c3 : y = -1
      · have b3 : (y == -1) = true := by simp [c3]
        have b4 : (x == -9223372036854775808) = false := by simp; exact fun h => HN2 ⟨c3, h⟩
        clear c1 c3 HN1 HN2 hx0
        go_wp2_with fail
        go_ret
        exact ⟨rfl, B2.out⟩
      · have b3 : (y == -1) = false := by simp [c3]
        clear c1 c3 HN1 HN2 hx0
        go_wp2_with fail
        go_ret
        exact ⟨rfl, B2.out⟩
    · have b1 : (x == -1) = false := by simp [c1]
      by_cases c3 : y = -1
      · have b3 : (y == -1) = true := by simp [c3]
        have b4 : (x == -9223372036854775808) = false := by simp; exact fun h => HN2 ⟨c3, h⟩
        clear c1 c3 HN1 HN2 hx0
        go_wp2_with fail
        go_ret
        exact ⟨rfl, B2.out⟩
      · have b3 : (y == -1) = false := by simp [c3]
        clear c1 c3 HN1 HN2 hx0
        go_wp2_with fail
        go_ret
        exact ⟨rfl, B2.out⟩
  · have hin' : inI (x * y) = false := by simpa using hin
    have hov := HO.1 hin'
    have h2 := H2.out
    rw [if_neg hin] at h2
    rw [hin', show ovE (ad 6) false = errV (ad 6) from rfl]
    have q3 : Calls Tryd.prog 17 #[errV (ad 6), .int .i64 107] w2 fun e w' => e = .returned (.bool true) ∧ Below w2.heap.size w2 w' := seeIs ad (some 6) 107 w2 (HE.out.on B2.out)
    obtain ⟨a2, c2, rfl⟩ := h2.form
    simp only [List.length_nil]
    unfold errV at q3 ⊢
    clear HO H2 hin hin' HX h2
    generalize hm : wrap64 (x * y) = m at *
    by_cases hd : wrap64 (m.tdiv y) = x
    · rcases hov with h | ⟨c1, c2'⟩ | ⟨c3, c4⟩
      · exact absurd hd h
      · have b1 : (x == -1) = true := by simp [c1]
        have b2 : (y == -9223372036854775808) = true := by simp [c2']
        clear c1 c2' hx0
        go_wp2_with fail
        refine q3.mono ?_
        rintro e w3 ⟨rfl, b3⟩
        have B3 : Hid (Below w.heap.size w w3) := B2.out.trans (b3.mono B2.out.size)
        clear q3 b3
        go_wp2_with fail
        go_ret
        exact ⟨rfl, B3.out⟩
      · have b1 : (x == -1) = false := by simp; omega
        have b3 : (y == -1) = true := by simp [c3]
        have b4 : (x == -9223372036854775808) = true := by simp [c4]
        clear c3 c4 hx0
        go_wp2_with fail
        refine q3.mono ?_
        rintro e w3 ⟨rfl, b3⟩
        have B3 : Hid (Below w.heap.size w w3) := B2.out.trans (b3.mono B2.out.size)
        clear q3 b3
        go_wp2_with fail
        go_ret
        exact ⟨rfl, B3.out⟩
    · clear hov hx0
      go_wp2_with fail
      refine q3.mono ?_
      rintro e w3 ⟨rfl, b3⟩
      have B3 : Hid (Below w.heap.size w w3) := B2.out.trans (b3.mono B2.out.size)
      clear q3 b3
      go_wp2_with fail
      go_ret
      exact ⟨rfl, B3.out⟩
theorem joinBounds_walk (x : Int) (wx : (Lit.int .i64 x).wf = true) (y : Int) (wy : (Lit.int .i64 y).wf = true) (n : Int) (_ : (Lit.int .i64 n).wf = true) (w : World) (he : ∃ ad, ErrsAt ad w) :
    Calls Tryd.prog 6 #[.int .i64 x, .int .i64 y, .int .i64 n] w fun e w' => e = .returned (.bool true) ∧ Below w.heap.size w w' := by
  obtain ⟨ad, he⟩ := he
  by_cases hx0 : x = 0
  · exact jb_none x y n ad w he (.inl hx0)
  · by_cases hy0 : y = 0
    · exact jb_none x y n ad w he (.inr hy0)
    · exact jb_main x y n (inI_wfB wx) (inI_wfB wy) hx0 hy0 ad w he
end Go.Proofs.YtlafokjkpbhckaaDoor
