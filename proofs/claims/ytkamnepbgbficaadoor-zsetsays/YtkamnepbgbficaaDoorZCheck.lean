/- What zset.Check answers. -/
import Derived.Test.YtkamnepbgbficaaDoorZLook
namespace Go.Proofs.YtkamnepbgbficaaDoor
open Go.RowKit Go.Sort
set_option maxRecDepth 100000

set_option maxHeartbeats 4000000 in
/-- zset.Check. -/
theorem zCheck (l : List Ent) (va : Value) (w : World) (ha : EntsIs w va l) :
    Calls Tryd.prog 24 #[va] w fun e w' => e = .returned (.bool (isZ l)) ∧ Below w.heap.size w w' := by
  obtain ⟨a0, cap, rfl⟩ := ha.form
  have la := ha.le
  unfold maxLen at la
  have Ha : Hid (EntsIs w (.slice a0 l.length cap) l) := ha
  clear ha
  go_enter Tryd.func24, Tryd.ntmps24
  go_wp2_with fail
  go_loopw [7] (fun i wr => ∃ j : Nat, j ≤ l.length ∧ i = .int .i64 j ∧ Hid (OkTo l j) ∧ Below w.heap.size w wr) (fun i _ => l.length - (intOf i).toNat)
  case atStart => exact ⟨0, by omega, rfl, fun i _ h => by omega, Below.refl _ _⟩
  case round =>
    obtain ⟨j, hj1, rfl, hc, hB⟩ := hrel
    by_cases k1 : j < l.length
    · obtain ⟨b, o, a1, c1, rfl, x1, x2, x3⟩ := (Ha.out.on hB).at j k1
      have I1 : (j : Int) < (l.length : Int) := by omega
      have HN : Hid (¬ (l[j].2 ≠ 0 ∧ (0 < j → cR (l[j - 1]'(by omega)).1 l[j].1 < 0)) → isZ l = false) := fun h => isZ_no (fun hz => h (hz.at j k1))
      have HS : Hid (l[j].2 ≠ 0 ∧ (0 < j → cR (l[j - 1]'(by omega)).1 l[j].1 < 0) → OkTo l (j + 1)) := fun h i hi hij => by
        by_cases e : i = j
        · subst e; exact h
        · exact hc.out i hi (by omega)
      clear hc
      obtain ⟨W, hW⟩ : ∃ W, W = wr.alloc (.cells #[.slice a1 l[j].1.length c1, .int .i64 l[j].2] 50) := ⟨_, rfl⟩
      have hBW : Hid (Below wr.heap.size wr W) := by rw [hW]; exact one_box
      have z1 : W.cell? ⟨wr.heap.size, 0, none⟩ = some (.slice a1 l[j].1.length c1) := by rw [hW, World.cell?_alloc_at _ _ _ _ rfl]; rfl
      have z2 : W.cell? ⟨wr.heap.size, 1, none⟩ = some (.int .i64 l[j].2) := by rw [hW, World.cell?_alloc_at _ _ _ _ rfl]; rfl
      have HB : Hid (Below w.heap.size w W) := hB.trans (hBW.out.mono hB.size)
      have HW : Hid (wr.alloc (.cells #[.slice a1 l[j].1.length c1, .int .i64 l[j].2] 50) = W) := hW.symm
      clear hW
      by_cases hw0 : l[j].2 = 0
      · have E : Hid (isZ l = false) := HN.out (fun h => h.1 hw0)
        rw [hw0] at x2 z2 HW
        have g2 := fun d os => cell_regrown z2 d os
        clear HN HS x3 z1 z2
        generalize l[j].1.length = n1 at *
        go_wp2_with fail
        rw [HW.out]
        refine wp_region_quiet_below (by kernel_rfl) (by kernel_rfl) ?_
        iterate 19 (go_big_quiet_step (fail))
        refine wpQuiet_nil ?_
        intro w6 hw6
        obtain ⟨p6, hw6⟩ := hw6
        have hb6 : Hid (Below w.heap.size w w6) := by rw [hw6]; exact HB.out.trans ((below_regrown W _ _).mono HB.out.size)
        clear hw6 g2 HW HB hBW
        go_wp2_with fail
        go_ret
        exact ⟨by rw [E.out]; rfl, hb6.out⟩
      · by_cases h0 : j = 0
        · subst h0
          have E : Hid (OkTo l (0 + 1)) := HS.out ⟨hw0, fun h => by omega⟩
          simp only [Nat.zero_mul, Nat.add_zero] at x1 x2
          have g2 := fun d os => cell_regrown z2 d os
          have b1 : (l[0].2 == 0) = false := by simp [hw0]
          clear HN HS x3 z1 z2
          generalize l[0].1.length = n1 at *
          generalize l[0].2 = i1 at *
          go_wp2_with fail
          rw [HW.out]
          refine wp_region_quiet_below (by kernel_rfl) (by kernel_rfl) ?_
          iterate 19 (go_big_quiet_step (fail))
          refine wpQuiet_nil ?_
          intro w6 hw6
          obtain ⟨p6, hw6⟩ := hw6
          have hb6 : Hid (Below w.heap.size w w6) := by rw [hw6]; exact HB.out.trans ((below_regrown W _ _).mono HB.out.size)
          clear hw6 g2 HW HB hBW
          go_wp2_with fail
          go_roundw
          case rel => exact ⟨1, by omega, rfl, E.out, hb6.out⟩
          case measure => simp [intOf]; omega
        · have k0 : j - 1 < l.length := by omega
          obtain ⟨b2, o2, a2, c2, e2, y1, y2, y3⟩ := (Ha.out.on HB.out).at (j - 1) k0
          simp only [Option.some.injEq, Addr.mk.injEq, and_true] at e2
          obtain ⟨rfl, rfl⟩ := e2
          have I0 : (0 : Int) < (j : Int) := by omega
          have I3 : 0 < j := by omega
          have I4 : (j : Int) - 1 < (l.length : Int) := by omega
          have I5 : ((j : Int) - 1).toNat = j - 1 := by omega
          have g1 := fun d os => cell_regrown z1 d os
          have g2 := fun d os => cell_regrown z2 d os
          have g3 := fun d os => cell_regrown y1 d os
          have b1 : (l[j].2 == 0) = false := by simp [hw0]
          have q : Hid (∀ d os, Calls Tryd.prog 35 #[.slice a2 (l[j - 1]'k0).1.length c2, .slice a1 l[j].1.length c1] (grow (redrawn W d) os) fun e w'' => e = .returned (.int .i64 (cR (l[j - 1]'k0).1 l[j].1)) ∧ ∃ p : Regrown, w'' = grow (redrawn W p.d) p.os) :=
            fun d os => Calls.regrown_of (rowCompare _ _ _ _ _ (y3.on (below_regrown W d os)) ((x3.on hBW.out).on (below_regrown W d os)))
          by_cases hcc : cR (l[j - 1]'k0).1 l[j].1 < 0
          · have E : Hid (OkTo l (j + 1)) := HS.out ⟨hw0, fun _ => hcc⟩
            clear HN HS x3 y1 y2 y3 z1 z2
            generalize cR (l[j - 1]'k0).1 l[j].1 = c at *
            generalize (l[j - 1]'k0).1.length = n2 at *
            generalize l[j].1.length = n1 at *
            generalize l[j].2 = i1 at *
            have b2 : decide (0 ≤ c) = false := by simp; omega
            go_wp2_with fail
            rw [HW.out]
            refine wp_region_quiet_below (by kernel_rfl) (by kernel_rfl) ?_
            iterate 16 (go_big_quiet_step (exact q.out _ _))
            iterate 3 (go_big_quiet_step (fail))
            refine wpQuiet_nil ?_
            intro w6 hw6
            obtain ⟨p6, hw6⟩ := hw6
            have hb6 : Hid (Below w.heap.size w w6) := by rw [hw6]; exact HB.out.trans ((below_regrown W _ _).mono HB.out.size)
            clear hw6 g1 g2 g3 q HW HB hBW
            go_wp2_with fail
            go_roundw
            case rel => exact ⟨j + 1, by omega, by go_num, E.out, hb6.out⟩
            case measure => simp [intOf]; omega
          · have E : Hid (isZ l = false) := HN.out (fun h => hcc (h.2 (by omega)))
            clear HN HS x3 y1 y2 y3 z1 z2
            generalize cR (l[j - 1]'k0).1 l[j].1 = c at *
            generalize (l[j - 1]'k0).1.length = n2 at *
            generalize l[j].1.length = n1 at *
            generalize l[j].2 = i1 at *
            have b2 : decide (0 ≤ c) = true := by simp; omega
            go_wp2_with fail
            rw [HW.out]
            refine wp_region_quiet_below (by kernel_rfl) (by kernel_rfl) ?_
            iterate 16 (go_big_quiet_step (exact q.out _ _))
            iterate 3 (go_big_quiet_step (fail))
            refine wpQuiet_nil ?_
            intro w6 hw6
            obtain ⟨p6, hw6⟩ := hw6
            have hb6 : Hid (Below w.heap.size w w6) := by rw [hw6]; exact HB.out.trans ((below_regrown W _ _).mono HB.out.size)
            clear hw6 g1 g2 g3 q HW HB hBW
            go_wp2_with fail
            go_ret
            exact ⟨by rw [E.out]; rfl, hb6.out⟩
    · have I1 : ¬ (j : Int) < (l.length : Int) := by omega
      have E : Hid (isZ l = true) := by
        obtain rfl : j = l.length := by omega
        exact isZ_yes hc.out.all
      clear hc
      go_wp2_with fail
      go_ret
      exact ⟨by rw [E.out]; rfl, hB⟩
end Go.Proofs.YtkamnepbgbficaaDoor
