/- The walk of the law of the picked columns, one of its three ways -/
import Derived.Test.YtaccinophamgmaaDoorLpCalls
namespace Go.Proofs.YtaccinophamgmaaDoor
open Go.RowKit Go.Sort
set_option maxRecDepth 100000
set_option linter.unusedVariables false

set_option maxHeartbeats 16000000 in
theorem lp_big (a : Option Addr) (len cap : Nat) (zs : List Int) (col out : Int) (h0 : 0 ≤ out) (h1 : ¬ out < 3) (hoI : inI out = true) (ad : Fin 11 → Addr) (h : ¬ 120 < (len : Int)) (w : World) (he : ErrsAt ad w) (ha : IsRow .i64 w a len cap zs) :
    Calls Tryd.prog 5 #[.slice a len cap, .int .i64 col, .int .i64 out] w fun e w' => e = .returned (.bool true) ∧ Below w.heap.size w w' := by
  have Ha : Hid (IsRow .i64 w a len cap zs) := ha
  have HE : Hid (ErrsAt ad w) := he
  have q := lawFirst11 _ _ w he.arov.1 he.arov.2
  clear ha he
  go_enter Tryd.func5, Tryd.ntmps5
  go_wp2_with fail
  refine q.mono ?_
  rintro e w1 ⟨rfl, hb1⟩
  have B1 : Hid (Below w.heap.size w w1) := hb1
  clear q
  have HS : Hid (SeqAt w1.heap.size a len cap zs 0 (w1.alloc (.cells #[.slice a len cap, .int .i64 0] 26))) := SeqAt.make (Ha.out.below hb1) _
  clear hb1
  go_wp2_with fail
  obtain ⟨W3, hW3⟩ : ∃ W3, W3 = (w1.alloc (.cells #[.slice a len cap, .int .i64 0] 26)).alloc (.cells #[.int .i64 1, .int .i64 2, .int .i64 3] 3) := ⟨_, rfl⟩
  rw [← hW3]
  have F3 : Hid (SeqAt w1.heap.size a len cap zs 0 W3 ∧ ColsAt (w1.heap.size + 1) [1, 2, 3] W3 ∧ Below w.heap.size w W3 ∧ w1.heap.size < W3.heap.size) := by
    have c1 := cols_newP (w1.alloc (.cells #[.slice a len cap, .int .i64 0] 26)) [1, 2, 3] 3
    rw [World.size_alloc] at c1
    rw [hW3]
    exact ⟨HS.out.on one_box, c1, B1.out.trans ((one_box.trans (one_box.mono (by simp))).mono B1.out.size), by simp; omega⟩
  clear hW3 HS
  obtain ⟨S, hS⟩ : ∃ S, S = w1.heap.size := ⟨_, rfl⟩
  have HSW : Hid (w.heap.size ≤ S) := by show w.heap.size ≤ S; rw [hS]; exact B1.out.size
  rw [← hS] at F3
  rw [← hS]
  clear hS B1
  have q4 := makeSet S a len cap zs 0 (S + 1) 3 3 [1, 2, 3] 12 W3 F3.out.1 (by decide) (by decide) F3.out.2.1 (by omega) (by decide) (by simp) kinds123P
  refine q4.mono ?_
  rintro e w4 ⟨vz, z, rfl, ⟨p4, iz, ez, lz, nz, hp4, seq4, but4⟩, bz, kz⟩
  have HZ : Hid (S3 1200 12 3 z) := ⟨iz, fun r => by have := bz r; omega, lz, fun e he => (kz e he).1⟩
  have HC := col3 col
  have HO : Hid (¬ (0 ≤ out ∧ out < 3) ∧ inI out = true) := ⟨fun hh => by omega, hoI⟩
  have F4 : Hid (EntsIs w4 vz z ∧ ErrsAt ad w4 ∧ Below w.heap.size w w4) := by
    have bb := F3.out.2.2.1.trans (but4.below HSW.out F3.out.2.2.1.size)
    exact ⟨nz.ents, HE.out.on bb, bb⟩
  clear q4 iz ez lz nz hp4 seq4 but4 bz kz F3 HSW
  obtain ⟨az, cz, hvz⟩ := F4.out.1.form
  have lz := F4.out.1.le
  unfold maxLen at lz
  subst hvz
  go_wp2_with fail
  generalize (wrap64 (col.tmod 3 + 3)).tmod 3 = c at *
  have q5 : Calls Tryd.prog 10 #[.slice (some ⟨w4.heap.size, 0, none⟩) 3 3, .slice az z.length cz] (w4.alloc (.cells #[.int .i64 0, .int .i64 1, .int .i64 2] 3)) _ := lpProject HZ.out [0, 1, 2] (by decide) 3 rfl (by decide) (by decide) (by decide) (by decide) (by decide) _ _ _ w4 F4.out.2.1.arov F4.out.1
  rw [prj_self HZ.out (by decide)] at q5
  refine q5.mono ?_
  rintro e w5 ⟨va, rfl, e5, b5⟩
  have F5 : Hid (EntsIs w5 (.slice az z.length cz) z ∧ ErrsAt ad w5 ∧ EntsIs w5 va z ∧ Below w.heap.size w w5) := ⟨F4.out.1.on b5, F4.out.2.1.on b5, e5, F4.out.2.2.trans (b5.mono F4.out.2.2.size)⟩
  clear q5 e5 b5 F4
  have q6 : Calls Tryd.prog 10 #[.slice (some ⟨w5.heap.size, 0, none⟩) 2 2, .slice az z.length cz] (w5.alloc (.cells #[.int .i64 c, .int .i64 c] 3)) _ := lpProject HZ.out [c, c] (by intro k hk; simp at hk; omega) 2 rfl (by decide) (by decide) (by decide) (by decide) (by decide) _ _ _ w5 F5.out.2.1.arov F5.out.1
  go_wp2_with fail
  refine q6.mono ?_
  rintro e w6 ⟨vb, rfl, e6, b6⟩
  have F6 : Hid (EntsIs w6 (.slice az z.length cz) z ∧ ErrsAt ad w6 ∧ EntsIs w6 va z ∧ EntsIs w6 vb (prjZ [c, c] z) ∧ Below w.heap.size w w6) := ⟨F5.out.1.on b6, F5.out.2.1.on b6, F5.out.2.2.1.on b6, e6, F5.out.2.2.2.trans (b6.mono F5.out.2.2.2.size)⟩
  clear q6 e6 b6 F5
  have H2 : Hid (S3 14400 12 2 (prjZ [c, c] z)) := (HZ.out.prj (ks := [c, c]) (by intro k hk; simp at hk; omega) (by decide)).2.2.1
  have q7 : Calls Tryd.prog 10 #[.slice (some ⟨w6.heap.size, 0, none⟩) 1 1, vb] (w6.alloc (.cells #[.int .i64 1] 3)) _ := lpProject H2.out [1] (by intro k hk; simp at hk; subst hk; decide) 1 rfl (by decide) (by decide) (by decide) (by decide) (by decide) _ _ _ w6 F6.out.2.1.arov F6.out.2.2.2.1
  rw [prj_twice HZ.out HC (by decide) (by decide)] at q7
  go_wp2_with fail
  refine q7.mono ?_
  rintro e w7 ⟨vc, rfl, e7, b7⟩
  have F7 : Hid (EntsIs w7 (.slice az z.length cz) z ∧ ErrsAt ad w7 ∧ EntsIs w7 va z ∧ EntsIs w7 vb (prjZ [c, c] z) ∧ EntsIs w7 vc (prjZ [c] z) ∧ Below w.heap.size w w7) := ⟨F6.out.1.on b7, F6.out.2.1.on b7, F6.out.2.2.1.on b7, F6.out.2.2.2.1.on b7, e7, F6.out.2.2.2.2.trans (b7.mono F6.out.2.2.2.2.size)⟩
  clear q7 e7 b7 F6
  have q8 : Calls Tryd.prog 10 #[.slice (some ⟨w7.heap.size, 0, none⟩) 1 1, .slice az z.length cz] (w7.alloc (.cells #[.int .i64 c] 3)) _ := lpProject HZ.out [c] (by intro k hk; simp at hk; omega) 1 rfl (by decide) (by decide) (by decide) (by decide) (by decide) _ _ _ w7 F7.out.2.1.arov F7.out.1
  go_wp2_with fail
  refine q8.mono ?_
  rintro e w8 ⟨vd, rfl, e8, b8⟩
  have F8 : Hid (EntsIs w8 (.slice az z.length cz) z ∧ ErrsAt ad w8 ∧ EntsIs w8 va z ∧ EntsIs w8 vb (prjZ [c, c] z) ∧ EntsIs w8 vc (prjZ [c] z) ∧ EntsIs w8 vd (prjZ [c] z) ∧ Below w.heap.size w w8) := ⟨F7.out.1.on b8, F7.out.2.1.on b8, F7.out.2.2.1.on b8, F7.out.2.2.2.1.on b8, F7.out.2.2.2.2.1.on b8, e8, F7.out.2.2.2.2.2.trans (b8.mono F7.out.2.2.2.2.2.size)⟩
  clear q8 e8 b8 F7
  have q9 := lpOut HZ.out out HO.out.1 HO.out.2 (by decide) (by decide) (.slice az z.length cz) _ _ w8 F8.out.2.1.arov F8.out.1
  go_wp2_with fail
  refine q9.mono ?_
  rintro e w9 ⟨vq, vi, hvi, rfl, b9⟩
  have HI : Hid (vi = outE (ad 5) z) := hvi
  have F9 : Hid (EntsIs w9 (.slice az z.length cz) z ∧ ErrsAt ad w9 ∧ EntsIs w9 va z ∧ EntsIs w9 vb (prjZ [c, c] z) ∧ EntsIs w9 vc (prjZ [c] z) ∧ EntsIs w9 vd (prjZ [c] z) ∧ Below w.heap.size w w9) := ⟨F8.out.1.on b9, F8.out.2.1.on b9, F8.out.2.2.1.on b9, F8.out.2.2.2.1.on b9, F8.out.2.2.2.2.1.on b9, F8.out.2.2.2.2.2.1.on b9, F8.out.2.2.2.2.2.2.trans (b9.mono F8.out.2.2.2.2.2.2.size)⟩
  clear q9 b9 F8 hvi
  have q10 := lpNone HZ.out (by decide) (by decide) (by decide) (.slice az z.length cz) _ _ w9 F9.out.2.1.arov F9.out.1
  go_wp2_with fail
  refine q10.mono ?_
  rintro e w10 ⟨vx, rfl, e10, b10⟩
  have F10 : Hid (EntsIs w10 (.slice az z.length cz) z ∧ ErrsAt ad w10 ∧ EntsIs w10 va z ∧ EntsIs w10 vb (prjZ [c, c] z) ∧ EntsIs w10 vc (prjZ [c] z) ∧ EntsIs w10 vd (prjZ [c] z) ∧ EntsIs w10 vx (if sumW z = 0 then [] else [([], sumW z)]) ∧ Below w.heap.size w w10) := ⟨F9.out.1.on b10, F9.out.2.1.on b10, F9.out.2.2.1.on b10, F9.out.2.2.2.1.on b10, F9.out.2.2.2.2.1.on b10, F9.out.2.2.2.2.2.1.on b10, e10, F9.out.2.2.2.2.2.2.trans (b10.mono F9.out.2.2.2.2.2.2.size)⟩
  clear q10 e10 b10 F9
  go_wp2_with fail
  go_loopw [21, 22] (fun n k wr => ∃ j : Nat, j ≤ z.length ∧ n = .int .i64 (sumW (z.take j)) ∧ k = .int .i64 j ∧ Hid (Below w10.heap.size w10 wr)) (fun _ k _ => z.length - (intOf k).toNat)
  case atStart => exact ⟨0, by omega, rfl, rfl, Below.refl _ _⟩
  case round =>
    obtain ⟨j, hj, rfl, rfl, hT⟩ := hrel
    by_cases hlt : j < z.length
    · obtain ⟨b, o, a', cap', hbo, z1, z2, hrow⟩ := (F10.out.1.on hT.out).at j hlt
      have I0 : (0 : Int) ≤ (j : Int) := by omega
      have I1 : (j : Int) < (z.length : Int) := by omega
      have hw : wrap64 (sumW (z.take j) + z[j].2) = sumW (z.take (j + 1)) := by
        rw [sumW_take hlt]
        have h1 := sumW_in HZ.out j
        have h2 := HZ.out.small z[j] (List.getElem_mem hlt)
        unfold wrap64; omega
      subst hbo
      go_wp2_with fail
      rw [hw]
      go_roundw
      case rel => exact ⟨j + 1, by omega, rfl, by go_num, hT.out⟩
      case measure => simp [intOf]; omega
    · obtain rfl : j = z.length := by omega
      have I1 : ¬ (z.length : Int) < (z.length : Int) := by omega
      rw [List.take_length]
      have F11 : Hid (EntsIs wr (.slice az z.length cz) z ∧ ErrsAt ad wr ∧ EntsIs wr va z ∧ EntsIs wr vc (prjZ [c] z) ∧ EntsIs wr vd (prjZ [c] z) ∧ EntsIs wr vx (if sumW z = 0 then [] else [([], sumW z)]) ∧ Below w.heap.size w wr) := ⟨F10.out.1.on hT.out, F10.out.2.1.on hT.out, F10.out.2.2.1.on hT.out, F10.out.2.2.2.2.1.on hT.out, F10.out.2.2.2.2.2.1.on hT.out, F10.out.2.2.2.2.2.2.1.on hT.out, F10.out.2.2.2.2.2.2.2.trans (hT.out.mono F10.out.2.2.2.2.2.2.2.size)⟩
      have q21 := sameEntries z z va (.slice az z.length cz) wr F11.out.2.2.1 F11.out.1
      have es : sEs z z = true := by unfold sEs; simp
      rw [es] at q21
      clear es F10
      have HCD : Hid (EntsIs wr vc (prjZ [c] z) ∧ EntsIs wr vd (prjZ [c] z)) := ⟨F11.out.2.2.2.1, F11.out.2.2.2.2.1⟩
      have H22 : Hid (∀ V, Below wr.heap.size wr V → Calls Tryd.prog 15 #[vc, vd] V fun e w' => e = .returned (.bool true) ∧ Below V.heap.size V w') := fun V hV => by
        have q := sameEntries (prjZ [c] z) (prjZ [c] z) vc vd V (HCD.out.1.on hV) (HCD.out.2.on hV)
        have es : sEs (prjZ [c] z) (prjZ [c] z) = true := by unfold sEs; simp
        rw [es] at q
        exact q
      have HE1 : Hid (ErrsAt ad wr) := F11.out.2.1
      have H23 : Hid (∀ V, Below wr.heap.size wr V → Calls Tryd.prog 18 #[errV (ad 5), .int .i64 106] V fun e w' => e = .returned (.bool true) ∧ Below V.heap.size V w') := fun V hV => seeIs ad (some 5) 106 V (HE1.out.on hV)
      unfold errV at H23
      have hU : Hid (∀ b, ¬ (some undef = some (Value.bool b))) := fun b hb => by cases hb
      have hz0 : z.length = 0 → sumW z = 0 := fun e => by rw [List.length_eq_zero_iff.1 e]; rfl
      have hi : vi = if z.length = 0 then .nilIface else errV (ad 5) := by rw [HI.out]; unfold outE; simp [List.length_eq_zero_iff]
      have fx := F11.out.2.2.2.2.2.1
      have HB : Hid (Below w.heap.size w wr) := F11.out.2.2.2.2.2.2
      clear HI F11 hT hj HZ H2 lz HO HC
      generalize z.length = nl at *
      generalize sumW z = sm at *
      by_cases hz : nl = 0
      · have hs := hz0 hz
        rw [if_pos hz] at hi
        rw [if_pos hs] at fx
        obtain ⟨ax, cx, hx⟩ := fx.form
        simp only [List.length_nil] at hx
        clear hz0 fx
        subst hz hs hi hx
        go_wp2_with fail
        refine q21.mono ?_
        rintro e w11 ⟨rfl, b11⟩
        go_wp2_with fail
        refine (H22.out w11 b11).mono ?_
        rintro e w12 ⟨rfl, b12⟩
        have B12 : Hid (Below wr.heap.size wr w12) := b11.trans (b12.mono b11.size)
        clear q21 b11 b12
        go_wp2_with fail
        all_goals try (exfalso; exact hU.out _ (by assumption))
        go_ret
        exact ⟨rfl, HB.out.trans (B12.out.mono HB.out.size)⟩
      · have I2 : ¬ (nl : Int) = 0 := by omega
        have I3 : (0 : Int) < (nl : Int) := by omega
        rw [if_neg hz] at hi
        unfold errV at hi
        clear hz0
        subst hi
        by_cases hs : sm = 0
        · rw [if_pos hs] at fx
          obtain ⟨ax, cx, hx⟩ := fx.form
          simp only [List.length_nil] at hx
          clear fx
          subst hx hs
          go_wp2_with fail
          refine q21.mono ?_
          rintro e w11 ⟨rfl, b11⟩
          go_wp2_with fail
          refine (H22.out w11 b11).mono ?_
          rintro e w12 ⟨rfl, b12⟩
          have B12 : Hid (Below wr.heap.size wr w12) := b11.trans (b12.mono b11.size)
          clear q21 b11 b12
          go_wp2_with fail
          refine (H23.out w12 B12.out).mono ?_
          rintro e w13 ⟨rfl, b13⟩
          have B13 : Hid (Below wr.heap.size wr w13) := B12.out.trans (b13.mono B12.out.size)
          clear b13
          go_wp2_with fail
          all_goals try (exfalso; exact hU.out _ (by assumption))
          go_ret
          exact ⟨rfl, HB.out.trans (B13.out.mono HB.out.size)⟩
        · rw [if_neg hs] at fx
          have HX : Hid (EntsIs wr vx [([], sm)]) := fx
          obtain ⟨ax, cx, hx⟩ := fx.form
          simp only [List.length_cons, List.length_nil, Nat.zero_add] at hx
          clear fx
          subst hx
          go_wp2_with fail
          refine q21.mono ?_
          rintro e w11 ⟨rfl, b11⟩
          go_wp2_with fail
          refine (H22.out w11 b11).mono ?_
          rintro e w12 ⟨rfl, b12⟩
          have B12 : Hid (Below wr.heap.size wr w12) := b11.trans (b12.mono b11.size)
          clear q21 b11 b12
          go_wp2_with fail
          refine (H23.out w12 B12.out).mono ?_
          rintro e w13 ⟨rfl, b13⟩
          have B13 : Hid (Below wr.heap.size wr w13) := B12.out.trans (b13.mono B12.out.size)
          clear b13
          obtain ⟨b, o, a', cap', hbo, z1, z2, hrow⟩ := (HX.out.on B13.out).at 0 (by simp)
          subst hbo
          simp only [Nat.zero_mul, Nat.add_zero, List.getElem_cons_zero] at z1 z2
          go_wp2_with fail
          all_goals try (exfalso; exact hU.out _ (by assumption))
          go_ret
          exact ⟨rfl, HB.out.trans (B13.out.mono HB.out.size)⟩
end Go.Proofs.YtaccinophamgmaaDoor
