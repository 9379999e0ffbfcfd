/- The walk of the law that join's answers are the document's. -/
import Derived.Test.YtlafokjkpbhckaaGreatDoorPackJl
import Derived.Test.YtlafokjkpbhckaaGreatDoorRefJoin
namespace Go.Proofs.YtlafokjkpbhckaaGreatDoor
open Go.RowKit Go.Sort
set_option maxRecDepth 100000
set_option linter.unusedVariables false

theorem jy_ord : ordOk (regOf Tryz.f3.body 18) ((0, true) :: (1, true) :: (2, true) :: (3, true) :: (4, true) :: (5, true) :: (6, true) :: (7, true) :: (8, true) :: (9, true) :: (10, true) :: (12, true) :: (13, true) :: (14, true) :: (15, true) :: (16, true) :: (17, true) :: (18, true) :: (19, true) :: (20, true) :: (21, true) :: (22, true) :: (11, false) :: (23, false) :: (24, true) :: []) = true := by kernel_rfl
theorem ErrsAt.overJ {ad : Fin 11 → Addr} {w : World} (h : ErrsAt ad w) : OverAt (ad 6) w := h.2.2.2.2.2.2.2.2.1
set_option maxHeartbeats 1000000 in
theorem jy_long (a : Option Addr) (len cap : Nat) (eO : Addr) (w : World) (he : OverAt eO w) (h : 200 < (len : Int)) :
    Calls Tryz.prog 3 #[.slice a len cap] w fun e w' => e = .returned (.bool true) ∧ Below w.heap.size w w' := by
  have q := lawFirst12 eO w he
  clear he
  go_enter Tryz.func3, Tryz.ntmps3
  go_wp2_with fail
  refine q.mono ?_
  rintro e w1 ⟨rfl, hb1⟩
  go_wp2_with fail
  go_ret
  exact ⟨rfl, hb1⟩
set_option maxHeartbeats 16000000 in
theorem jy_main (a : Option Addr) (len cap : Nat) (zs : List Int) (ad : Fin 11 → Addr) (h : ¬ 200 < (len : Int)) (w : World) (he : ErrsAt ad w) (ha : IsRow .i64 w a len cap zs) :
    Calls Tryz.prog 3 #[.slice a len cap] w fun e w' => e = .returned (.bool true) ∧ Below w.heap.size w w' := by
  have Ha : Hid (IsRow .i64 w a len cap zs) := ha
  have HE : Hid (ErrsAt ad w) := he
  have q := lawFirst12 _ w he.overJ
  clear ha he
  go_enter Tryz.func3, Tryz.ntmps3
  go_wp2_with fail
  refine q.mono ?_
  rintro e w1 ⟨rfl, hb1⟩
  have B1 : Hid (Below w.heap.size w w1) := hb1
  clear q
  have HS : Hid (SeqAt w1.heap.size a len cap zs 0 (w1.alloc (.cells #[.slice a len cap, .int .i64 0] 26))) := SeqAt.make (Ha.out.below hb1) _
  clear hb1 Ha
  obtain ⟨W2, hW2⟩ : ∃ W2, W2 = w1.alloc (.cells #[.slice a len cap, .int .i64 0] 26) := ⟨_, rfl⟩
  have F2 : Hid (SeqAt w1.heap.size a len cap zs 0 W2 ∧ Below w.heap.size w W2 ∧ w1.heap.size < W2.heap.size ∧ w.heap.size ≤ w1.heap.size) := by
    rw [hW2]
    exact ⟨HS.out, B1.out.trans (one_box.mono B1.out.size), by simp, B1.out.size⟩
  clear HS B1
  have q3 : Calls Tryz.prog 5 #[.pointer (some ⟨w1.heap.size, 0, none⟩), .slice (some ⟨W2.heap.size, 0, none⟩) 3 3, .int .i64 8] (W2.alloc (.cells #[.int .i64 1, .int .i64 2, .int .i64 1] 3)) _ := wideAt w1.heap.size a len cap zs 0 [1, 2, 1] 3 8 rfl (by simp) W2 F2.out.1 (by omega) (by decide) (by decide)
  rw [hW2, World.size_alloc] at q3
  go_wp2_with fail
  refine q3.mono ?_
  rw [← hW2]
  clear hW2
  obtain ⟨S, hS⟩ : ∃ S, S = w1.heap.size := ⟨_, rfl⟩
  rw [← hS] at F2 ⊢
  clear hS
  rintro e w3 ⟨vx, x, p3, rfl, Gx, e3, hp3, s3, b3⟩
  have Gx : Hid _ := Gx
  have F3 : Hid ((AllNew W2.heap.size [(x, vx)] w3 ∧ But S W2 w3) ∧ SeqAt S a len cap zs p3 w3 ∧ p3 ≤ 113) := ⟨⟨(AllNew.nil _ _).add e3, b3⟩, s3, by omega⟩
  clear q3 e3 hp3 s3 b3
  have q4 : Calls Tryz.prog 5 #[.pointer (some ⟨S, 0, none⟩), .slice (some ⟨w3.heap.size, 0, none⟩) 2 2, .int .i64 8] (w3.alloc (.cells #[.int .i64 1, .int .i64 1] 3)) _ := wideAt S a len cap zs p3 [1, 1] 2 8 rfl (by simp) w3 F3.out.2.1 (by have := F3.out.2.2; omega) (by decide) (by decide)
  go_wp2_with fail
  refine q4.mono ?_
  rintro e w4 ⟨vy, y, p4, rfl, Gy, e4, hp4, s4, b4⟩
  have Gy : Hid _ := Gy
  have F4 : Hid ((AllNew W2.heap.size [(y, vy), (x, vx)] w4 ∧ But S W2 w4) ∧ SeqAt S a len cap zs p4 w4 ∧ p4 ≤ 194) := ⟨⟨(F3.out.1.1.but b4 F2.out.2.2.1).add (e4.mono F3.out.1.2.size), F3.out.1.2.trans b4⟩, s4, by have := F3.out.2.2; omega⟩
  clear q4 e4 hp4 s4 b4 F3
  have q5 := makePairs S a len cap zs p4 w4 F4.out.2.1 (by have := F4.out.2.2; omega)
  go_wp2_with fail
  refine q5.mono ?_
  rintro e w5 ⟨ov, rfl, on, p5, _, hon, o5, _, _, b5⟩
  have F5 : Hid (AllNew W2.heap.size [(y, vy), (x, vx)] w5 ∧ PairsIs w5 ov on ∧ Below w.heap.size w w5) := ⟨F4.out.1.1.but b5 F2.out.2.2.1, PairsIs.of_own o5, F2.out.2.1.trans ((F4.out.1.2.trans b5).below F2.out.2.2.2 F2.out.2.1.size)⟩
  have HON : Hid (OnOk on) := hon
  clear q5 hon o5 b5 F4
  have HZ : Hid ((IsZ x ∧ EOk x ∧ x.length ≤ 8) ∧ (IsZ y ∧ EOk y ∧ y.length ≤ 8)) := ⟨Gx.out, Gy.out⟩
  have HM : Hid (x.length * y.length ≤ 65536) := by
    have h1 := Nat.mul_le_mul Gx.out.2.2 Gy.out.2.2
    show _ ≤ _; omega
  clear Gx Gy F2
  have HE6 : Hid (∀ V, Below w.heap.size w V → ErrsAt ad V) := fun V hV => HE.out.on hV
  obtain ⟨E1, hE1⟩ : ∃ E, E = ovE (ad 6) (okZ (jnP on x y)) := ⟨_, rfl⟩
  obtain ⟨C1, hC1⟩ : ∃ C, C = jnC on x y := ⟨_, rfl⟩
  have HS1 : Hid (∀ V, ErrsAt ad V → Calls Tryz.prog 12 #[E1, .int .i64 C1] V fun e w' => e = .returned (.bool true) ∧ Below V.heap.size V w') := fun V hV => by rw [hE1, hC1]; exact seeOver ad (jnP on x y) V hV
  have q6 := jnJoin on x y ov vx vy (ad 6) w5 (HE6.out w5 F5.out.2.2).overJ (Nat.le_trans HZ.out.1.2.2 (by decide)) (Nat.le_trans HZ.out.2.2.2 (by decide)) HM.out HZ.out.1.2.1 HZ.out.2.2.1 HZ.out.1.1 HZ.out.2.1 HON.out F5.out.2.1 (F5.out.1.at 1 rfl).ents (F5.out.1.at 0 rfl).ents
  rw [← hE1] at q6
  clear hE1
  go_wp2_with fail
  refine q6.mono ?_
  rintro e w6 ⟨v1, rfl, e6, b6⟩
  have F6 : Hid (EntsIs w6 vx x ∧ EntsIs w6 vy y ∧ PairsIs w6 ov on ∧ EntsIs w6 v1 (mkZ (jnP on x y)) ∧ Below w.heap.size w w6) := ⟨(F5.out.1.at 1 rfl).ents.on b6, (F5.out.1.at 0 rfl).ents.on b6, F5.out.2.1.on b6, e6.ents, F5.out.2.2.trans (b6.mono F5.out.2.2.size)⟩
  clear q6 e6 b6 F5
  have q7 := refJoin on x y ov vx vy w6 HM.out HZ.out.1.2.1 HZ.out.2.2.1 F6.out.2.2.1 F6.out.1 F6.out.2.1
  rw [← hC1] at q7
  clear hC1
  go_wp2_with fail
  refine q7.mono ?_
  rintro e w7 ⟨v2, rfl, e7, b7⟩
  have F7 : Hid (EntsIs w7 vx x ∧ EntsIs w7 vy y ∧ PairsIs w7 ov on ∧ EntsIs w7 v1 (mkZ (jnP on x y)) ∧ EntsIs w7 v2 (mkZ (jnP on x y)) ∧ Below w.heap.size w w7) := ⟨F6.out.1.on b7, F6.out.2.1.on b7, F6.out.2.2.1.on b7, F6.out.2.2.2.1.on b7, e7.ents, F6.out.2.2.2.2.trans (b7.mono F6.out.2.2.2.2.size)⟩
  clear q7 e7 b7 F6
  obtain ⟨ax, cx, hvx⟩ := F7.out.1.form
  obtain ⟨ay, cy, hvy⟩ := F7.out.2.1.form
  subst hvx hvy
  have lx := F7.out.1.le
  have ly := F7.out.2.1.le
  unfold maxLen at lx ly
  go_wp2_with fail
  go_loopw [12] (fun i wr => ∃ j : Nat, j ≤ x.length ∧ i = .int .i64 j ∧ Hid (Below w7.heap.size w7 wr)) (fun i _ => x.length - (intOf i).toNat)
  case atStart => exact ⟨0, by omega, rfl, Below.refl _ _⟩
  case round =>
    obtain ⟨j, hj, rfl, hT⟩ := hrel
    by_cases k1 : j < x.length
    · have I1 : (j : Int) < (x.length : Int) := by omega
      obtain ⟨ba, oa, ar, cr, hbo, xa1, xa2, xa3⟩ := F7.out.1.at j k1
      subst hbo
      have HT : Hid (Below w7.heap.size w7 wr) := hT.out
      have XA : Hid (w7.cell? ⟨ba, oa + j * 2, none⟩ = some (.slice ar x[j].1.length cr) ∧ RowIs w7 (.slice ar x[j].1.length cr) x[j].1) := ⟨xa1, xa3⟩
      clear hT xa1 xa2 xa3
      generalize x[j].1 = r at *
      go_wp2_with fail
      go_loopw [13] (fun i wr => ∃ q : Nat, q ≤ y.length ∧ i = .int .i64 q ∧ Hid (Below w7.heap.size w7 wr)) (fun i _ => y.length - (intOf i).toNat)
      case atStart => exact ⟨0, by omega, rfl, HT.out⟩
      case round =>
        clear HT
        obtain ⟨q, hq, rfl, hT⟩ := hrel
        by_cases k2 : q < y.length
        · have I2 : (q : Int) < (y.length : Int) := by omega
          have I3 : (0 : Int) ≤ (q : Int) := by omega
          have I4 : (0 : Int) ≤ (j : Int) := by omega
          obtain ⟨bb, ob, br, dr, hbo, xb1, xb2, xb3⟩ := F7.out.2.1.at q k2
          subst hbo
          have HF1 : Hid (∀ V, Below w7.heap.size w7 V → Calls Tryz.prog 9 #[ov, .slice ar r.length cr, .slice br y[q].1.length dr] V fun e w' => e = .returned (.bool (fitP on r y[q].1)) ∧ Below V.heap.size V w') := fun V hV => jnFits on r y[q].1 _ _ _ V HON.out (F7.out.2.2.1.on hV) (XA.out.2.on hV) (xb3.on hV)
          have HF2 : Hid (∀ V, Below w7.heap.size w7 V → Calls Tryz.prog 10 #[ov, .slice ar r.length cr, .slice br y[q].1.length dr] V fun e w' => e = .returned (.bool (fitP on r y[q].1)) ∧ Below V.heap.size V w') := fun V hV => refFits on r y[q].1 _ _ _ V (F7.out.2.2.1.on hV) (XA.out.2.on hV) (xb3.on hV)
          have HT : Hid (Below w7.heap.size w7 wr) := hT.out
          have XB : Hid (w7.cell? ⟨bb, ob + q * 2, none⟩ = some (.slice br y[q].1.length dr)) := xb1
          clear hT xb1 xb2 xb3
          generalize fitP on r y[q].1 = ft at *
          generalize y[q].1.length = ns at *
          generalize r.length = nr at *
          have g0 := Ex.cell XA.out.1
          have g1 := Ex.cell XB.out
          have ne := Ex.ne w7
          have B0 : Hid (Below w7.heap.size w7 wr.drew) := HT.out.drew
          go_wp2_with fail
          refine wp_region_ord_at (Ex w7) (regOf Tryz.f3.body 18) ((0, true) :: (1, true) :: (2, true) :: (3, true) :: (4, true) :: (5, true) :: (6, true) :: (7, true) :: (8, true) :: (9, true) :: (10, true) :: (12, true) :: (13, true) :: (14, true) :: (15, true) :: (16, true) :: (17, true) :: (18, true) :: (19, true) :: (20, true) :: (21, true) :: (22, true) :: (11, false) :: (23, false) :: (24, true) :: []) (by kernel_rfl) (by kernel_rfl) jy_ord B0.out ?_
          generalize wr.drew = v0 at *
          repeat (refine ord_quiet rfl ?_; go_big_quiet_step (fail); refine wpQuiet_nil ?_)
          refine ord_call rfl (by rfl) 9 rfl (enters_of Tryz.func9 (by kernel_rfl) rfl) [ov, .slice ar nr cr, .slice br ns dr] (by rfl) _ (HF1.out v0 B0.out) ?_
          rintro e v1 ⟨rfl, hb0⟩
          have B1 : Hid (Below w7.heap.size w7 v1) := B0.out.trans (hb0.mono B0.out.size)
          clear hb0
          refine ⟨_, rfl, Ex.of B1.out, ?_⟩
          simp only [Act.put, List.setIfInBounds_toArray, List.set_cons_zero, List.set_cons_succ]
          repeat (refine ord_quiet rfl ?_; go_big_quiet_step (fail); refine wpQuiet_nil ?_)
          refine ord_call rfl (by rfl) 10 rfl (enters_of Tryz.func10 (by kernel_rfl) rfl) [ov, .slice ar nr cr, .slice br ns dr] (by rfl) _ (HF2.out v1 B1.out) ?_
          rintro e v2 ⟨rfl, hb1⟩
          have B2 : Hid (Below w7.heap.size w7 v2) := B1.out.trans (hb1.mono B1.out.size)
          clear hb1
          refine ⟨_, rfl, Ex.of B2.out, ?_⟩
          simp only [Act.put, List.setIfInBounds_toArray, List.set_cons_zero, List.set_cons_succ]
          repeat (refine ord_quiet rfl ?_; go_big_quiet_step (fail); refine wpQuiet_nil ?_)
          refine ord_end ?_
          clear HF1 HF2 g0 g1 ne B0 B1 HT
          go_wp2_with fail
          go_roundw
          case rel => exact ⟨q + 1, by omega, by go_num, B2.out⟩
          case measure => simp [intOf]; omega
        · have I2 : ¬ (q : Int) < (y.length : Int) := by omega
          have HT : Hid (Below w7.heap.size w7 wr) := hT.out
          clear hT
          go_wp2_with fail
          go_roundw
          case rel => exact ⟨j + 1, by omega, by go_num, HT.out⟩
          case measure => simp [intOf]; omega
    · have I1 : ¬ (j : Int) < (x.length : Int) := by omega
      have q8 := sameEntries _ _ _ _ wr (F7.out.2.2.2.1.on hT.out) (F7.out.2.2.2.2.1.on hT.out)
      have es : sEs (mkZ (jnP on x y)) (mkZ (jnP on x y)) = true := by unfold sEs; simp
      rw [es] at q8
      have HB : Hid (Below w.heap.size w wr) := F7.out.2.2.2.2.2.trans (hT.out.mono F7.out.2.2.2.2.2.size)
      have HI : Hid (∀ V, Below wr.heap.size wr V → Calls Tryz.prog 12 #[E1, .int .i64 C1] V fun e w' => e = .returned (.bool true) ∧ Below V.heap.size V w') := fun V hV => HS1.out V (HE6.out V (HB.out.trans (hV.mono HB.out.size)))
      clear es hT HS1 HE6 F7 HON HZ HM HE
      go_wp2_with fail
      refine q8.mono ?_
      rintro e w8 ⟨rfl, b8⟩
      have q9 := HI.out w8 b8
      have B8 : Hid (Below wr.heap.size wr w8) := b8
      clear q8 b8 HI
      go_wp2_with fail
      refine q9.mono ?_
      rintro e w9 ⟨rfl, b9⟩
      have B9 : Hid (Below w.heap.size w w9) := HB.out.trans ((B8.out.trans (b9.mono B8.out.size)).mono HB.out.size)
      clear q9 b9
      go_wp2_with fail
      go_ret
      exact ⟨rfl, B9.out⟩
theorem joinSays_walk (a : Option Addr) (len cap : Nat) (zs : List Int) (w : World) (he : ∃ ad, ErrsAt ad w) (ha : IsRow .i64 w a len cap zs) :
    Calls Tryz.prog 3 #[.slice a len cap] w fun e w' => e = .returned (.bool true) ∧ Below w.heap.size w w' := by
  obtain ⟨ad, he⟩ := he
  by_cases h : 200 < (len : Int)
  · exact jy_long a len cap _ w he.overJ h
  · exact jy_main a len cap zs ad h w he ha
end Go.Proofs.YtlafokjkpbhckaaGreatDoor
