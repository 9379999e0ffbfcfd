/- The walk of the law of joins by two pairs, by one, by none. -/
import Derived.Test.YtlafokjkpbhckaaDoorPackJl
namespace Go.Proofs.YtlafokjkpbhckaaDoor
open Go.RowKit Go.Sort
set_option maxRecDepth 100000
set_option linter.unusedVariables false

theorem jp_ord17 : ordOk (regOf Tryd.f3.body 17) ((0, true) :: (1, true) :: (2, true) :: (3, true) :: (4, true) :: (6, true) :: (7, true) :: (8, true) :: (9, true) :: (5, false) :: (10, false) :: (11, true) :: (12, true) :: []) = true := by kernel_rfl
theorem jp_ord19 : ordOk (regOf Tryd.f3.body 19) ((0, true) :: (1, true) :: (3, true) :: (4, true) :: (5, true) :: (6, true) :: (7, true) :: (2, false) :: (8, true) :: []) = true := by kernel_rfl
theorem RowIs.behind {w : World} {b o n cap : Nat} {l : List Val} (h : RowIs w (.slice (some ⟨b, o, none⟩) n cap) l) (k : Nat) (hk : k < l.length) : RowIs w (.slice (some ⟨b, o + k * 3, none⟩) (n - k) (cap - k)) (l.drop k) := by
  rcases h with ⟨_, _, _, rfl⟩ | ⟨b', o', cap', e, h1, h2, h3, h4⟩
  · simp at hk
  · simp only [Value.slice.injEq, Option.some.injEq, Addr.mk.injEq, and_true] at e
    obtain ⟨⟨rfl, rfl⟩, rfl, rfl⟩ := e
    refine .inr ⟨b, o + k * 3, cap - k, by rw [List.length_drop], by rw [List.length_drop]; omega, by omega, h3, fun i hi => ?_⟩
    rw [List.length_drop] at hi
    have := h4 (k + i) (by omega)
    rw [List.getElem_drop, show o + k * 3 + i * 3 = o + (k + i) * 3 by omega]
    exact this
def fit11 (e : Ent) : Bool := fitP [(1, 1)] (e.1.take 2) (e.1.drop 2)
theorem fit_count {Z : List Ent} {j : Nat} (h : j < Z.length) : ((Z.take (j + 1)).filter fit11).length = ((Z.take j).filter fit11).length + if fitP [(1, 1)] (Z[j].1.take 2) (Z[j].1.drop 2) = true then 1 else 0 := by
  rw [List.take_succ_eq_append_getElem h, List.filter_append, List.length_append, List.filter_cons, List.filter_nil]
  unfold fit11
  split <;> rfl
theorem jp_one {x y : List Ent} (hx : S3 700 7 2 x) (hy : S3 700 7 2 y) : mkZ (jnP [(0, 0), (1, 1)] x y) = (mkZ (jnP [(0, 0)] x y)).filter fit11 := jn_more hx hy [(0, 0)] [(1, 1)] (by decide)
theorem jp_get {x y : List Ent} (hx : S3 700 7 2 x) (hy : S3 700 7 2 y) {j : Nat} (hj : j < (mkZ (jnP [(0, 0)] x y)).length) (hf : fitP [(1, 1)] ((mkZ (jnP [(0, 0)] x y))[j].1.take 2) ((mkZ (jnP [(0, 0)] x y))[j].1.drop 2) = true) :
    gt (mkZ (jnP [(0, 0)] x y))[j].1 (mkZ (jnP [(0, 0), (1, 1)] x y)) = (mkZ (jnP [(0, 0)] x y))[j].2 := by
  have h1 := mkZ_isZ (jnP [(0, 0), (1, 1)] x y)
  have h2 := mkZ_isZ (jnP [(0, 0)] x y)
  rw [gt_wt h1.1, jp_one hx hy]
  have := wt_filter (fun r => fitP [(1, 1)] (r.take 2) (r.drop 2)) (mkZ (jnP [(0, 0)] x y))[j].1 (mkZ (jnP [(0, 0)] x y))
  unfold fit11
  rw [this, if_pos hf, wt_mem h2.1 (List.getElem_mem hj)]
set_option maxHeartbeats 1000000 in
theorem jp_long (a : Option Addr) (len cap : Nat) (eO : Addr) (w : World) (he : OverAt eO w) (h : 150 < (len : Int)) :
    Calls Tryd.prog 3 #[.slice a len cap] w fun e w' => e = .returned (.bool true) ∧ Below w.heap.size w w' := by
  have q := lawFirst12 eO w he
  clear he
  go_enter Tryd.func3, Tryd.ntmps3
  go_wp2_with fail
  refine q.mono ?_
  rintro e w1 ⟨rfl, hb1⟩
  go_wp2_with fail
  go_ret
  exact ⟨rfl, hb1⟩
set_option maxHeartbeats 16000000 in
theorem jp_main (a : Option Addr) (len cap : Nat) (zs : List Int) (eO : Addr) (h : ¬ 150 < (len : Int)) (w : World) (he : OverAt eO w) (ha : IsRow .i64 w a len cap zs) :
    Calls Tryd.prog 3 #[.slice a len cap] w fun e w' => e = .returned (.bool true) ∧ Below w.heap.size w w' := by
  have Ha : Hid (IsRow .i64 w a len cap zs) := ha
  have HE : Hid (OverAt eO w) := he
  have q := lawFirst12 _ w he
  clear ha he
  go_enter Tryd.func3, Tryd.ntmps3
  go_wp2_with fail
  refine q.mono ?_
  rintro e w1 ⟨rfl, hb1⟩
  have B1 : Hid (Below w.heap.size w w1) := hb1
  clear q
  have HS : Hid (SeqAt w1.heap.size a len cap zs 0 (w1.alloc (.cells #[.slice a len cap, .int .i64 0] 26))) := SeqAt.make (Ha.out.below hb1) _
  clear hb1 Ha
  obtain ⟨W2, hW2⟩ : ∃ W2, W2 = w1.alloc (.cells #[.slice a len cap, .int .i64 0] 26) := ⟨_, rfl⟩
  have F2 : Hid (SeqAt w1.heap.size a len cap zs 0 W2 ∧ Below w.heap.size w W2 ∧ w1.heap.size < W2.heap.size ∧ w.heap.size ≤ w1.heap.size) := by
    rw [hW2]
    exact ⟨HS.out, B1.out.trans (one_box.mono B1.out.size), by simp, B1.out.size⟩
  clear HS B1
  have q3 : Calls Tryd.prog 8 #[.pointer (some ⟨w1.heap.size, 0, none⟩), .slice (some ⟨W2.heap.size, 0, none⟩) 2 2, .int .i64 7] (W2.alloc (.cells #[.int .i64 1, .int .i64 1] 3)) _ := setAt w1.heap.size a len cap zs 0 [1, 1] 2 7 rfl (by simp) W2 F2.out.1 (by omega) (by decide) (by decide)
  rw [hW2, World.size_alloc] at q3
  go_wp2_with fail
  refine q3.mono ?_
  rw [← hW2]
  clear hW2
  obtain ⟨S, hS⟩ : ∃ S, S = w1.heap.size := ⟨_, rfl⟩
  rw [← hS] at F2 ⊢
  clear hS
  rintro e w3 ⟨vx, x, p3, rfl, Gx, e3, hp3, s3, b3⟩
  have Gx : Hid _ := Gx
  have F3 : Hid ((AllNew W2.heap.size [(x, vx)] w3 ∧ But S W2 w3) ∧ SeqAt S a len cap zs p3 w3 ∧ p3 ≤ 71) := ⟨⟨(AllNew.nil _ _).add e3, b3⟩, s3, by omega⟩
  clear q3 e3 hp3 s3 b3
  have q4 : Calls Tryd.prog 8 #[.pointer (some ⟨S, 0, none⟩), .slice (some ⟨w3.heap.size, 0, none⟩) 2 2, .int .i64 7] (w3.alloc (.cells #[.int .i64 1, .int .i64 1] 3)) _ := setAt S a len cap zs p3 [1, 1] 2 7 rfl (by simp) w3 F3.out.2.1 (by have := F3.out.2.2; omega) (by decide) (by decide)
  go_wp2_with fail
  refine q4.mono ?_
  rintro e w4 ⟨vy, y, p4, rfl, Gy, e4, hp4, s4, b4⟩
  have Gy : Hid _ := Gy
  have F4 : Hid ((AllNew W2.heap.size [(y, vy), (x, vx)] w4 ∧ But S W2 w4) ∧ SeqAt S a len cap zs p4 w4 ∧ p4 ≤ 142) := ⟨⟨(F3.out.1.1.but b4 F2.out.2.2.1).add (e4.mono F3.out.1.2.size), F3.out.1.2.trans b4⟩, s4, by have := F3.out.2.2; omega⟩
  clear q4 e4 hp4 s4 b4 F3
  have HX : Hid (S3 700 7 2 x ∧ S3 700 7 2 y) := ⟨Gx.out.1, Gy.out.1⟩
  have BW : Hid (Below w.heap.size w w4) := F2.out.2.1.trans (F4.out.1.2.below F2.out.2.2.2 F2.out.2.1.size)
  have HON : Hid (OnOk [(0, 0), (1, 1)]) := ⟨by simp, fun p hp => by simp at hp; rcases hp with rfl | rfl <;> exact ⟨rfl, rfl⟩⟩
  have F4 : Hid (AllIs [(y, vy), (x, vx)] w4) := F4.out.1.1.is
  clear F2 Gx Gy
  have q5 : Calls Tryd.prog 9 #[.slice (some ⟨w4.heap.size, 0, none⟩) 2 2, vx, vy] (w4.alloc (.cells #[.int .i64 0, .int .i64 0, .int .i64 1, .int .i64 1] 33)) _ := jnSmall HX.out.1 HX.out.2 (by decide) (by decide) (by decide) (by decide) (by decide) (by decide) [(0, 0), (1, 1)] HON.out _ vx vy eO _ ((HE.out.on BW.out).on one_box) (PairsIs.two w4 0 0 1 1 33) ((F4.out.at 1 rfl).on one_box) ((F4.out.at 0 rfl).on one_box)
  go_wp2_with fail
  refine q5.mono ?_
  rintro e w5 ⟨v1, rfl, e5, b5⟩
  have c5 : Below w4.heap.size w4 w5 := one_box.trans (b5.mono (by simp))
  have F5 : Hid (AllIs [(mkZ (jnP [(0, 0), (1, 1)] x y), v1), (y, vy), (x, vx)] w5 ∧ Below w.heap.size w w5) := ⟨(F4.out.on c5).add e5, BW.out.trans (c5.mono BW.out.size)⟩
  clear q5 e5 b5 c5 F4 BW
  have q6 : Calls Tryd.prog 9 #[.slice (some ⟨w5.heap.size, 0, none⟩) 1 1, vx, vy] (w5.alloc (.cells #[.int .i64 0, .int .i64 0] 33)) _ := jnSmall HX.out.1 HX.out.2 (by decide) (by decide) (by decide) (by decide) (by decide) (by decide) [(0, 0)] (on_one rfl rfl) _ vx vy eO _ ((HE.out.on F5.out.2).on one_box) (PairsIs.one w5 0 0 33) ((F5.out.1.at 2 rfl).on one_box) ((F5.out.1.at 1 rfl).on one_box)
  go_wp2_with fail
  refine q6.mono ?_
  rintro e w6 ⟨v2, rfl, e6, b6⟩
  have c6 : Below w5.heap.size w5 w6 := one_box.trans (b6.mono (by simp))
  have F6 : Hid (AllIs [(mkZ (jnP [(0, 0)] x y), v2), (mkZ (jnP [(0, 0), (1, 1)] x y), v1), (y, vy), (x, vx)] w6 ∧ Below w.heap.size w w6) := ⟨(F5.out.1.on c6).add e6, F5.out.2.trans (c6.mono F5.out.2.size)⟩
  clear q6 e6 b6 c6 F5
  have q7 := jnSmall HX.out.1 HX.out.2 (by decide) (by decide) (by decide) (by decide) (by decide) (by decide) [] ⟨by simp, by simp⟩ (.slice none 0 0) vx vy eO w6 (HE.out.on F6.out.2) (PairsIs.nil _ _ _) (F6.out.1.at 3 rfl) (F6.out.1.at 2 rfl)
  go_wp2_with fail
  refine q7.mono ?_
  rintro e w7 ⟨v3, rfl, e7, b7⟩
  have F7 : Hid (AllIs [(mkZ (jnP [] x y), v3), (mkZ (jnP [(0, 0)] x y), v2), (mkZ (jnP [(0, 0), (1, 1)] x y), v1), (y, vy), (x, vx)] w7 ∧ Below w.heap.size w w7) := ⟨(F6.out.1.on b7).add e7, F6.out.2.trans (b7.mono F6.out.2.size)⟩
  clear q7 e7 b7 F6 HE HON
  have HC : Hid (∀ j (h : j < (mkZ (jnP [(0, 0)] x y)).length), (mkZ (jnP [(0, 0)] x y))[j].1.length = 4) := fun j h => (HX.out.1.jn HX.out.2 _ (by decide)).2.1.2.2.2 _ (List.getElem_mem h)
  have HG : Hid (∀ j (h : j < (mkZ (jnP [(0, 0)] x y)).length), fitP [(1, 1)] ((mkZ (jnP [(0, 0)] x y))[j].1.take 2) ((mkZ (jnP [(0, 0)] x y))[j].1.drop 2) = true → gt (mkZ (jnP [(0, 0)] x y))[j].1 (mkZ (jnP [(0, 0), (1, 1)] x y)) = (mkZ (jnP [(0, 0)] x y))[j].2) := fun j h hf => jp_get HX.out.1 HX.out.2 h hf
  have HL : Hid ((mkZ (jnP [(0, 0), (1, 1)] x y)).length = ((mkZ (jnP [(0, 0)] x y)).filter fit11).length ∧ (mkZ (jnP [] x y)).length = x.length * y.length ∧ isZ (mkZ (jnP [] x y)) = true ∧ (mkZ (jnP [(0, 0)] x y)).length ≤ 49) := by
    refine ⟨by rw [jp_one HX.out.1 HX.out.2], ?_, isZ_yes (mkZ_isZ _), (HX.out.1.jn HX.out.2 _ (by decide)).2.1.2.2.1⟩
    rw [HX.out.1.jn_len HX.out.2 _ (by decide), jn_all]
  have HXL : Hid (x.length ≤ 7 ∧ y.length ≤ 7) := ⟨HX.out.1.2.2.1, HX.out.2.2.2.1⟩
  clear HX
  obtain ⟨ax, cx, hvx⟩ := (F7.out.1.at 4 rfl : EntsIs w7 vx x).form
  obtain ⟨ay, cy, hvy⟩ := (F7.out.1.at 3 rfl : EntsIs w7 vy y).form
  obtain ⟨a1, c1, hv1⟩ := (F7.out.1.at 2 rfl : EntsIs w7 v1 _).form
  obtain ⟨a2, c2, hv2⟩ := (F7.out.1.at 1 rfl : EntsIs w7 v2 _).form
  obtain ⟨a3, c3, hv3⟩ := (F7.out.1.at 0 rfl : EntsIs w7 v3 _).form
  subst hvx hvy hv1 hv2 hv3
  generalize mkZ (jnP [(0, 0), (1, 1)] x y) = Z1 at *
  generalize mkZ (jnP [(0, 0)] x y) = Z2 at *
  generalize mkZ (jnP [] x y) = Z3 at *
  have hz2 : Z2.length ≤ 49 := HL.out.2.2.2
  go_wp2_with fail
  go_loopw [13, 14] (fun n i wr => ∃ j : Nat, j ≤ Z2.length ∧ n = .int .i64 (((Z2.take j).filter fit11).length : Nat) ∧ i = .int .i64 j ∧ Hid (Below w7.heap.size w7 wr)) (fun _ i _ => Z2.length - (intOf i).toNat)
  case atStart => exact ⟨0, by omega, by rw [List.take_zero]; rfl, rfl, Below.refl _ _⟩
  case round =>
    obtain ⟨j, hj, rfl, rfl, hT⟩ := hrel
    by_cases k1 : j < Z2.length
    · have I1 : (j : Int) < (Z2.length : Int) := by omega
      have I3 : (0 : Int) ≤ (j : Int) := by omega
      have HT : Hid (Below w7.heap.size w7 wr) := hT.out
      obtain ⟨ba, oa, ar, cr, hbo, xa1, xa2, xa3⟩ := (F7.out.1.at 1 rfl : EntsIs w7 (.slice a2 Z2.length c2) Z2).at j k1
      have h4 := HC.out j k1
      obtain ⟨br, orr, crr, har⟩ := xa3.addr (fun e => by rw [e] at h4; cases h4)
      rw [h4] at xa1 xa3 har
      simp only [Value.slice.injEq, true_and] at har
      obtain ⟨har, hcr⟩ := har
      subst hbo har hcr
      have hcap := xa3.cap (fun e => by rw [e] at h4; cases h4)
      rw [h4] at hcap
      unfold maxLen at hcap
      have XA : Hid (w7.cell? ⟨ba, oa + j * 2, none⟩ = some (.slice (some ⟨br, orr, none⟩) 4 cr) ∧ w7.cell? ⟨ba, oa + j * 2 + 1, none⟩ = some (.int .i64 Z2[j].2)) := ⟨xa1, xa2⟩
      have XR : Hid (RowIs w7 (.slice (some ⟨br, orr, none⟩) 4 cr) Z2[j].1 ∧ RowIs w7 (.slice (some ⟨br, orr, none⟩) 2 cr) (Z2[j].1.take 2) ∧ RowIs w7 (.slice (some ⟨br, orr + 2 * 3, none⟩) 2 (cr - 2)) (Z2[j].1.drop 2)) := ⟨xa3, xa3.cut 2 (by omega), xa3.behind 2 (by omega)⟩
      have HCN : Hid (((Z2.take (j + 1)).filter fit11).length = ((Z2.take j).filter fit11).length + if fitP [(1, 1)] (Z2[j].1.take 2) (Z2[j].1.drop 2) = true then 1 else 0) := fit_count k1
      have HCB : Hid (((Z2.take j).filter fit11).length ≤ 49) := by
        have := List.length_filter_le fit11 (Z2.take j)
        rw [List.length_take] at this
        show _ ≤ _; omega
      have HGJ := HG.out j k1
      have HFT : Hid (∀ V, Below w7.heap.size w7 V → Calls Tryd.prog 10 #[.slice (some ⟨V.heap.size, 0, none⟩) 1 1, .slice (some ⟨br, orr, none⟩) 2 cr, .slice (some ⟨br, orr + 2 * 3, none⟩) 2 (cr - 2)] (V.alloc (.cells #[.int .i64 1, .int .i64 1] 33)) fun e w' => e = .returned (.bool (fitP [(1, 1)] (Z2[j].1.take 2) (Z2[j].1.drop 2))) ∧ Below V.heap.size V w') := fun V hV =>
        (jnFits [(1, 1)] _ _ _ _ _ _ (on_one rfl rfl) (PairsIs.one V 1 1 33) ((XR.out.2.1.on hV).on one_box) ((XR.out.2.2.on hV).on one_box)).mono fun e w' ⟨h1, h2⟩ => ⟨h1, one_box.trans (h2.mono (by simp))⟩
      have HGT : Hid (fitP [(1, 1)] (Z2[j].1.take 2) (Z2[j].1.drop 2) = true → ∀ V, Below w7.heap.size w7 V → Calls Tryd.prog 11 #[.slice a1 Z1.length c1, .slice (some ⟨br, orr, none⟩) 4 cr] V fun e w' => e = .returned (.int .i64 Z2[j].2) ∧ Below V.heap.size V w') := fun hf V hV => by
        have := refGet Z1 Z2[j].1 (.slice a1 Z1.length c1) (.slice (some ⟨br, orr, none⟩) 4 cr) V ((F7.out.1.at 2 rfl).on hV) (XR.out.1.on hV)
        rw [HGJ hf] at this
        exact this
      have y1 := cell_on xa1 HT.out
      clear hT xa1 xa2 xa3 HGJ XR h4
      generalize fitP [(1, 1)] (Z2[j].1.take 2) (Z2[j].1.drop 2) = ft at *
      generalize hxw : Z2[j].2 = xw at *
      clear hxw
      generalize ((Z2.take j).filter fit11).length = n0 at *
      have I5 : ¬ (cr : Int) < 2 := by omega
      have I6 : ¬ cr = 2 := by omega
      have I7 : 2 ≤ cr := by omega
      have g0 := Ex.cell XA.out.1
      have ne := Ex.ne w7
      have B0 : Hid (Below w7.heap.size w7 wr.drew) := HT.out.drew
      go_wp2_with fail
      refine wp_region_ord_at (Ex w7) (regOf Tryd.f3.body 17) ((0, true) :: (1, true) :: (2, true) :: (3, true) :: (4, true) :: (6, true) :: (7, true) :: (8, true) :: (9, true) :: (5, false) :: (10, false) :: (11, true) :: (12, true) :: []) (by kernel_rfl) (by kernel_rfl) jp_ord17 B0.out ?_
      generalize wr.drew = v0 at *
      repeat (refine ord_quiet rfl ?_; go_big_quiet_step (fail); refine wpQuiet_nil ?_)
      refine ord_loud rfl ?_
      intro K hK
      go_simp
      refine hK _ _ (Ex.of (B0.out.trans (one_box.mono B0.out.size))) ?_
      clear hK
      repeat (refine ord_quiet rfl ?_; go_big_quiet_step (fail); refine wpQuiet_nil ?_)
      refine ord_call rfl (by rfl) 10 rfl (enters_of Tryd.func10 (by kernel_rfl) rfl) [.slice (some ⟨v0.heap.size, 0, none⟩) 1 1, .slice (some ⟨br, orr, none⟩) 2 cr, .slice (some ⟨br, orr + 2 * 3, none⟩) 2 (cr - 2)] (by rfl) _ (HFT.out v0 B0.out) ?_
      rintro e v1 ⟨rfl, hb0⟩
      have B1 : Hid (Below w7.heap.size w7 v1) := B0.out.trans (hb0.mono B0.out.size)
      clear hb0
      refine ⟨_, rfl, Ex.of B1.out, ?_⟩
      simp only [Act.put, List.setIfInBounds_toArray, List.set_cons_zero, List.set_cons_succ]
      repeat (refine ord_quiet rfl ?_; go_big_quiet_step (fail); refine wpQuiet_nil ?_)
      refine ord_end ?_
      clear HFT B0 HT g0 ne y1
      cases ft
      · clear HGT
        have hcn : ((Z2.take (j + 1)).filter fit11).length = n0 := by rw [HCN.out]; rfl
        go_wp2_with fail
        go_roundw
        case rel => exact ⟨j + 1, by omega, by rw [hcn], by go_num, B1.out⟩
        case measure => simp [intOf]; omega
      · have hcn : ((Z2.take (j + 1)).filter fit11).length = n0 + 1 := by rw [HCN.out]; rfl
        have hsum : Hid ((n0 : Int) + 1 = (((Z2.take (j + 1)).filter fit11).length : Int)) := by show _ = _; rw [hcn]; omega
        have hn49 : n0 ≤ 49 := HCB.out
        clear hcn
        have hq : Hid (∀ V, Below w7.heap.size w7 V → Calls Tryd.prog 11 #[.slice a1 Z1.length c1, .slice (some ⟨br, orr, none⟩) 4 cr] V fun e w' => e = .returned (.int .i64 xw) ∧ Below V.heap.size V w') := HGT.out (by first | rfl | trivial)
        have g2 := Ex.cell XA.out.2
        have ne := Ex.ne w7
        have D0 : Hid (Below w7.heap.size w7 v1.drew) := B1.out.drew
        clear HGT
        go_wp2_with fail
        refine wp_region_ord_at (Ex w7) (regOf Tryd.f3.body 19) ((0, true) :: (1, true) :: (3, true) :: (4, true) :: (5, true) :: (6, true) :: (7, true) :: (2, false) :: (8, true) :: []) (by kernel_rfl) (by kernel_rfl) jp_ord19 D0.out ?_
        generalize v1.drew = v2 at *
        repeat (refine ord_quiet rfl ?_; go_big_quiet_step (fail); refine wpQuiet_nil ?_)
        refine ord_call rfl (by rfl) 11 rfl (enters_of Tryd.func11 (by kernel_rfl) rfl) [.slice a1 Z1.length c1, .slice (some ⟨br, orr, none⟩) 4 cr] (by rfl) _ (hq.out v2 D0.out) ?_
        rintro e v3 ⟨rfl, hb3⟩
        have D3 : Hid (Below w7.heap.size w7 v3) := D0.out.trans (hb3.mono D0.out.size)
        clear hb3
        refine ⟨_, rfl, Ex.of D3.out, ?_⟩
        simp only [Act.put, List.setIfInBounds_toArray, List.set_cons_zero, List.set_cons_succ]
        repeat (refine ord_quiet rfl ?_; go_big_quiet_step (fail); refine wpQuiet_nil ?_)
        refine ord_end ?_
        clear hq g2 ne D0
        go_wp2_with fail
        go_roundw
        case rel => exact ⟨j + 1, by omega, congrArg (Value.int .i64) hsum.out, by go_num, D3.out⟩
        case measure => simp [intOf]; omega
    · have I1 : ¬ (j : Int) < (Z2.length : Int) := by omega
      obtain rfl : j = Z2.length := by omega
      rw [List.take_length, ← HL.out.1]
      have HB : Hid (Below w.heap.size w wr) := F7.out.2.trans (hT.out.mono F7.out.2.size)
      have q8 := refCheckSet Z3 (.slice a3 Z3.length c3) wr ((F7.out.1.at 0 rfl : EntsIs w7 (.slice a3 Z3.length c3) Z3).on hT.out)
      rw [HL.out.2.2.1] at q8
      have hl3 : Z3.length = x.length * y.length := HL.out.2.1
      have hmul : wrap64 ((x.length : Int) * (y.length : Int)) = (Z3.length : Int) := by
        rw [hl3]
        have h1 := Nat.mul_le_mul HXL.out.1 HXL.out.2
        rw [← Int.natCast_mul]
        unfold wrap64; omega
      clear hT F7 HC HG HL HXL hl3 hz2
      generalize x.length = nx at *
      generalize y.length = ny at *
      generalize Z1.length = n1 at *
      generalize Z3.length = n3 at *
      generalize Z2.length = n2 at *
      have hU : Hid (∀ b, ¬ (some undef = some (Value.bool b))) := fun b hb => by cases hb
      go_wp2_with fail
      refine q8.mono ?_
      rintro e w8 ⟨rfl, b8⟩
      have B8 : Hid (Below w.heap.size w w8) := HB.out.trans (b8.mono HB.out.size)
      clear q8 b8
      go_wp2_with fail
      all_goals try (exfalso; exact hU.out _ (by assumption))
      go_ret
      exact ⟨rfl, B8.out⟩
theorem joinPairs_walk (a : Option Addr) (len cap : Nat) (zs : List Int) (w : World) (he : ∃ ad, OverAt ad w) (ha : IsRow .i64 w a len cap zs) :
    Calls Tryd.prog 3 #[.slice a len cap] w fun e w' => e = .returned (.bool true) ∧ Below w.heap.size w w' := by
  obtain ⟨eO, he⟩ := he
  by_cases h : 150 < (len : Int)
  · exact jp_long a len cap eO w he h
  · exact jp_main a len cap zs eO h w he ha
end Go.Proofs.YtlafokjkpbhckaaDoor
