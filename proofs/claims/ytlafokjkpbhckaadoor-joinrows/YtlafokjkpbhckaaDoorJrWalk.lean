/- The walk of the law that what is joined has both rows. -/
import Derived.Test.YtlafokjkpbhckaaDoorPackJl
namespace Go.Proofs.YtlafokjkpbhckaaDoor
open Go.RowKit Go.Sort
set_option maxRecDepth 100000
set_option linter.unusedVariables false

theorem jr_ord22 : ordOk (regOf Tryd.f5.body 22) ((0, true) :: (1, true) :: (3, true) :: (4, true) :: (5, true) :: (6, true) :: (7, true) :: (8, true) :: (9, true) :: (10, true) :: (11, true) :: (12, true) :: (2, false) :: (13, false) :: (14, true) :: []) = true := by kernel_rfl
theorem jr_ord26 : ordOk (regOf Tryd.f5.body 26) ((0, true) :: (1, true) :: (2, true) :: (3, true) :: (4, true) :: (6, true) :: (7, true) :: (8, true) :: (9, true) :: (10, true) :: (5, false) :: (11, false) :: (12, true) :: []) = true := by kernel_rfl
theorem jr_ord27 : ordOk (regOf Tryd.f5.body 27) ((0, true) :: (1, true) :: (3, true) :: (4, true) :: (5, true) :: (6, true) :: (7, true) :: (8, true) :: (9, true) :: (10, true) :: (11, true) :: (12, true) :: (13, true) :: (2, false) :: (14, true) :: []) = true := by kernel_rfl
/-- A number or Null. -/
theorem okV_one {k n : Int} {s : ByteArray} (h : OkV 1 k n s) : (k = 0 ∨ k = 1) ∧ s = ⟨#[]⟩ := by
  obtain ⟨h1, _, _, _, h2⟩ := h
  have hk : k = 0 ∨ k = 1 := by omega
  refine ⟨hk, ?_⟩
  rcases hk with rfl | rfl <;> (
    unfold ckV at h1
    simp at h1
    have h3 : s.toList = [] := by first | exact h1 | exact h1.2 | exact h1.1
    rw [Lib.toList_data] at h3
    cases s with | mk d => simp at h3; rw [h3])
theorem fitJ {r s : List Val} (hr : r.length = 2) (hs : s.length = 2) (or : OkR [1, 2] r) (os : OkR [2, 1] s) : fitP [(0, 1)] r s = (((r[0]'(by omega)).1 == 1) && ((s[1]'(by omega)).1 == 1) && ((r[0]'(by omega)).2.1 == (s[1]'(by omega)).2.1)) := by
  match r, hr, s, hs with
  | [u, u'], _, [v', v], _ =>
    have h1 := or 0 (by simp) (by simp)
    have h2 := os 1 (by simp) (by simp)
    simp only [List.getElem_cons_zero, List.getElem_cons_succ] at h1 h2 ⊢
    obtain ⟨h3, h4⟩ := okV_one h1
    obtain ⟨h5, h6⟩ := okV_one h2
    obtain ⟨uk, un, us⟩ := u
    obtain ⟨vk, vn, vs⟩ := v
    simp only at h3 h4 h5 h6
    subst h4 h6
    have e : fitP [(0, 1)] [(uk, un, ⟨#[]⟩), u'] [v', (vk, vn, ⟨#[]⟩)] = (uk != 0 && decide (((uk, un, ⟨#[]⟩) : Val) = (vk, vn, ⟨#[]⟩))) := by simp [fitP, colR]
    rw [e]
    rcases h3 with rfl | rfl <;> rcases h5 with rfl | rfl <;> simp
    by_cases hh : un = vn <;> simp [hh]
theorem jr_get {x y : List Ent} (hx : S3 800 8 2 x) (hy : S3 800 8 2 y) {j q : Nat} (hj : j < x.length) (hq : q < y.length) (hf : fitP [(0, 1)] x[j].1 y[q].1 = true) :
    gt (x[j].1 ++ y[q].1) (mkZ (jnP [(0, 1)] x y)) = wrap64 (x[j].2 * y[q].2) := by
  have h1 := hx.jn hy [(0, 1)] (by decide)
  have l1 := hx.2.2.2 _ (List.getElem_mem hj)
  rw [gt_wt h1.2.1.1.1, h1.2.2, wt_jn _ y _ hx.2.2.2]
  rw [List.take_left' l1, List.drop_left' l1, if_pos hf, wt_mem hx.1.1 (List.getElem_mem hj), wt_mem hy.1.1 (List.getElem_mem hq)]
  have h2 := mul_in (hx.small _ (List.getElem_mem hj)) (hy.small _ (List.getElem_mem hq))
  unfold wrap64; omega
set_option maxHeartbeats 1000000 in
theorem jr_long (a : Option Addr) (len cap : Nat) (eO : Addr) (w : World) (he : OverAt eO w) (h : 150 < (len : Int)) :
    Calls Tryd.prog 5 #[.slice a len cap] w fun e w' => e = .returned (.bool true) ∧ Below w.heap.size w w' := by
  have q := lawFirst12 eO w he
  clear he
  go_enter Tryd.func5, Tryd.ntmps5
  go_wp2_with fail
  refine q.mono ?_
  rintro e w1 ⟨rfl, hb1⟩
  go_wp2_with fail
  go_ret
  exact ⟨rfl, hb1⟩
set_option maxHeartbeats 16000000 in
theorem jr_main (a : Option Addr) (len cap : Nat) (zs : List Int) (eO : Addr) (h : ¬ 150 < (len : Int)) (w : World) (he : OverAt eO w) (ha : IsRow .i64 w a len cap zs) :
    Calls Tryd.prog 5 #[.slice a len cap] w fun e w' => e = .returned (.bool true) ∧ Below w.heap.size w w' := by
  have Ha : Hid (IsRow .i64 w a len cap zs) := ha
  have HE : Hid (OverAt eO w) := he
  have q := lawFirst12 _ w he
  clear ha he
  go_enter Tryd.func5, Tryd.ntmps5
  go_wp2_with fail
  refine q.mono ?_
  rintro e w1 ⟨rfl, hb1⟩
  have B1 : Hid (Below w.heap.size w w1) := hb1
  clear q
  have HS : Hid (SeqAt w1.heap.size a len cap zs 0 (w1.alloc (.cells #[.slice a len cap, .int .i64 0] 26))) := SeqAt.make (Ha.out.below hb1) _
  clear hb1 Ha
  obtain ⟨W2, hW2⟩ : ∃ W2, W2 = w1.alloc (.cells #[.slice a len cap, .int .i64 0] 26) := ⟨_, rfl⟩
  have F2 : Hid (SeqAt w1.heap.size a len cap zs 0 W2 ∧ Below w.heap.size w W2 ∧ w1.heap.size < W2.heap.size ∧ w.heap.size ≤ w1.heap.size) := by
    rw [hW2]
    exact ⟨HS.out, B1.out.trans (one_box.mono B1.out.size), by simp, B1.out.size⟩
  clear HS B1
  have q3 : Calls Tryd.prog 8 #[.pointer (some ⟨w1.heap.size, 0, none⟩), .slice (some ⟨W2.heap.size, 0, none⟩) 2 2, .int .i64 8] (W2.alloc (.cells #[.int .i64 1, .int .i64 2] 3)) _ := setAt w1.heap.size a len cap zs 0 [1, 2] 2 8 rfl (by simp) W2 F2.out.1 (by omega) (by decide) (by decide)
  rw [hW2, World.size_alloc] at q3
  go_wp2_with fail
  refine q3.mono ?_
  rw [← hW2]
  clear hW2
  obtain ⟨S, hS⟩ : ∃ S, S = w1.heap.size := ⟨_, rfl⟩
  rw [← hS] at F2 ⊢
  clear hS
  rintro e w3 ⟨vx, x, p3, rfl, Gx, e3, hp3, s3, b3⟩
  have Gx : Hid _ := Gx
  have F3 : Hid ((AllNew W2.heap.size [(x, vx)] w3 ∧ But S W2 w3) ∧ SeqAt S a len cap zs p3 w3 ∧ p3 ≤ 81) := ⟨⟨(AllNew.nil _ _).add e3, b3⟩, s3, by omega⟩
  clear q3 e3 hp3 s3 b3
  have q4 : Calls Tryd.prog 8 #[.pointer (some ⟨S, 0, none⟩), .slice (some ⟨w3.heap.size, 0, none⟩) 2 2, .int .i64 8] (w3.alloc (.cells #[.int .i64 2, .int .i64 1] 3)) _ := setAt S a len cap zs p3 [2, 1] 2 8 rfl (by simp) w3 F3.out.2.1 (by have := F3.out.2.2; omega) (by decide) (by decide)
  go_wp2_with fail
  refine q4.mono ?_
  rintro e w4 ⟨vy, y, p4, rfl, Gy, e4, hp4, s4, b4⟩
  have Gy : Hid _ := Gy
  have F4 : Hid ((AllNew W2.heap.size [(y, vy), (x, vx)] w4 ∧ But S W2 w4) ∧ SeqAt S a len cap zs p4 w4 ∧ p4 ≤ 162) := ⟨⟨(F3.out.1.1.but b4 F2.out.2.2.1).add (e4.mono F3.out.1.2.size), F3.out.1.2.trans b4⟩, s4, by have := F3.out.2.2; omega⟩
  clear q4 e4 hp4 s4 b4 F3
  have HX : Hid ((S3 800 8 2 x ∧ ∀ e ∈ x, OkR [1, 2] e.1) ∧ (S3 800 8 2 y ∧ ∀ e ∈ y, OkR [2, 1] e.1)) := ⟨Gx.out, Gy.out⟩
  have BW : Hid (Below w.heap.size w w4) := F2.out.2.1.trans (F4.out.1.2.below F2.out.2.2.2 F2.out.2.1.size)
  have q5 : Calls Tryd.prog 9 #[.slice (some ⟨w4.heap.size, 0, none⟩) 1 1, vx, vy] (w4.alloc (.cells #[.int .i64 0, .int .i64 1] 33)) _ := jnSmall HX.out.1.1 HX.out.2.1 (by decide) (by decide) (by decide) (by decide) (by decide) (by decide) [(0, 1)] (on_one rfl rfl) _ vx vy eO _ ((HE.out.on BW.out).on one_box) (PairsIs.one w4 0 1 33) ((F4.out.1.1.is.at 1 rfl).on one_box) ((F4.out.1.1.is.at 0 rfl).on one_box)
  go_wp2_with fail
  refine q5.mono ?_
  rintro e w5 ⟨vj, rfl, e5, b5⟩
  have F5 : Hid (EntsIs w5 vx x ∧ EntsIs w5 vy y ∧ EntsIs w5 vj (mkZ (jnP [(0, 1)] x y)) ∧ Below w.heap.size w w5) := by
    have bb : Below w4.heap.size w4 w5 := one_box.trans (b5.mono (by simp))
    exact ⟨(F4.out.1.1.is.at 1 rfl).on bb, (F4.out.1.1.is.at 0 rfl).on bb, e5, BW.out.trans (bb.mono BW.out.size)⟩
  clear q5 e5 b5 F4 F2 Gx Gy BW HE
  obtain ⟨ax, cx, hvx⟩ := F5.out.1.form
  obtain ⟨ay, cy, hvy⟩ := F5.out.2.1.form
  obtain ⟨aj, cj, hvj⟩ := F5.out.2.2.1.form
  subst hvx hvy hvj
  have HL : Hid ((mkZ (jnP [(0, 1)] x y)).length = (jnP [(0, 1)] x y).length ∧ (jnP [(0, 1)] x y).length ≤ 64) := by
    refine ⟨HX.out.1.1.jn_len HX.out.2.1 _ (by decide), ?_⟩
    have h1 := jnP_len [(0, 1)] y x
    have h2 := Nat.mul_le_mul HX.out.1.1.2.2.1 HX.out.2.1.2.2.1
    omega
  generalize (mkZ (jnP [(0, 1)] x y)).length = NX at *
  have lx : x.length ≤ 8 := HX.out.1.1.2.2.1
  have ly : y.length ≤ 8 := HX.out.2.1.2.2.1
  go_wp2_with fail
  go_loopw [9, 10] (fun n i wr => ∃ j : Nat, j ≤ x.length ∧ n = .int .i64 ((jnP [(0, 1)] (x.take j) y).length : Nat) ∧ i = .int .i64 j ∧ Hid (Below w5.heap.size w5 wr)) (fun _ i _ => x.length - (intOf i).toNat)
  case atStart => exact ⟨0, by omega, by rw [List.take_zero]; rfl, rfl, Below.refl _ _⟩
  case round =>
    obtain ⟨j, hj, rfl, rfl, hT⟩ := hrel
    by_cases k1 : j < x.length
    · have I1 : (j : Int) < (x.length : Int) := by omega
      have HT : Hid (Below w5.heap.size w5 wr) := hT.out
      have HJ : Hid ((jnP [(0, 1)] (x.take (j + 1)) y).length = (jnP [(0, 1)] (x.take j) y).length + (jnR [(0, 1)] x[j] y).length) := by show _ = _; rw [jnP_take _ _ k1, List.length_append]
      have h0 : ((jnP [(0, 1)] (x.take j) y).length : Nat) = (jnP [(0, 1)] (x.take j) y).length + (jnR [(0, 1)] x[j] (y.take 0)).length := by rw [List.take_zero]; rfl
      rw [h0]
      have HN : Hid ((jnP [(0, 1)] (x.take j) y).length ≤ 64) := by
        have h1 := jnP_len [(0, 1)] y (x.take j)
        have h2 : (x.take j).length * y.length ≤ 8 * 8 := Nat.mul_le_mul (by rw [List.length_take]; omega) ly
        show _ ≤ _; omega
      clear hT h0
      generalize (jnP [(0, 1)] (x.take j) y).length = n0 at *
      go_wp2_with fail
      go_loopw [9, 11] (fun n k wr => ∃ q : Nat, q ≤ y.length ∧ n = .int .i64 (n0 + (jnR [(0, 1)] x[j] (y.take q)).length : Nat) ∧ k = .int .i64 q ∧ Hid (Below w5.heap.size w5 wr)) (fun _ k _ => y.length - (intOf k).toNat)
      case atStart => exact ⟨0, by omega, rfl, rfl, HT.out⟩
      case round =>
        clear HT
        obtain ⟨q, hq, rfl, rfl, hT⟩ := hrel
        by_cases k2 : q < y.length
        · have I2 : (q : Int) < (y.length : Int) := by omega
          have I3 : (0 : Int) ≤ (q : Int) := by omega
          have I4 : (0 : Int) ≤ (j : Int) := by omega
          have HT : Hid (Below w5.heap.size w5 wr) := hT.out
          obtain ⟨ba, oa, ar, cr, hbo, xa1, xa2, xa3⟩ := F5.out.1.at j k1
          subst hbo
          obtain ⟨bb, ob, br, dr, hbo, xb1, xb2, xb3⟩ := F5.out.2.1.at q k2
          subst hbo
          have hlr := HX.out.1.1.2.2.2 _ (List.getElem_mem k1)
          have hls := HX.out.2.1.2.2.2 _ (List.getElem_mem k2)
          have HFJ : Hid (fitP [(0, 1)] x[j].1 y[q].1 = (((x[j].1[0]'(by omega)).1 == 1) && ((y[q].1[1]'(by omega)).1 == 1) && ((x[j].1[0]'(by omega)).2.1 == (y[q].1[1]'(by omega)).2.1))) := fitJ hlr hls (HX.out.1.2 _ (List.getElem_mem k1)) (HX.out.2.2 _ (List.getElem_mem k2))
          have HG : Hid (fitP [(0, 1)] x[j].1 y[q].1 = true → gt (x[j].1 ++ y[q].1) (mkZ (jnP [(0, 1)] x y)) = wrap64 (x[j].2 * y[q].2)) := fun hf => jr_get HX.out.1.1 HX.out.2.1 k1 k2 hf
          have HQ : Hid ((jnR [(0, 1)] x[j] (y.take (q + 1))).length = (jnR [(0, 1)] x[j] (y.take q)).length + if fitP [(0, 1)] x[j].1 y[q].1 = true then 1 else 0) := by
            show _ = _
            rw [jnR_take _ _ k2, List.length_append]
            split <;> rfl
          have HM : Hid ((jnR [(0, 1)] x[j] (y.take q)).length ≤ 64) := by
            have := jnR_len [(0, 1)] x[j] (y.take q)
            rw [List.length_take] at this
            show _ ≤ _; omega
          obtain ⟨cb, co, hco, u1, u2, u3, _⟩ := xa3.at 0 (by omega)
          obtain ⟨db, dO, hdo, s1, s2, s3, _⟩ := xb3.at 1 (by omega)
          have XR : Hid (RowIs w5 (.slice ar x[j].1.length cr) x[j].1 ∧ RowIs w5 (.slice br y[q].1.length dr) y[q].1) := ⟨xa3, xb3⟩
          rw [hlr] at xa1 XR
          rw [hls] at xb1 XR
          subst hco hdo
          have XA : Hid (w5.cell? ⟨ba, oa + j * 2, none⟩ = some (.slice (some ⟨cb, co, none⟩) 2 cr) ∧ w5.cell? ⟨ba, oa + j * 2 + 1, none⟩ = some (.int .i64 x[j].2)) := ⟨xa1, xa2⟩
          have XB : Hid (w5.cell? ⟨bb, ob + q * 2, none⟩ = some (.slice (some ⟨db, dO, none⟩) 2 dr) ∧ w5.cell? ⟨bb, ob + q * 2 + 1, none⟩ = some (.int .i64 y[q].2)) := ⟨xb1, xb2⟩
          have HRL : Hid (x[j].1.length = 2 ∧ y[q].1.length = 2) := ⟨hlr, hls⟩
          simp only [Nat.zero_mul, Nat.add_zero, Nat.one_mul] at u1 u2 u3 s1 s2 s3
          clear hT xa1 xa2 xa3 xb1 xb2 xb3
          generalize jnR [(0, 1)] x[j] (y.take q) = R0 at *
          generalize hur : x[j].1[0]'(by omega) = u at *
          generalize hvr : y[q].1[1]'(by omega) = v at *
          clear hur hvr hlr hls
          have y1 := cell_on XA.out.1 HT.out
          have y3 := cell_on u1 HT.out
          have y4 := cell_on u2 HT.out
          have y5 := cell_on u3 HT.out
          have y2 := cell_on (cell_on XB.out.1 HT.out) (one_box (o := .cells #[.int .i64 u.1, .int .i64 u.2.1, .string u.2.2] 48))
          have y6 := cell_on (cell_on s1 HT.out) (one_box (o := .cells #[.int .i64 u.1, .int .i64 u.2.1, .string u.2.2] 48))
          have y7 := cell_on (cell_on s2 HT.out) (one_box (o := .cells #[.int .i64 u.1, .int .i64 u.2.1, .string u.2.2] 48))
          have y8 := cell_on (cell_on s3 HT.out) (one_box (o := .cells #[.int .i64 u.1, .int .i64 u.2.1, .string u.2.2] 48))
          clear u1 u2 u3 s1 s2 s3
          have HFT : Hid (∀ V, Below w5.heap.size w5 V → Calls Tryd.prog 10 #[.slice (some ⟨V.heap.size, 0, none⟩) 1 1, .slice (some ⟨cb, co, none⟩) 2 cr, .slice (some ⟨db, dO, none⟩) 2 dr] (V.alloc (.cells #[.int .i64 0, .int .i64 1] 33)) fun e w' => e = .returned (.bool (fitP [(0, 1)] x[j].1 y[q].1)) ∧ Below V.heap.size V w') := fun V hV =>
            (jnFits [(0, 1)] x[j].1 y[q].1 _ _ _ _ (on_one rfl rfl) (PairsIs.one V 0 1 33) ((XR.out.1.on hV).on one_box) ((XR.out.2.on hV).on one_box)).mono fun e w' ⟨h1, h2⟩ => ⟨h1, one_box.trans (h2.mono (by simp))⟩
          have HRW : Hid (∀ V, Below w5.heap.size w5 V → Calls Tryd.prog 16 #[.slice (some ⟨cb, co, none⟩) 2 cr] V fun e w' => ∃ v, e = .returned v ∧ w'.ownsRow V.heap.size 48 3 v x[j].1.length (rc x[j].1) ∧ Below V.heap.size V w') := fun V hV => refRowO x[j].1 _ V (by have := HRL.out.1; omega) (XR.out.1.on hV)
          have HGT : Hid (fitP [(0, 1)] x[j].1 y[q].1 = true → ∀ V t, Below w5.heap.size w5 V → RowIs V t (x[j].1 ++ y[q].1) → Calls Tryd.prog 11 #[.slice aj NX cj, t] V fun e w' => e = .returned (.int .i64 (wrap64 (x[j].2 * y[q].2))) ∧ Below V.heap.size V w') := fun hf V t hV ht => by
            have := refGet _ _ _ t V (F5.out.2.2.1.on hV) ht
            rw [HG.out hf] at this
            exact this
          generalize fitP [(0, 1)] x[j].1 y[q].1 = ft at *
          generalize hr : x[j].1 = r at *
          generalize hs : y[q].1 = sr at *
          clear hr hs
          obtain ⟨W, hW⟩ : ∃ W, W = (wr.alloc (.cells #[.int .i64 u.1, .int .i64 u.2.1, .string u.2.2] 48)).alloc (.cells #[.int .i64 v.1, .int .i64 v.2.1, .string v.2.2] 48) := ⟨_, rfl⟩
          have HW : Hid ((wr.alloc (.cells #[.int .i64 u.1, .int .i64 u.2.1, .string u.2.2] 48)).alloc (.cells #[.int .i64 v.1, .int .i64 v.2.1, .string v.2.2] 48) = W) := hW.symm
          have BWW : Hid (Below w5.heap.size w5 W) := by
            have : Below wr.heap.size wr W := by rw [hW]; exact one_box.trans (one_box.mono (by simp))
            exact HT.out.trans (this.mono HT.out.size)
          have z1 : ((wr.alloc (.cells #[.int .i64 u.1, .int .i64 u.2.1, .string u.2.2] 48)).alloc (.cells #[.int .i64 v.1, .int .i64 v.2.1, .string v.2.2] 48)).cell? ⟨wr.heap.size, 0, none⟩ = some (.int .i64 u.1) := cell_on (by rw [World.cell?_alloc_at _ _ _ _ rfl]; rfl) one_box
          have z2 : ((wr.alloc (.cells #[.int .i64 u.1, .int .i64 u.2.1, .string u.2.2] 48)).alloc (.cells #[.int .i64 v.1, .int .i64 v.2.1, .string v.2.2] 48)).cell? ⟨wr.heap.size, 1, none⟩ = some (.int .i64 u.2.1) := cell_on (by rw [World.cell?_alloc_at _ _ _ _ rfl]; rfl) one_box
          clear hW HT
          by_cases c1 : u.1 = 1
          · by_cases c2 : v.1 = 1
            · by_cases c3 : u.2.1 = v.2.1
              · have b1 : (u.1 == 1) = true := by simp [c1]
                have b2 : (v.1 == 1) = true := by simp [c2]
                have b3 : (u.2.1 == v.2.1) = true := by simp [c3]
                have hft : ft = true := by rw [HFJ.out, b1, b2, b3]; rfl
                subst hft
                clear HFJ HG c1 c2 c3
                go_wp2_with fail
                rw [HW.out]
                have g0 := Ex.cell XA.out.1
                have g1 := Ex.cell XB.out.1
                have ne := Ex.ne w5
                have B0 : Hid (Below w5.heap.size w5 W.drew) := BWW.out.drew
                refine wp_region_ord_at (Ex w5) (regOf Tryd.f5.body 22) ((0, true) :: (1, true) :: (3, true) :: (4, true) :: (5, true) :: (6, true) :: (7, true) :: (8, true) :: (9, true) :: (10, true) :: (11, true) :: (12, true) :: (2, false) :: (13, false) :: (14, true) :: []) (by kernel_rfl) (by kernel_rfl) jr_ord22 B0.out ?_
                generalize W.drew = v0 at *
                repeat (refine ord_quiet rfl ?_; go_big_quiet_step (fail); refine wpQuiet_nil ?_)
                refine ord_loud rfl ?_
                intro K hK
                go_simp
                refine hK _ _ (Ex.of (B0.out.trans (one_box.mono B0.out.size))) ?_
                clear hK
                repeat (refine ord_quiet rfl ?_; go_big_quiet_step (fail); refine wpQuiet_nil ?_)
                refine ord_call rfl (by rfl) 10 rfl (enters_of Tryd.func10 (by kernel_rfl) rfl) [.slice (some ⟨v0.heap.size, 0, none⟩) 1 1, .slice (some ⟨cb, co, none⟩) 2 cr, .slice (some ⟨db, dO, none⟩) 2 dr] (by rfl) _ (HFT.out v0 B0.out) ?_
                rintro e v1 ⟨rfl, hb0⟩
                have B1 : Hid (Below w5.heap.size w5 v1) := B0.out.trans (hb0.mono B0.out.size)
                clear hb0
                refine ⟨_, rfl, Ex.of B1.out, ?_⟩
                simp only [Act.put, List.setIfInBounds_toArray, List.set_cons_zero, List.set_cons_succ]
                repeat (refine ord_quiet rfl ?_; go_big_quiet_step (fail); refine wpQuiet_nil ?_)
                refine ord_end ?_
                clear g0 g1 ne B0 y1 y2 y3 y4 y5 y6 y7 y8 z1 z2 HW BWW
                have g0 := Ex.cell XA.out.1
                have g1 := Ex.cell XB.out.1
                have ne := Ex.ne w5
                have D0 : Hid (Below w5.heap.size w5 v1.drew) := B1.out.drew
                go_wp2_with fail
                refine wp_region_ord_at (Ex w5) (regOf Tryd.f5.body 26) ((0, true) :: (1, true) :: (2, true) :: (3, true) :: (4, true) :: (6, true) :: (7, true) :: (8, true) :: (9, true) :: (10, true) :: (5, false) :: (11, false) :: (12, true) :: []) (by kernel_rfl) (by kernel_rfl) jr_ord26 D0.out ?_
                generalize v1.drew = v2 at *
                repeat (refine ord_quiet rfl ?_; go_big_quiet_step (fail); refine wpQuiet_nil ?_)
                refine ord_call rfl (by rfl) 16 rfl (enters_of Tryd.func16 (by kernel_rfl) rfl) [.slice (some ⟨cb, co, none⟩) 2 cr] (by rfl) _ (HRW.out v2 D0.out) ?_
                rintro e v3 ⟨t3, rfl, o3, hb3⟩
                have D3 : Hid (Below w5.heap.size w5 v3) := D0.out.trans (hb3.mono D0.out.size)
                refine ⟨_, rfl, Ex.of D3.out, ?_⟩
                simp only [Act.put, List.setIfInBounds_toArray, List.set_cons_zero, List.set_cons_succ]
                repeat (refine ord_quiet rfl ?_; go_big_quiet_step (fail); refine wpQuiet_nil ?_)
                refine ord_loud rfl ?_
                intro K hK
                refine step_append_row _ rfl _ _ rfl v2.heap.size t3 _ r sr rfl o3 (by first | rfl | (rw [← HRL.out.2]; rfl)) (by have h := XR.out.2.on D3.out; exact h) (by have := HRL.out; omega) hb3.size ?_
                intro t4 v4 o4 gg
                have D4 : Hid (Below w5.heap.size w5 v4) := by
                  have h4 : Below v2.heap.size v2 v4 := hb3.grown gg hb3.size (fun k e => (o3.lt k e).1)
                  exact D0.out.trans (h4.mono D0.out.size)
                have R4 : Hid (RowIs v4 t4 (r ++ sr)) := RowIs.of_own o4
                refine hK _ _ (Ex.of D4.out) ?_
                clear hK gg o3 o4 hb3
                simp only [Act.put, List.setIfInBounds_toArray, List.set_cons_zero, List.set_cons_succ]
                repeat (refine ord_quiet rfl ?_; go_big_quiet_step (fail); refine wpQuiet_nil ?_)
                refine ord_end ?_
                have g2 := Ex.cell XA.out.2
                have g3 := Ex.cell XB.out.2
                have E0 : Hid (Below w5.heap.size w5 v4.drew) := D4.out.drew
                have hq5 : Hid (∀ V, Below v4.heap.size v4 V → Calls Tryd.prog 11 #[.slice aj NX cj, t4] V fun e w' => e = .returned (.int .i64 (wrap64 (x[j].2 * y[q].2))) ∧ Below V.heap.size V w') := fun V hV => HGT.out (by first | rfl | trivial) V t4 (D4.out.trans (hV.mono D4.out.size)) (R4.out.on hV)
                have BV : Hid (Below v4.heap.size v4 v4.drew) := (Below.refl _ _).drew
                generalize x[j].2 = xw at *
                generalize y[q].2 = yw at *
                go_wp2_with fail
                refine wp_region_ord_at (Ex w5) (regOf Tryd.f5.body 27) ((0, true) :: (1, true) :: (3, true) :: (4, true) :: (5, true) :: (6, true) :: (7, true) :: (8, true) :: (9, true) :: (10, true) :: (11, true) :: (12, true) :: (13, true) :: (2, false) :: (14, true) :: []) (by kernel_rfl) (by kernel_rfl) jr_ord27 E0.out ?_
                generalize v4.drew = v5 at *
                repeat (refine ord_quiet rfl ?_; go_big_quiet_step (fail); refine wpQuiet_nil ?_)
                refine ord_call rfl (by rfl) 11 rfl (enters_of Tryd.func11 (by kernel_rfl) rfl) [.slice aj NX cj, t4] (by rfl) _ (hq5.out v5 BV.out) ?_
                rintro e v6 ⟨rfl, hb6⟩
                have E6 : Hid (Below w5.heap.size w5 v6) := E0.out.trans (hb6.mono E0.out.size)
                clear hb6
                refine ⟨_, rfl, Ex.of E6.out, ?_⟩
                simp only [Act.put, List.setIfInBounds_toArray, List.set_cons_zero, List.set_cons_succ]
                repeat (refine ord_quiet rfl ?_; go_big_quiet_step (fail); refine wpQuiet_nil ?_)
                refine ord_end ?_
                clear g0 g1 g2 g3 ne hq5 HGT HRW HFT E0 BV D0 D3 D4 R4
                go_wp2_with fail
                have hsum : wrap64 ((n0 : Int) + (R0.length : Int) + 1) = ((n0 + (jnR [(0, 1)] x[j] (y.take (q + 1))).length : Nat) : Int) := by
                  have h1 : n0 ≤ 64 := HN.out
                  have h2 : R0.length ≤ 64 := HM.out
                  have h3 : (jnR [(0, 1)] x[j] (y.take (q + 1))).length = R0.length + 1 := by rw [HQ.out]; rfl
                  rw [h3]; unfold wrap64; omega
                go_roundw
                case rel => exact ⟨q + 1, by omega, congrArg (Value.int .i64) hsum, by go_num, E6.out⟩
                case measure => simp [intOf]; omega
              · have b1 : (u.1 == 1) = true := by simp [c1]
                have b2 : (v.1 == 1) = true := by simp [c2]
                have b3 : (u.2.1 == v.2.1) = false := by simp [c3]
                have hft : ft = false := by rw [HFJ.out]; simp [b1, b2, b3]
                subst hft
                clear HFJ HG HGT HRW c1 c2 c3
                go_wp2_with fail
                rw [HW.out]
                have g0 := Ex.cell XA.out.1
                have g1 := Ex.cell XB.out.1
                have ne := Ex.ne w5
                have B0 : Hid (Below w5.heap.size w5 W.drew) := BWW.out.drew
                refine wp_region_ord_at (Ex w5) (regOf Tryd.f5.body 22) ((0, true) :: (1, true) :: (3, true) :: (4, true) :: (5, true) :: (6, true) :: (7, true) :: (8, true) :: (9, true) :: (10, true) :: (11, true) :: (12, true) :: (2, false) :: (13, false) :: (14, true) :: []) (by kernel_rfl) (by kernel_rfl) jr_ord22 B0.out ?_
                generalize W.drew = v0 at *
                repeat (refine ord_quiet rfl ?_; go_big_quiet_step (fail); refine wpQuiet_nil ?_)
                refine ord_loud rfl ?_
                intro K hK
                go_simp
                refine hK _ _ (Ex.of (B0.out.trans (one_box.mono B0.out.size))) ?_
                clear hK
                repeat (refine ord_quiet rfl ?_; go_big_quiet_step (fail); refine wpQuiet_nil ?_)
                refine ord_call rfl (by rfl) 10 rfl (enters_of Tryd.func10 (by kernel_rfl) rfl) [.slice (some ⟨v0.heap.size, 0, none⟩) 1 1, .slice (some ⟨cb, co, none⟩) 2 cr, .slice (some ⟨db, dO, none⟩) 2 dr] (by rfl) _ (HFT.out v0 B0.out) ?_
                rintro e v1 ⟨rfl, hb0⟩
                have B1 : Hid (Below w5.heap.size w5 v1) := B0.out.trans (hb0.mono B0.out.size)
                clear hb0
                refine ⟨_, rfl, Ex.of B1.out, ?_⟩
                simp only [Act.put, List.setIfInBounds_toArray, List.set_cons_zero, List.set_cons_succ]
                repeat (refine ord_quiet rfl ?_; go_big_quiet_step (fail); refine wpQuiet_nil ?_)
                refine ord_end ?_
                clear g0 g1 ne B0 y1 y2 y3 y4 y5 y6 y7 y8 z1 z2 HW BWW
                go_wp2_with fail
                go_roundw
                case rel => exact ⟨q + 1, by omega, by rw [HQ.out]; rfl, by go_num, B1.out⟩
                case measure => simp [intOf]; omega
            · have b1 : (u.1 == 1) = true := by simp [c1]
              have b2 : (v.1 == 1) = false := by simp [c2]
              have hft : ft = false := by rw [HFJ.out]; simp [b1, b2]
              subst hft
              clear HFJ HG HGT HRW c1 c2
              go_wp2_with fail
              rw [HW.out]
              have g0 := Ex.cell XA.out.1
              have g1 := Ex.cell XB.out.1
              have ne := Ex.ne w5
              have B0 : Hid (Below w5.heap.size w5 W.drew) := BWW.out.drew
              refine wp_region_ord_at (Ex w5) (regOf Tryd.f5.body 22) ((0, true) :: (1, true) :: (3, true) :: (4, true) :: (5, true) :: (6, true) :: (7, true) :: (8, true) :: (9, true) :: (10, true) :: (11, true) :: (12, true) :: (2, false) :: (13, false) :: (14, true) :: []) (by kernel_rfl) (by kernel_rfl) jr_ord22 B0.out ?_
              generalize W.drew = v0 at *
              repeat (refine ord_quiet rfl ?_; go_big_quiet_step (fail); refine wpQuiet_nil ?_)
              refine ord_loud rfl ?_
              intro K hK
              go_simp
              refine hK _ _ (Ex.of (B0.out.trans (one_box.mono B0.out.size))) ?_
              clear hK
              repeat (refine ord_quiet rfl ?_; go_big_quiet_step (fail); refine wpQuiet_nil ?_)
              refine ord_call rfl (by rfl) 10 rfl (enters_of Tryd.func10 (by kernel_rfl) rfl) [.slice (some ⟨v0.heap.size, 0, none⟩) 1 1, .slice (some ⟨cb, co, none⟩) 2 cr, .slice (some ⟨db, dO, none⟩) 2 dr] (by rfl) _ (HFT.out v0 B0.out) ?_
              rintro e v1 ⟨rfl, hb0⟩
              have B1 : Hid (Below w5.heap.size w5 v1) := B0.out.trans (hb0.mono B0.out.size)
              clear hb0
              refine ⟨_, rfl, Ex.of B1.out, ?_⟩
              simp only [Act.put, List.setIfInBounds_toArray, List.set_cons_zero, List.set_cons_succ]
              repeat (refine ord_quiet rfl ?_; go_big_quiet_step (fail); refine wpQuiet_nil ?_)
              refine ord_end ?_
              clear g0 g1 ne B0 y1 y2 y3 y4 y5 y6 y7 y8 z1 z2 HW BWW
              go_wp2_with fail
              go_roundw
              case rel => exact ⟨q + 1, by omega, by rw [HQ.out]; rfl, by go_num, B1.out⟩
              case measure => simp [intOf]; omega
          · have b1 : (u.1 == 1) = false := by simp [c1]
            have hft : ft = false := by rw [HFJ.out]; simp [b1]
            subst hft
            clear HFJ HG HGT HRW c1
            go_wp2_with fail
            rw [HW.out]
            have g0 := Ex.cell XA.out.1
            have g1 := Ex.cell XB.out.1
            have ne := Ex.ne w5
            have B0 : Hid (Below w5.heap.size w5 W.drew) := BWW.out.drew
            refine wp_region_ord_at (Ex w5) (regOf Tryd.f5.body 22) ((0, true) :: (1, true) :: (3, true) :: (4, true) :: (5, true) :: (6, true) :: (7, true) :: (8, true) :: (9, true) :: (10, true) :: (11, true) :: (12, true) :: (2, false) :: (13, false) :: (14, true) :: []) (by kernel_rfl) (by kernel_rfl) jr_ord22 B0.out ?_
            generalize W.drew = v0 at *
            repeat (refine ord_quiet rfl ?_; go_big_quiet_step (fail); refine wpQuiet_nil ?_)
            refine ord_loud rfl ?_
            intro K hK
            go_simp
            refine hK _ _ (Ex.of (B0.out.trans (one_box.mono B0.out.size))) ?_
            clear hK
            repeat (refine ord_quiet rfl ?_; go_big_quiet_step (fail); refine wpQuiet_nil ?_)
            refine ord_call rfl (by rfl) 10 rfl (enters_of Tryd.func10 (by kernel_rfl) rfl) [.slice (some ⟨v0.heap.size, 0, none⟩) 1 1, .slice (some ⟨cb, co, none⟩) 2 cr, .slice (some ⟨db, dO, none⟩) 2 dr] (by rfl) _ (HFT.out v0 B0.out) ?_
            rintro e v1 ⟨rfl, hb0⟩
            have B1 : Hid (Below w5.heap.size w5 v1) := B0.out.trans (hb0.mono B0.out.size)
            clear hb0
            refine ⟨_, rfl, Ex.of B1.out, ?_⟩
            simp only [Act.put, List.setIfInBounds_toArray, List.set_cons_zero, List.set_cons_succ]
            repeat (refine ord_quiet rfl ?_; go_big_quiet_step (fail); refine wpQuiet_nil ?_)
            refine ord_end ?_
            clear g0 g1 ne B0 y1 y2 y3 y4 y5 y6 y7 y8 z1 z2 HW BWW
            go_wp2_with fail
            go_roundw
            case rel => exact ⟨q + 1, by omega, by rw [HQ.out]; rfl, by go_num, B1.out⟩
            case measure => simp [intOf]; omega
        · have I2 : ¬ (q : Int) < (y.length : Int) := by omega
          obtain rfl : q = y.length := by omega
          have HT : Hid (Below w5.heap.size w5 wr) := hT.out
          rw [List.take_length, ← HJ.out]
          clear hT
          go_wp2_with fail
          go_roundw
          case rel => exact ⟨j + 1, by omega, rfl, by go_num, HT.out⟩
          case measure => simp [intOf]; omega
    · have I1 : ¬ (j : Int) < (x.length : Int) := by omega
      obtain rfl : j = x.length := by omega
      rw [List.take_length]
      have HB : Hid (Below w.heap.size w wr) := F5.out.2.2.2.trans (hT.out.mono F5.out.2.2.2.size)
      have hl := HL.out.1
      clear hT F5 HX HL
      rw [hl]
      clear hl
      generalize (jnP [(0, 1)] x y).length = NY at *
      go_wp2_with fail
      go_ret
      exact ⟨rfl, HB.out⟩
theorem joinRows_walk (a : Option Addr) (len cap : Nat) (zs : List Int) (w : World) (he : ∃ ad, OverAt ad w) (ha : IsRow .i64 w a len cap zs) :
    Calls Tryd.prog 5 #[.slice a len cap] w fun e w' => e = .returned (.bool true) ∧ Below w.heap.size w w' := by
  obtain ⟨eO, he⟩ := he
  by_cases h : 150 < (len : Int)
  · exact jr_long a len cap eO w he h
  · exact jr_main a len cap zs eO h w he ha
end Go.Proofs.YtlafokjkpbhckaaDoor
