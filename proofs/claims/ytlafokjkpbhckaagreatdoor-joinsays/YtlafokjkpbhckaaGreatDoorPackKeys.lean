/- Texts of one claim, one behind the other. -/
import Derived.Test.YtlafokjkpbhckaaGreatDoorPackJn
import Derived.Test.YtlafokjkpbhckaaGreatDoorJnMem
import Derived.Test.YtlafokjkpbhckaaGreatDoorPackGrown
import Derived.Test.YtlafokjkpbhckaaGreatDoorOrd
/- What join's hasKey, compareKeys and Fits answer. -/
namespace Go.Proofs.YtlafokjkpbhckaaGreatDoor
open Go.RowKit Go.Sort
set_option maxRecDepth 100000
set_option linter.unusedVariables false

/-- Pairs that may be handed in. -/
def OnOk (on : List (Int × Int)) : Prop := on.length ≤ 65536 ∧ ∀ p ∈ on, inI p.1 = true ∧ inI p.2 = true
/-- A side's number. -/
def sdN (s : Bool) : Int := if s then 1 else 0
theorem has_take {on : List (Int × Int)} {s : Bool} {r : List Val} {j : Nat} (h : j < on.length) : hasK (on.take (j + 1)) s r = (hasK (on.take j) s r && ((colR r (sideC s on[j])).1 != 0)) := by
  unfold hasK; rw [List.take_succ_eq_append_getElem h, List.all_append]; simp
theorem has_not {on : List (Int × Int)} {s : Bool} {r : List Val} {j : Nat} (h : j < on.length) (hn : (colR r (sideC s on[j])).1 = 0) : hasK on s r = false := by
  unfold hasK; rw [List.all_eq_false]; exact ⟨_, List.getElem_mem h, by rw [hn]; decide⟩
set_option maxHeartbeats 4000000 in
theorem jcHas (on : List (Int × Int)) (s : Bool) (r : List Val) (ov vr : Value) (w : World) (ho : PairsIs w ov on) (hr : RowIs w vr r) :
    Calls Tryz.prog 26 #[ov, .int .i64 (sdN s), vr] w fun e w' => e = .returned (.bool (hasK on s r)) ∧ Below w.heap.size w w' := by
  obtain ⟨ao, co, rfl⟩ := ho.form
  obtain ⟨a0, c0, rfl⟩ := hr.form
  have lo := ho.le
  have la := hr.le
  unfold maxLen at lo la
  have Ho : Hid (PairsIs w (.slice ao on.length co) on) := ho
  have Hr : Hid (RowIs w (.slice a0 r.length c0) r) := hr
  have F0 : Hid (hasK (on.take 0) s r = true ∧ Below w.heap.size w w) := ⟨by rw [List.take_zero]; rfl, Below.refl _ _⟩
  clear ho hr
  obtain ⟨k, hk, hk2⟩ : ∃ k : Nat, sdN s = (k : Int) ∧ k < 2 := by cases s; exact ⟨0, rfl, by omega⟩; exact ⟨1, rfl, by omega⟩
  have HK : Hid (sdN s = (k : Int)) := hk
  rw [hk]
  have I2 : (k : Int) < 2 := by omega
  clear hk
  go_enter Tryz.func26, Tryz.ntmps26
  go_wp2_with fail
  go_loopw [12] (fun i wr => ∃ j : Nat, j ≤ on.length ∧ i = .int .i64 j ∧ Hid (hasK (on.take j) s r = true ∧ Below w.heap.size w wr)) (fun i _ => on.length - (intOf i).toNat)
  case atStart => exact ⟨0, by omega, rfl, F0.out⟩
  case round =>
    clear F0
    obtain ⟨j, hj, rfl, hS⟩ := hrel
    by_cases k1 : j < on.length
    · have I1 : (j : Int) < (on.length : Int) := by omega
      obtain ⟨bo, oo, rfl, z1, z2⟩ := (Ho.out.on hS.out.2).at j k1
      obtain ⟨c, hc⟩ : ∃ c, c = sideC s on[j] := ⟨_, rfl⟩
      have HN : Hid ((colR r c).1 = 0 → hasK on s r = false) := fun h => has_not k1 (by rw [← hc]; exact h)
      have HY : Hid (¬ (colR r c).1 = 0 → hasK (on.take (j + 1)) s r = true) := fun h => by rw [has_take k1, hS.out.1, ← hc]; simpa using h
      have HC : Hid (c = sideC s on[j]) := hc
      have HB : Hid (Below w.heap.size w wr) := hS.out.2
      obtain ⟨i1, h1⟩ : ∃ i, i = on[j].1 := ⟨_, rfl⟩
      obtain ⟨i2, h2⟩ : ∃ i, i = on[j].2 := ⟨_, rfl⟩
      rw [← h1] at z1
      rw [← h2] at z2
      have hcell : Hid ((wr.alloc (.cells #[.int .i64 i1, .int .i64 i2] 47)).cell? ⟨wr.heap.size, k, none⟩ = some (.int .i64 c)) := by
        show _ = _
        rw [World.cell?_alloc_at _ _ _ _ rfl, hc]
        have := HK.out
        cases s
        · obtain rfl : k = 0 := by unfold sdN at this; simp at this; omega
          simp [sideC, h1]
        · obtain rfl : k = 1 := by unfold sdN at this; simp at this; omega
          simp [sideC, h2]
      have B1 : Hid (Below wr.heap.size wr (wr.alloc (.cells #[.int .i64 i1, .int .i64 i2] 47))) := one_box
      clear hS hc h1 h2
      by_cases k2 : c < 0
      · have E : Hid (hasK on s r = false) := HN.out (by unfold colR; rw [if_neg (by omega)])
        have hcell := hcell.out
        clear HN HY HC
        go_wp2_with fail
        go_ret
        exact ⟨by rw [E.out]; rfl, HB.out.trans (B1.out.mono HB.out.size)⟩
      · by_cases k3 : c < (r.length : Int)
        · have hl : c.toNat < r.length := by omega
          have E1 : Hid (colR r c = r[c.toNat]) := by show colR r c = _; unfold colR; rw [if_pos (by omega), List.getD_eq_getElem?_getD, List.getElem?_eq_getElem hl]; rfl
          have I3 : ¬ (r.length : Int) ≤ c := by omega
          have I4 : 0 ≤ c := by omega
          obtain ⟨br, or, rfl, x1, x2, x3, hbr⟩ := (Hr.out.on (HB.out.trans (B1.out.mono HB.out.size))).at c.toNat hl
          have hcell := hcell.out
          have HX : Hid ((colR r c).1 = r[c.toNat].1) := by show _ = _; rw [E1.out]
          clear E1 x2 x3
          generalize r[c.toNat].1 = x at *
          by_cases k4 : x = 0
          · have E : Hid (hasK on s r = false) := HN.out (by rw [HX.out]; exact k4)
            clear HN HY HC HX
            subst k4
            go_wp2_with fail
            go_ret
            exact ⟨by rw [E.out]; rfl, HB.out.trans (B1.out.mono HB.out.size)⟩
          · have bz : (x == 0) = false := by simp [k4]
            have E : Hid (hasK (on.take (j + 1)) s r = true) := HY.out (by rw [HX.out]; exact k4)
            clear HN HY HC HX
            go_wp2_with fail
            go_roundw
            case rel => exact ⟨j + 1, by omega, by go_num, E.out, HB.out.trans (B1.out.mono HB.out.size)⟩
            case measure => simp [intOf]; omega
        · have E : Hid (hasK on s r = false) := HN.out (by unfold colR; rw [if_pos (by omega), List.getD_eq_getElem?_getD, List.getElem?_eq_none (by omega)]; rfl)
          have I3 : (r.length : Int) ≤ c := by omega
          have hcell := hcell.out
          clear HN HY HC
          go_wp2_with fail
          go_ret
          exact ⟨by rw [E.out]; rfl, HB.out.trans (B1.out.mono HB.out.size)⟩
    · obtain rfl : j = on.length := by omega
      have I1 : ¬ (on.length : Int) < (on.length : Int) := by omega
      have E : Hid (hasK on s r = true) := by have := hS.out.1; rw [List.take_length] at this; exact this
      have HB : Hid (Below w.heap.size w wr) := hS.out.2
      clear hS
      go_wp2_with fail
      go_ret
      exact ⟨by rw [E.out]; rfl, HB.out⟩
end Go.Proofs.YtlafokjkpbhckaaGreatDoor
/- What join's compareKeys and Fits answer. -/
namespace Go.Proofs.YtlafokjkpbhckaaGreatDoor
open Go.RowKit Go.Sort
set_option maxRecDepth 100000
set_option linter.unusedVariables false
theorem jccmp_ord : ordOk (regOf Tryz.f27.body 4) ((0, true) :: (1, true) :: (2, true) :: (3, true) :: (4, true) :: (5, true) :: (6, true) :: (7, true) :: (8, true) :: (9, true) :: (10, true) :: (11, true) :: (12, false) :: (13, true) :: []) = true := by kernel_rfl

theorem key_drop {on : List (Int × Int)} {s : Bool} {r : List Val} {j : Nat} (h : j < on.length) : keyJ (on.drop j) s r = colR r (sideC s on[j]) :: keyJ (on.drop (j + 1)) s r := by
  unfold keyJ; rw [List.drop_eq_getElem_cons h, List.map_cons]
theorem has_at {on : List (Int × Int)} {s : Bool} {r : List Val} (h : hasK on s r = true) {j : Nat} (hj : j < on.length) : ∃ i : Nat, sideC s on[j] = (i : Int) ∧ ∃ hi : i < r.length, colR r (sideC s on[j]) = r[i] := by
  unfold hasK at h
  rw [List.all_eq_true] at h
  have h1 := h _ (List.getElem_mem hj)
  simp only [bne_iff_ne, ne_eq] at h1
  generalize sideC s on[j] = c at *
  unfold colR at h1 ⊢
  by_cases h0 : 0 ≤ c
  · rw [if_pos h0] at h1
    by_cases h2 : c.toNat < r.length
    · refine ⟨c.toNat, by omega, h2, ?_⟩
      rw [if_pos h0, List.getD_eq_getElem?_getD, List.getElem?_eq_getElem h2]; rfl
    · rw [List.getD_eq_getElem?_getD, List.getElem?_eq_none (by omega)] at h1
      exact absurd rfl h1
  · rw [if_neg h0] at h1; exact absurd rfl h1
theorem pair_cell (s : Bool) (i1 i2 : Int) (p : Int × Int) (h1 : i1 = p.1) (h2 : i2 = p.2) (w : World) (k : Nat) (hk : sdN s = (k : Int)) :
    (w.alloc (.cells #[.int .i64 i1, .int .i64 i2] 47)).cell? ⟨w.heap.size, k, none⟩ = some (.int .i64 (sideC s p)) := by
  rw [World.cell?_alloc_at _ _ _ _ rfl]
  cases s
  · obtain rfl : k = 0 := by unfold sdN at hk; simp at hk; omega
    simp [sideC, h1]
  · obtain rfl : k = 1 := by unfold sdN at hk; simp at hk; omega
    simp [sideC, h2]
theorem side_k (s : Bool) : ∃ k : Nat, sdN s = (k : Int) ∧ k < 2 := by cases s; exact ⟨0, rfl, by omega⟩; exact ⟨1, rfl, by omega⟩
set_option maxHeartbeats 4000000 in
theorem jcCmp (on : List (Int × Int)) (s t : Bool) (x y : List Val) (ov vx vy : Value) (w : World) (ho : PairsIs w ov on) (hx : RowIs w vx x) (hy : RowIs w vy y) (kx : hasK on s x = true) (ky : hasK on t y = true) :
    Calls Tryz.prog 27 #[ov, .int .i64 (sdN s), vx, .int .i64 (sdN t), vy] w fun e w' => e = .returned (.int .i64 (cR (keyJ on s x) (keyJ on t y))) ∧ Grown w w' := by
  obtain ⟨ao, co, rfl⟩ := ho.form
  obtain ⟨ax, cx, rfl⟩ := hx.form
  obtain ⟨ay, cy, rfl⟩ := hy.form
  have lo := ho.le
  have lx := hx.le
  have ly := hy.le
  unfold maxLen at lo lx ly
  have Ho : Hid (PairsIs w (.slice ao on.length co) on) := ho
  have Hx : Hid (RowIs w (.slice ax x.length cx) x) := hx
  have Hy : Hid (RowIs w (.slice ay y.length cy) y) := hy
  have Kx : Hid (hasK on s x = true) := kx
  have Ky : Hid (hasK on t y = true) := ky
  have F0 : Hid (cR (keyJ on s x) (keyJ on t y) = cR (keyJ (on.drop 0) s x) (keyJ (on.drop 0) t y) ∧ Grown w w) := ⟨rfl, Grown.refl _⟩
  clear ho hx hy kx ky
  obtain ⟨k, hk, hk2⟩ := side_k s
  obtain ⟨m, hm, hm2⟩ := side_k t
  have HK : Hid (sdN s = (k : Int) ∧ sdN t = (m : Int)) := ⟨hk, hm⟩
  rw [hk, hm]
  have I2 : (k : Int) < 2 := by omega
  have I3 : (m : Int) < 2 := by omega
  clear hk hm
  go_enter Tryz.func27, Tryz.ntmps27
  go_wp2_with fail
  go_loopw [16] (fun i wr => ∃ j : Nat, j ≤ on.length ∧ i = .int .i64 j ∧ Hid (cR (keyJ on s x) (keyJ on t y) = cR (keyJ (on.drop j) s x) (keyJ (on.drop j) t y) ∧ Grown w wr)) (fun i _ => on.length - (intOf i).toNat)
  case atStart => exact ⟨0, by omega, rfl, F0.out⟩
  case round =>
    clear F0
    obtain ⟨j, hj, rfl, hS⟩ := hrel
    have HB : Hid (Grown w wr) := hS.out.2
    by_cases k1 : j < on.length
    · have I1 : (j : Int) < (on.length : Int) := by omega
      obtain ⟨bo, oo, rfl, z1, z2⟩ := (Ho.out.on HB.out.below).at j k1
      obtain ⟨ix, ex, hix, vx⟩ := has_at Kx.out k1
      obtain ⟨iy, ey, hiy, vy⟩ := has_at Ky.out k1
      obtain ⟨W, hW⟩ : ∃ W, W = wr.alloc (.cells #[.int .i64 on[j].1, .int .i64 on[j].2] 47) := ⟨_, rfl⟩
      have c1 : W.cell? ⟨wr.heap.size, k, none⟩ = some (.int .i64 (ix : Int)) := by rw [hW, ← ex]; exact pair_cell s _ _ _ rfl rfl wr k HK.out.1
      have c2 : W.cell? ⟨wr.heap.size, m, none⟩ = some (.int .i64 (iy : Int)) := by rw [hW, ← ey]; exact pair_cell t _ _ _ rfl rfl wr m HK.out.2
      have BW : Hid (Grown w W) := by rw [hW]; exact HB.out.trans grown_one
      obtain ⟨bx, ox, rfl, x1, x2, x3, _⟩ := (Hx.out.on BW.out.below).at ix hix
      obtain ⟨by', oy, rfl, y1, y2, y3, _⟩ := (Hy.out.on BW.out.below).at iy hiy
      have IX : (ix : Int) < (x.length : Int) := by omega
      have IY : (iy : Int) < (y.length : Int) := by omega
      have HS : Hid (cR (keyJ on s x) (keyJ on t y) = if cVal x[ix] y[iy] = 0 then cR (keyJ (on.drop (j + 1)) s x) (keyJ (on.drop (j + 1)) t y) else cVal x[ix] y[iy]) := by
        show _ = _
        rw [hS.out.1, key_drop k1, key_drop k1, vx, vy]; rfl
      clear vx vy hS ex ey
      generalize x[ix] = u at *
      generalize y[iy] = v at *
      have g1 := Ex.cell c1
      have g2 := Ex.cell c2
      have g3 := Ex.cell x1
      have g4 := Ex.cell x2
      have g5 := Ex.cell x3
      have g6 := Ex.cell y1
      have g7 := Ex.cell y2
      have g8 := Ex.cell y3
      have ne := Ex.ne W
      have B0 : Hid (Below W.heap.size W W.drew) := (Below.refl _ _).drew
      have G0 : Hid (Grown W W.drew) := ⟨1, #[], by rw [grow_empty]; rfl⟩
      have HW : Hid (wr.alloc (.cells #[.int .i64 on[j].1, .int .i64 on[j].2] 47) = W) := hW.symm
      clear hW c1 c2 x1 x2 x3 y1 y2 y3
      have HQ : Hid (∀ V, Calls Tryz.prog 52 #[.agg #[.int .i64 u.1, .int .i64 u.2.1, .string u.2.2], .agg #[.int .i64 v.1, .int .i64 v.2.1, .string v.2.2]] V fun e w' => e = .returned (.int .i64 (cVal u v)) ∧ Grown V w') := fun V => valueCompareG u.1 u.2.1 u.2.2 v.1 v.2.1 v.2.2 V
      generalize cVal u v = c at *
      obtain ⟨p1, hp1⟩ : ∃ p, p = on[j].1 := ⟨_, rfl⟩
      obtain ⟨p2, hp2⟩ : ∃ p, p = on[j].2 := ⟨_, rfl⟩
      rw [← hp1] at z1 HW
      rw [← hp2] at z2 HW
      clear hp1 hp2
      generalize u.1 = u1 at *
      generalize u.2.1 = u2 at *
      generalize u.2.2 = u3 at *
      generalize v.1 = v1' at *
      generalize v.2.1 = v2' at *
      generalize v.2.2 = v3' at *
      go_wp2_with fail
      rw [HW.out]
      refine wp_region_ord_at (Ex W) (regOf Tryz.f27.body 4) ((0, true) :: (1, true) :: (2, true) :: (3, true) :: (4, true) :: (5, true) :: (6, true) :: (7, true) :: (8, true) :: (9, true) :: (10, true) :: (11, true) :: (12, false) :: (13, true) :: []) (by kernel_rfl) (by kernel_rfl) jccmp_ord B0.out ?_
      generalize W.drew = v0 at *
      repeat (refine ord_quiet rfl ?_; go_big_quiet_step (fail); refine wpQuiet_nil ?_)
      refine ord_call rfl (by rfl) 52 rfl (enters_of Tryz.func52 (by kernel_rfl) rfl) [.agg #[.int .i64 u1, .int .i64 u2, .string u3], .agg #[.int .i64 v1', .int .i64 v2', .string v3']] (by rfl) _ (HQ.out v0) ?_
      rintro e v1 ⟨rfl, hb1⟩
      have B1 : Hid (Below W.heap.size W v1) := B0.out.trans (hb1.below.mono B0.out.size)
      have G1 : Hid (Grown w v1) := BW.out.trans (G0.out.trans hb1)
      clear hb1
      refine ⟨_, rfl, Ex.of B1.out, ?_⟩
      simp only [Act.put, List.setIfInBounds_toArray, List.set_cons_zero, List.set_cons_succ]
      repeat (refine ord_quiet rfl ?_; go_big_quiet_step (fail); refine wpQuiet_nil ?_)
      refine ord_end ?_
      clear g1 g2 g3 g4 g5 g6 g7 g8 ne HQ G0 B0 HB HW
      by_cases h0 : c = 0
      · subst h0
        have E : Hid (cR (keyJ on s x) (keyJ on t y) = cR (keyJ (on.drop (j + 1)) s x) (keyJ (on.drop (j + 1)) t y)) := by have := HS.out; rw [if_pos rfl] at this; exact this
        clear HS
        go_wp2_with fail
        go_roundw
        case rel => exact ⟨j + 1, by omega, by go_num, E.out, G1.out⟩
        case measure => simp [intOf]; omega
      · have bz : (c == 0) = false := by simp [h0]
        have E : Hid (cR (keyJ on s x) (keyJ on t y) = c) := by have := HS.out; rw [if_neg h0] at this; exact this
        clear HS
        go_wp2_with fail
        go_ret
        exact ⟨by rw [E.out]; rfl, G1.out⟩
    · obtain rfl : j = on.length := by omega
      have I1 : ¬ (on.length : Int) < (on.length : Int) := by omega
      have E : Hid (cR (keyJ on s x) (keyJ on t y) = 0) := by have := hS.out.1; rw [List.drop_length] at this; exact this
      clear hS
      go_wp2_with fail
      go_ret
      exact ⟨by rw [E.out]; rfl, HB.out⟩
set_option maxHeartbeats 4000000 in
theorem jnFits (on : List (Int × Int)) (a b : List Val) (ov va vb : Value) (w : World) (hon : OnOk on) (ho : PairsIs w ov on) (ha : RowIs w va a) (hb : RowIs w vb b) :
    Calls Tryz.prog 9 #[ov, va, vb] w fun e w' => e = .returned (.bool (fitP on a b)) ∧ Below w.heap.size w w' := by
  have q1 : Hid (Calls Tryz.prog 26 #[ov, .int .i64 0, va] w fun e w' => e = .returned (.bool (hasK on false a)) ∧ Below w.heap.size w w') := jcHas on false a ov va w ho ha
  have q2 : Hid (∀ V, Below w.heap.size w V → Calls Tryz.prog 26 #[ov, .int .i64 1, vb] V fun e w' => e = .returned (.bool (hasK on true b)) ∧ Below V.heap.size V w') := fun V hV => jcHas on true b ov vb V (ho.on hV) (hb.on hV)
  have q3 : Hid (hasK on false a = true → hasK on true b = true → ∀ V, Below w.heap.size w V → Calls Tryz.prog 27 #[ov, .int .i64 0, va, .int .i64 1, vb] V fun e w' => e = .returned (.int .i64 (cR (keyJ on false a) (keyJ on true b))) ∧ Grown V w') := fun k1 k2 V hV => jcCmp on false true a b ov va vb V (ho.on hV) (ha.on hV) (hb.on hV) k1 k2
  have HF : Hid (fitP on a b = (hasK on false a && decide (keyJ on false a = keyJ on true b))) := fit_key on a b
  have HFB : Hid (fitP on a b = true → hasK on true b = true) := fit_hasB
  have HZ : Hid (cR (keyJ on false a) (keyJ on true b) = 0 ↔ keyJ on false a = keyJ on true b) := cR_zero _ _
  obtain ⟨ao, co, rfl⟩ := ho.form
  obtain ⟨a0, ca, rfl⟩ := ha.form
  obtain ⟨b0, cb, rfl⟩ := hb.form
  clear ho ha hb
  obtain ⟨h1, e1⟩ : ∃ h, h = hasK on false a := ⟨_, rfl⟩
  obtain ⟨h2, e2⟩ : ∃ h, h = hasK on true b := ⟨_, rfl⟩
  rw [← e1] at q1 HF
  rw [← e2] at q2 HFB
  have E1 : Hid (h1 = hasK on false a) := e1
  have E2 : Hid (h2 = hasK on true b) := e2
  clear e1 e2
  generalize cR (keyJ on false a) (keyJ on true b) = c at *
  go_enter Tryz.func9, Tryz.ntmps9
  go_wp2_with fail
  refine q1.out.mono ?_
  rintro e w1 ⟨rfl, hb1⟩
  have q2 := q2.out w1 hb1
  have B1 : Hid (Below w.heap.size w w1) := hb1
  clear q1 hb1
  cases h1
  · have E : Hid (fitP on a b = false) := by show _ = _; rw [HF.out]; rfl
    clear HF HFB HZ q2 q3
    go_wp2_with fail
    go_ret
    exact ⟨by rw [E.out]; rfl, B1.out⟩
  · go_wp2_with fail
    refine q2.mono ?_
    rintro e w2 ⟨rfl, hb2⟩
    have B2 : Hid (Below w.heap.size w w2) := B1.out.trans (hb2.mono B1.out.size)
    clear q2 hb2 B1
    cases h2
    · have E : Hid (fitP on a b = false) := by
        show _ = _
        cases hf : fitP on a b with
        | false => rfl
        | true => exact absurd (HFB.out hf) (by decide)
      clear HF HFB HZ q3
      go_wp2_with fail
      go_ret
      exact ⟨by rw [E.out]; rfl, B2.out⟩
    · have q5 := q3.out E1.out.symm E2.out.symm w2 B2.out
      clear q3 E1 E2
      go_wp2_with fail
      refine q5.mono ?_
      rintro e w3 ⟨rfl, hb3⟩
      have B3 : Hid (Below w.heap.size w w3) := B2.out.trans (hb3.below.mono B2.out.size)
      have E : Hid (fitP on a b = (c == 0)) := by
        show _ = _
        rw [HF.out]
        by_cases h0 : c = 0
        · rw [decide_eq_true (HZ.out.1 h0)]; simp [h0]
        · rw [decide_eq_false (fun h => h0 (HZ.out.2 h))]; simp [h0]
      clear q5 hb3 B2 HF HFB HZ
      go_wp2_with fail
      go_ret
      exact ⟨by rw [E.out]; rfl, B3.out⟩
end Go.Proofs.YtlafokjkpbhckaaGreatDoor
