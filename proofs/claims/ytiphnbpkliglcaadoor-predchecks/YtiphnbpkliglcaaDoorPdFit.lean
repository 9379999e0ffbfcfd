/- Whether a predicate, its parts aside, is of a form that there is, and of types that go together. -/
import Derived.Test.YtiphnbpkliglcaaDoorPdShow
import Derived.Test.YtiphnbpkliglcaaDoorPdAsk
import Derived.Test.YtiphnbpkliglcaaDoorOrd
namespace Go.Proofs.YtiphnbpkliglcaaDoor
open Go.RowKit Go.Sort
set_option maxRecDepth 100000
set_option linter.unusedVariables false

def kAt (ks : List Int) (c : Int) : Int := ks.getD c.toNat 0
def fitP (ks : List Int) (p : Pd) : Bool :=
  if p.k = 1 then (sgn p.o != []) && (p.v.1 == kAt ks p.c) && (p.v.1 != 0) && ckV p.v.1 p.v.2.1 p.v.2.2
  else if p.k = 2 then (sgn p.o != []) && (kAt ks p.c == kAt ks p.d)
  else if p.k = 3 then true
  else if p.k = 4 ∨ p.k = 5 then decide (2 ≤ p.l.length)
  else if p.k = 6 then decide (p.l.length = 1)
  else false
theorem kAt_nat (ks : List Int) (j : Nat) (h : j < ks.length) : kAt ks (j : Int) = ks[j] := by
  unfold kAt
  simp [List.getD_eq_getElem?_getD, h]
theorem fit_ord1 : ordOk (regOf Tryd.f14.body 3) ((0, true) :: (1, true) :: (2, false) :: (3, true) :: (4, true) :: (5, true) :: (6, true) :: (7, true) :: (8, true) :: (9, true) :: (10, true) :: (11, true) :: (12, true) :: (13, true) :: (14, true) :: (15, true) :: (16, true) :: (17, true) :: (18, true) :: (19, true) :: (20, true) :: (21, true) :: (22, true) :: (23, true) :: (24, false) :: (25, true) :: (26, true) :: []) = true := by kernel_rfl
theorem fit_ord2 : ordOk (regOf Tryd.f14.body 5) ((0, true) :: (1, true) :: (2, false) :: (3, true) :: (4, true) :: (5, true) :: (6, true) :: (7, true) :: (8, true) :: (9, true) :: (10, true) :: (11, true) :: (12, true) :: (13, true) :: (14, true) :: (15, true) :: (16, true) :: (17, true) :: []) = true := by kernel_rfl
set_option maxHeartbeats 4000000 in
theorem pfit1 (n : Nat) (b o' cap : Nat) (j : Nat) (kj o d vk vn : Int) (vs : ByteArray) (s : Value) (w : World) (hj : j < n) (hz : n ≤ maxLen) (hcell : w.cell? ⟨b, o' + j, none⟩ = some (.int .i64 kj)) :
    Calls Tryd.prog 14 #[.agg #[.int .i64 1, .int .i64 j, .int .i64 o, .int .i64 d, .int .i64 vk, .int .i64 vn, .string vs, s], .slice (some ⟨b, o', none⟩) n cap] w fun e w' => e = .returned (.bool ((sgn o != []) && (vk == kj) && (vk != 0) && ckV vk vn vs)) ∧ Below w.heap.size w w' := by
  have bx := PdBox.new w ⟨1, j, o, d, (vk, vn, vs), []⟩ s
  have H2 : Hid (∀ W, Calls Tryd.prog 27 #[.int .i64 o] W fun e w' => e = .returned (.string ⟨(sgn o).toArray⟩) ∧ Below W.heap.size W w') := fun W => predSign o W
  have H3 : Hid (∀ W, Calls Tryd.prog 28 #[.agg #[.int .i64 vk, .int .i64 vn, .string vs]] W fun e w' => e = .returned (.bool (ckV vk vn vs)) ∧ Below W.heap.size W w') := fun W => valueCheck vk vn vs W
  generalize sgn o = X at *
  generalize ckV vk vn vs = ck at *
  obtain ⟨W, hW⟩ : ∃ W, W = w.alloc (.cells #[.int .i64 1, .int .i64 j, .int .i64 o, .int .i64 d, .int .i64 vk, .int .i64 vn, .string vs, s] 28) := ⟨_, rfl⟩
  have e0 : w.alloc (.cells (hc ⟨1, j, o, d, (vk, vn, vs), []⟩ s).toArray 28) = W := hW.symm
  have BW : Hid (Below w.heap.size w W) := by show Below _ _ _; rw [hW]; exact one_box
  have hcW := cell_on hcell BW.out
  have I0 : (0 : Int) ≤ (j : Int) := by omega
  have I1 : (j : Int) < (n : Int) := by omega
  have I2 : j < n := hj
  unfold maxLen at hz
  rw [e0] at bx
  obtain ⟨⟨x0, x1, x2, x3, x4, x5, x6, x7⟩, _, _⟩ := bx
  simp only [Nat.zero_add] at x1 x2 x3 x4 x5 x6 x7
  clear e0 hcell
  go_enter Tryd.func14, Tryd.ntmps14
  go_wp2_with fail
  rw [← hW]
  have g1 := Ex.cell x1
  have g2 := Ex.cell x2
  have g3 := Ex.cell x3
  have g4 := Ex.cell x4
  have g5 := Ex.cell x5
  have g6 := Ex.cell x6
  have gc := Ex.cell hcW
  have ne := Ex.ne W
  have B0 : Hid (Below W.heap.size W W.drew) := (Below.refl _ _).drew
  clear hW x1 x2 x3 x4 x5 x6 x7 hcW
  go_wp2_with fail
  by_cases hX : X = []
  · subst hX
    refine wp_region_ord_at (Ex W) (regOf Tryd.f14.body 3) ((0, true) :: (1, true) :: (2, false) :: (3, true) :: (4, true) :: (5, true) :: (6, true) :: (7, true) :: (8, true) :: (9, true) :: (10, true) :: (11, true) :: (12, true) :: (13, true) :: (14, true) :: (15, true) :: (16, true) :: (17, true) :: (18, true) :: (19, true) :: (20, true) :: (21, true) :: (22, true) :: (23, true) :: (24, false) :: (25, true) :: (26, true) :: []) (by kernel_rfl) (by kernel_rfl) fit_ord1 B0.out ?_
    generalize W.drew = v0 at *
    repeat (refine ord_quiet rfl ?_; go_big_quiet_step (fail); refine wpQuiet_nil ?_)
    refine ord_call rfl (by rfl) 27 rfl (enters_of Tryd.func27 (by kernel_rfl) rfl) [.int .i64 o] (by rfl) _ (H2.out v0) ?_
    rintro e v1 ⟨rfl, hb0⟩
    have B1 : Hid (Below W.heap.size W v1) := B0.out.trans (hb0.mono B0.out.size)
    clear hb0
    refine ⟨_, rfl, Ex.of B1.out, ?_⟩
    simp only [Act.put, List.setIfInBounds_toArray, List.set_cons_zero, List.set_cons_succ]
    repeat (refine ord_quiet rfl ?_; go_big_quiet_step (fail); refine wpQuiet_nil ?_)
    refine ord_skip rfl (by rfl) (Ex.of B1.out) ?_
    simp only [Act.put, List.setIfInBounds_toArray, List.set_cons_zero, List.set_cons_succ]
    repeat (refine ord_quiet rfl ?_; go_big_quiet_step (fail); refine wpQuiet_nil ?_)
    refine ord_end ?_
    go_wp2_with fail
    go_ret
    exact ⟨by first | rfl | (simp [*]; done) | fail, BW.out.trans (B1.out.mono BW.out.size)⟩
  have nX : (X == []) = false := beq_false_of_ne hX
  by_cases h1 : vk = kj
  · subst h1
    by_cases h0 : vk = 0
    · subst h0
      refine wp_region_ord_at (Ex W) (regOf Tryd.f14.body 3) ((0, true) :: (1, true) :: (2, false) :: (3, true) :: (4, true) :: (5, true) :: (6, true) :: (7, true) :: (8, true) :: (9, true) :: (10, true) :: (11, true) :: (12, true) :: (13, true) :: (14, true) :: (15, true) :: (16, true) :: (17, true) :: (18, true) :: (19, true) :: (20, true) :: (21, true) :: (22, true) :: (23, true) :: (24, false) :: (25, true) :: (26, true) :: []) (by kernel_rfl) (by kernel_rfl) fit_ord1 B0.out ?_
      generalize W.drew = v0 at *
      repeat (refine ord_quiet rfl ?_; go_big_quiet_step (fail); refine wpQuiet_nil ?_)
      refine ord_call rfl (by rfl) 27 rfl (enters_of Tryd.func27 (by kernel_rfl) rfl) [.int .i64 o] (by rfl) _ (H2.out v0) ?_
      rintro e v1 ⟨rfl, hb0⟩
      have B1 : Hid (Below W.heap.size W v1) := B0.out.trans (hb0.mono B0.out.size)
      clear hb0
      refine ⟨_, rfl, Ex.of B1.out, ?_⟩
      simp only [Act.put, List.setIfInBounds_toArray, List.set_cons_zero, List.set_cons_succ]
      repeat (refine ord_quiet rfl ?_; go_big_quiet_step (fail); refine wpQuiet_nil ?_)
      refine ord_skip rfl (by rfl) (Ex.of B1.out) ?_
      simp only [Act.put, List.setIfInBounds_toArray, List.set_cons_zero, List.set_cons_succ]
      repeat (refine ord_quiet rfl ?_; go_big_quiet_step (fail); refine wpQuiet_nil ?_)
      refine ord_end ?_
      go_wp2_with fail
      go_ret
      exact ⟨by first | rfl | (simp [*]; done) | fail, BW.out.trans (B1.out.mono BW.out.size)⟩
    · have n0 : (vk == 0) = false := beq_false_of_ne h0
      have m0 : (vk != 0) = true := by simp [h0]
      refine wp_region_ord_at (Ex W) (regOf Tryd.f14.body 3) ((0, true) :: (1, true) :: (2, false) :: (3, true) :: (4, true) :: (5, true) :: (6, true) :: (7, true) :: (8, true) :: (9, true) :: (10, true) :: (11, true) :: (12, true) :: (13, true) :: (14, true) :: (15, true) :: (16, true) :: (17, true) :: (18, true) :: (19, true) :: (20, true) :: (21, true) :: (22, true) :: (23, true) :: (24, false) :: (25, true) :: (26, true) :: []) (by kernel_rfl) (by kernel_rfl) fit_ord1 B0.out ?_
      generalize W.drew = v0 at *
      repeat (refine ord_quiet rfl ?_; go_big_quiet_step (fail); refine wpQuiet_nil ?_)
      refine ord_call rfl (by rfl) 27 rfl (enters_of Tryd.func27 (by kernel_rfl) rfl) [.int .i64 o] (by rfl) _ (H2.out v0) ?_
      rintro e v1 ⟨rfl, hb0⟩
      have B1 : Hid (Below W.heap.size W v1) := B0.out.trans (hb0.mono B0.out.size)
      clear hb0
      refine ⟨_, rfl, Ex.of B1.out, ?_⟩
      simp only [Act.put, List.setIfInBounds_toArray, List.set_cons_zero, List.set_cons_succ]
      repeat (refine ord_quiet rfl ?_; go_big_quiet_step (fail); refine wpQuiet_nil ?_)
      refine ord_call rfl (by rfl) 28 rfl (enters_of Tryd.func28 (by kernel_rfl) rfl) [.agg #[.int .i64 vk, .int .i64 vn, .string vs]] (by rfl) _ (H3.out v1) ?_
      rintro e v2 ⟨rfl, hb1⟩
      have B2 : Hid (Below W.heap.size W v2) := B1.out.trans (hb1.mono B1.out.size)
      clear hb1
      refine ⟨_, rfl, Ex.of B2.out, ?_⟩
      simp only [Act.put, List.setIfInBounds_toArray, List.set_cons_zero, List.set_cons_succ]
      repeat (refine ord_quiet rfl ?_; go_big_quiet_step (fail); refine wpQuiet_nil ?_)
      refine ord_end ?_
      go_wp2_with fail
      go_ret
      exact ⟨by first | rfl | (simp [*]; done) | fail, BW.out.trans (B2.out.mono BW.out.size)⟩
  · have n1 : (vk == kj) = false := beq_false_of_ne h1
    refine wp_region_ord_at (Ex W) (regOf Tryd.f14.body 3) ((0, true) :: (1, true) :: (2, false) :: (3, true) :: (4, true) :: (5, true) :: (6, true) :: (7, true) :: (8, true) :: (9, true) :: (10, true) :: (11, true) :: (12, true) :: (13, true) :: (14, true) :: (15, true) :: (16, true) :: (17, true) :: (18, true) :: (19, true) :: (20, true) :: (21, true) :: (22, true) :: (23, true) :: (24, false) :: (25, true) :: (26, true) :: []) (by kernel_rfl) (by kernel_rfl) fit_ord1 B0.out ?_
    generalize W.drew = v0 at *
    repeat (refine ord_quiet rfl ?_; go_big_quiet_step (fail); refine wpQuiet_nil ?_)
    refine ord_call rfl (by rfl) 27 rfl (enters_of Tryd.func27 (by kernel_rfl) rfl) [.int .i64 o] (by rfl) _ (H2.out v0) ?_
    rintro e v1 ⟨rfl, hb0⟩
    have B1 : Hid (Below W.heap.size W v1) := B0.out.trans (hb0.mono B0.out.size)
    clear hb0
    refine ⟨_, rfl, Ex.of B1.out, ?_⟩
    simp only [Act.put, List.setIfInBounds_toArray, List.set_cons_zero, List.set_cons_succ]
    repeat (refine ord_quiet rfl ?_; go_big_quiet_step (fail); refine wpQuiet_nil ?_)
    refine ord_skip rfl (by rfl) (Ex.of B1.out) ?_
    simp only [Act.put, List.setIfInBounds_toArray, List.set_cons_zero, List.set_cons_succ]
    repeat (refine ord_quiet rfl ?_; go_big_quiet_step (fail); refine wpQuiet_nil ?_)
    refine ord_end ?_
    go_wp2_with fail
    go_ret
    exact ⟨by first | rfl | (simp [*]; done) | fail, BW.out.trans (B1.out.mono BW.out.size)⟩
set_option maxHeartbeats 4000000 in
theorem pfit2 (n : Nat) (b o' cap : Nat) (j j' : Nat) (kj kj' o vk vn : Int) (vs : ByteArray) (s : Value) (w : World) (hj : j < n) (hj' : j' < n) (hz : n ≤ maxLen) (hcell : w.cell? ⟨b, o' + j, none⟩ = some (.int .i64 kj)) (hcell' : w.cell? ⟨b, o' + j', none⟩ = some (.int .i64 kj')) :
    Calls Tryd.prog 14 #[.agg #[.int .i64 2, .int .i64 j, .int .i64 o, .int .i64 j', .int .i64 vk, .int .i64 vn, .string vs, s], .slice (some ⟨b, o', none⟩) n cap] w fun e w' => e = .returned (.bool ((sgn o != []) && (kj == kj'))) ∧ Below w.heap.size w w' := by
  have bx := PdBox.new w ⟨2, j, o, j', (vk, vn, vs), []⟩ s
  have H2 : Hid (∀ W, Calls Tryd.prog 27 #[.int .i64 o] W fun e w' => e = .returned (.string ⟨(sgn o).toArray⟩) ∧ Below W.heap.size W w') := fun W => predSign o W
  generalize sgn o = X at *
  obtain ⟨W, hW⟩ : ∃ W, W = w.alloc (.cells #[.int .i64 2, .int .i64 j, .int .i64 o, .int .i64 j', .int .i64 vk, .int .i64 vn, .string vs, s] 28) := ⟨_, rfl⟩
  have e0 : w.alloc (.cells (hc ⟨2, j, o, j', (vk, vn, vs), []⟩ s).toArray 28) = W := hW.symm
  have BW : Hid (Below w.heap.size w W) := by show Below _ _ _; rw [hW]; exact one_box
  have hcW := cell_on hcell BW.out
  have hcW' := cell_on hcell' BW.out
  have I0 : (0 : Int) ≤ (j : Int) := by omega
  have I1 : (j : Int) < (n : Int) := by omega
  have I0' : (0 : Int) ≤ (j' : Int) := by omega
  have I1' : (j' : Int) < (n : Int) := by omega
  unfold maxLen at hz
  rw [e0] at bx
  obtain ⟨⟨x0, x1, x2, x3, x4, x5, x6, x7⟩, _, _⟩ := bx
  simp only [Nat.zero_add] at x1 x2 x3 x4 x5 x6 x7
  clear e0 hcell hcell'
  go_enter Tryd.func14, Tryd.ntmps14
  go_wp2_with fail
  rw [← hW]
  have g1 := Ex.cell x1
  have g2 := Ex.cell x2
  have g3 := Ex.cell x3
  have gc := Ex.cell hcW
  have gc' := Ex.cell hcW'
  have ne := Ex.ne W
  have B0 : Hid (Below W.heap.size W W.drew) := (Below.refl _ _).drew
  clear hW x1 x2 x3 x4 x5 x6 x7 hcW hcW'
  go_wp2_with fail
  by_cases hX : X = []
  · subst hX
    refine wp_region_ord_at (Ex W) (regOf Tryd.f14.body 5) ((0, true) :: (1, true) :: (2, false) :: (3, true) :: (4, true) :: (5, true) :: (6, true) :: (7, true) :: (8, true) :: (9, true) :: (10, true) :: (11, true) :: (12, true) :: (13, true) :: (14, true) :: (15, true) :: (16, true) :: (17, true) :: []) (by kernel_rfl) (by kernel_rfl) fit_ord2 B0.out ?_
    generalize W.drew = v0 at *
    repeat (refine ord_quiet rfl ?_; go_big_quiet_step (fail); refine wpQuiet_nil ?_)
    refine ord_call rfl (by rfl) 27 rfl (enters_of Tryd.func27 (by kernel_rfl) rfl) [.int .i64 o] (by rfl) _ (H2.out v0) ?_
    rintro e v1 ⟨rfl, hb0⟩
    have B1 : Hid (Below W.heap.size W v1) := B0.out.trans (hb0.mono B0.out.size)
    clear hb0
    refine ⟨_, rfl, Ex.of B1.out, ?_⟩
    simp only [Act.put, List.setIfInBounds_toArray, List.set_cons_zero, List.set_cons_succ]
    repeat (refine ord_quiet rfl ?_; go_big_quiet_step (fail); refine wpQuiet_nil ?_)
    refine ord_end ?_
    go_wp2_with fail
    go_ret
    exact ⟨by first | rfl | (simp [*]; done) | fail, BW.out.trans (B1.out.mono BW.out.size)⟩
  · have nX : (X == []) = false := beq_false_of_ne hX
    refine wp_region_ord_at (Ex W) (regOf Tryd.f14.body 5) ((0, true) :: (1, true) :: (2, false) :: (3, true) :: (4, true) :: (5, true) :: (6, true) :: (7, true) :: (8, true) :: (9, true) :: (10, true) :: (11, true) :: (12, true) :: (13, true) :: (14, true) :: (15, true) :: (16, true) :: (17, true) :: []) (by kernel_rfl) (by kernel_rfl) fit_ord2 B0.out ?_
    generalize W.drew = v0 at *
    repeat (refine ord_quiet rfl ?_; go_big_quiet_step (fail); refine wpQuiet_nil ?_)
    refine ord_call rfl (by rfl) 27 rfl (enters_of Tryd.func27 (by kernel_rfl) rfl) [.int .i64 o] (by rfl) _ (H2.out v0) ?_
    rintro e v1 ⟨rfl, hb0⟩
    have B1 : Hid (Below W.heap.size W v1) := B0.out.trans (hb0.mono B0.out.size)
    clear hb0
    refine ⟨_, rfl, Ex.of B1.out, ?_⟩
    simp only [Act.put, List.setIfInBounds_toArray, List.set_cons_zero, List.set_cons_succ]
    repeat (refine ord_quiet rfl ?_; go_big_quiet_step (fail); refine wpQuiet_nil ?_)
    refine ord_end ?_
    go_wp2_with fail
    go_ret
    exact ⟨by first | rfl | (simp [*]; done) | fail, BW.out.trans (B1.out.mono BW.out.size)⟩
set_option maxHeartbeats 1000000 in
theorem pfit3 (c o d vk vn : Int) (vs : ByteArray) (s cv : Value) (w : World) :
    Calls Tryd.prog 14 #[.agg #[.int .i64 3, .int .i64 c, .int .i64 o, .int .i64 d, .int .i64 vk, .int .i64 vn, .string vs, s], cv] w fun e w' => e = .returned (.bool true) ∧ Below w.heap.size w w' := by
  go_enter Tryd.func14, Tryd.ntmps14
  go_wp2_with fail
  go_ret
  exact ⟨rfl, one_box⟩
set_option maxHeartbeats 1000000 in
theorem pfit45 (k : Int) (hk : k = 4 ∨ k = 5) (c o d vk vn : Int) (vs : ByteArray) (a : Option Addr) (m cap : Nat) (hm : m ≤ maxLen) (cv : Value) (w : World) :
    Calls Tryd.prog 14 #[.agg #[.int .i64 k, .int .i64 c, .int .i64 o, .int .i64 d, .int .i64 vk, .int .i64 vn, .string vs, .slice a m cap], cv] w fun e w' => e = .returned (.bool (decide (2 ≤ m))) ∧ Below w.heap.size w w' := by
  have E : decide (2 ≤ (m : Int)) = decide (2 ≤ m) := decide_eq_decide.2 (by omega)
  have HE : Hid (decide (2 ≤ (m : Int)) = decide (2 ≤ m)) := E
  clear E
  unfold maxLen at hm
  rcases hk with rfl | rfl
  · go_enter Tryd.func14, Tryd.ntmps14
    go_wp2_with fail
    go_ret
    exact ⟨by rw [← HE.out]; first | rfl | (simp; done) | fail, one_box⟩
  · go_enter Tryd.func14, Tryd.ntmps14
    go_wp2_with fail
    go_ret
    exact ⟨by rw [← HE.out]; first | rfl | (simp; done) | fail, one_box⟩
set_option maxHeartbeats 1000000 in
theorem pfit6 (c o d vk vn : Int) (vs : ByteArray) (a : Option Addr) (m cap : Nat) (hm : m ≤ maxLen) (cv : Value) (w : World) :
    Calls Tryd.prog 14 #[.agg #[.int .i64 6, .int .i64 c, .int .i64 o, .int .i64 d, .int .i64 vk, .int .i64 vn, .string vs, .slice a m cap], cv] w fun e w' => e = .returned (.bool (decide (m = 1))) ∧ Below w.heap.size w w' := by
  unfold maxLen at hm
  by_cases h : m = 1
  · subst h
    go_enter Tryd.func14, Tryd.ntmps14
    go_wp2_with fail
    go_ret
    exact ⟨rfl, one_box⟩
  · have hb : ((m : Int) == 1) = false := beq_false_of_ne (by omega)
    have HD : Hid (decide (m = 1) = false) := by show _ = _; simp [h]
    go_enter Tryd.func14, Tryd.ntmps14
    go_wp2_with fail
    go_ret
    exact ⟨by rw [HD.out]; first | rfl | (simp [*]; done) | fail, one_box⟩
set_option maxHeartbeats 1000000 in
theorem pfit0 (k : Int) (hk : k ≠ 1 ∧ k ≠ 2 ∧ k ≠ 3 ∧ k ≠ 4 ∧ k ≠ 5 ∧ k ≠ 6) (c o d vk vn : Int) (vs : ByteArray) (s cv : Value) (w : World) :
    Calls Tryd.prog 14 #[.agg #[.int .i64 k, .int .i64 c, .int .i64 o, .int .i64 d, .int .i64 vk, .int .i64 vn, .string vs, s], cv] w fun e w' => e = .returned (.bool false) ∧ Below w.heap.size w w' := by
  have b1 : (k == 1) = false := beq_false_of_ne hk.1
  have b2 : (k == 2) = false := beq_false_of_ne hk.2.1
  have b3 : (k == 3) = false := beq_false_of_ne hk.2.2.1
  have b4 : (k == 4) = false := beq_false_of_ne hk.2.2.2.1
  have b5 : (k == 5) = false := beq_false_of_ne hk.2.2.2.2.1
  have b6 : (k == 6) = false := beq_false_of_ne hk.2.2.2.2.2
  clear hk
  go_enter Tryd.func14, Tryd.ntmps14
  go_wp2_with fail
  go_ret
  exact ⟨rfl, one_box⟩
/-- What pred.fits answers. -/
theorem predFits (ks : List Int) (cv : Value) (p : Pd) (s : Value) (w : World) (hi : IntsIs w cv ks) (hm : p.l.length ≤ maxLen) (hs : ∃ a cap, s = .slice a p.l.length cap) (ha : ∀ c ∈ askP p, 0 ≤ c ∧ c < (ks.length : Int)) :
    Calls Tryd.prog 14 #[pv p s, cv] w fun e w' => e = .returned (.bool (fitP ks p)) ∧ Below w.heap.size w w' := by
  obtain ⟨k, c, o, d, ⟨vk, vn, vs⟩, l⟩ := p
  obtain ⟨a, cap, rfl⟩ := hs
  unfold pv fitP
  simp only
  simp only at hm
  by_cases k1 : k = 1
  · subst k1
    have h := ha c (by simp [askP])
    obtain ⟨j, rfl⟩ : ∃ j : Nat, c = j := ⟨c.toNat, by omega⟩
    have hj : j < ks.length := by omega
    obtain ⟨b, o', cap', rfl⟩ := hi.addr (by intro e; rw [e] at hj; simp at hj)
    rw [if_pos rfl, kAt_nat ks j hj]
    exact pfit1 ks.length b o' cap' j ks[j] o d vk vn vs _ w hj hi.le (hi.at j hj)
  by_cases k2 : k = 2
  · subst k2
    have h := ha c (by simp [askP])
    have h' := ha d (by simp [askP])
    obtain ⟨j, rfl⟩ : ∃ j : Nat, c = j := ⟨c.toNat, by omega⟩
    obtain ⟨j', rfl⟩ : ∃ j : Nat, d = j := ⟨d.toNat, by omega⟩
    have hj : j < ks.length := by omega
    have hj' : j' < ks.length := by omega
    obtain ⟨b, o', cap', rfl⟩ := hi.addr (by intro e; rw [e] at hj; simp at hj)
    rw [if_neg (by omega), if_pos rfl, kAt_nat ks j hj, kAt_nat ks j' hj']
    exact pfit2 ks.length b o' cap' j j' ks[j] ks[j'] o vk vn vs _ w hj hj' hi.le (hi.at j hj) (hi.at j' hj')
  by_cases k3 : k = 3
  · subst k3
    rw [if_neg (by omega), if_neg (by omega), if_pos rfl]
    exact pfit3 c o d vk vn vs _ cv w
  by_cases k45 : k = 4 ∨ k = 5
  · rw [if_neg k1, if_neg k2, if_neg k3, if_pos k45]
    exact pfit45 k k45 c o d vk vn vs a l.length cap hm cv w
  by_cases k6 : k = 6
  · subst k6
    rw [if_neg (by omega), if_neg (by omega), if_neg (by omega), if_neg (by omega), if_pos rfl]
    exact pfit6 c o d vk vn vs a l.length cap hm cv w
  · rw [if_neg k1, if_neg k2, if_neg k3, if_neg k45, if_neg k6]
    exact pfit0 k ⟨k1, k2, k3, fun e => k45 (.inl e), fun e => k45 (.inr e), k6⟩ c o d vk vn vs _ cv w
end Go.Proofs.YtiphnbpkliglcaaDoor
