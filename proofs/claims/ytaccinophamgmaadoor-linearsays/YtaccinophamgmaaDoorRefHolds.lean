/- What the document's own Holds answers of predicates in memory, of whatever depth. -/
import Derived.Test.YtaccinophamgmaaDoorPackHolds
import Derived.Test.YtaccinophamgmaaDoorRef
import Derived.Test.YtaccinophamgmaaDoorPdMk
import Derived.Test.YtaccinophamgmaaDoorOrd
namespace Go.Proofs.YtaccinophamgmaaDoor
open Go.RowKit Go.Sort
set_option maxRecDepth 100000
set_option linter.unusedVariables false

set_option maxHeartbeats 1000000 in
theorem refCol (r : List Val) (rv : Value) (c : Int) (w : World) (hr : RowIs w rv r) :
    Calls Tryd.prog 39 #[rv, .int .i64 c] w fun e w' => e = .returned (vv (colR r c)) ∧ Below w.heap.size w w' := by
  obtain ⟨a0, cap0, rfl⟩ := hr.form
  have la := hr.le
  unfold maxLen at la
  by_cases k0 : c < 0
  · have E : Hid (colR r c = nul) := by show colR r c = nul; unfold colR; rw [if_neg (by omega)]
    clear hr
    go_enter Tryd.func39, Tryd.ntmps39
    go_wp2_with fail
    exact bodyPost_ret (v := .agg #[.int .i64 0, .int .i64 0, .string ⟨#[]⟩]) (by simp [results, Tryd.results39, go_sem]) rfl ⟨by rw [E.out]; rfl, one_box⟩
  · by_cases k1 : c < (r.length : Int)
    · have hl : c.toNat < r.length := by omega
      obtain ⟨b, o, rfl, x1, x2, x3, hb⟩ := hr.at c.toNat hl
      have E : Hid (colR r c = r[c.toNat]) := by show colR r c = _; unfold colR; rw [if_pos (by omega), List.getD_eq_getElem?_getD, List.getElem?_eq_getElem hl]; rfl
      have I4 : 0 ≤ c := by omega
      clear hr
      generalize r[c.toNat] = x at *
      go_enter Tryd.func39, Tryd.ntmps39
      go_wp2_with fail
      exact bodyPost_ret (v := .agg #[.int .i64 x.1, .int .i64 x.2.1, .string x.2.2]) (by simp [results, Tryd.results39, go_sem]) rfl ⟨by rw [E.out]; rfl, one_box⟩
    · have I3 : (r.length : Int) ≤ c := by omega
      have E : Hid (colR r c = nul) := by show colR r c = nul; unfold colR; rw [if_pos (by omega), List.getD_eq_getElem?_getD, List.getElem?_eq_none (by omega)]; rfl
      clear hr
      go_enter Tryd.func39, Tryd.ntmps39
      go_wp2_with fail
      exact bodyPost_ret (v := .agg #[.int .i64 0, .int .i64 0, .string ⟨#[]⟩]) (by simp [results, Tryd.results39, go_sem]) rfl ⟨by rw [E.out]; rfl, one_box⟩
set_option maxHeartbeats 2000000 in
theorem refHeld (a b : Val) (o : Int) (w : World) :
    Calls Tryd.prog 38 #[.int .i64 o, vv a, vv b] w fun e w' => e = .returned (.bool (ag a o b)) ∧ Below w.heap.size w w' := by
  obtain ⟨k, n, s⟩ := a
  obtain ⟨k', n', s'⟩ := b
  unfold vv
  by_cases h1 : k = k'
  · by_cases h0 : k = 0
    · subst h1 h0
      go_enter Tryd.func38, Tryd.ntmps38
      go_wp2_with fail
      go_ret
      exact ⟨rfl, two_boxes⟩
    · subst h1
      have E : Hid (ag (k, n, s) o (k, n', s') = agO o (cV k n s k n' s')) := by
        show ag _ _ _ = _
        unfold ag
        rw [if_pos ⟨rfl, h0⟩]; rfl
      have b0 : (k == 0) = false := vv_ne h0
      clear h0
      have q : ∀ W, Calls Tryd.prog 62 #[.agg #[.int .i64 k, .int .i64 n, .string s], .agg #[.int .i64 k, .int .i64 n', .string s']] W fun e w' => e = .returned (.int .i64 (cV k n s k n' s')) ∧ Below W.heap.size W w' := refCompareValues k n s k n' s'
      have Q : Hid (∀ W, Calls Tryd.prog 62 #[.agg #[.int .i64 k, .int .i64 n, .string s], .agg #[.int .i64 k, .int .i64 n', .string s']] W fun e w' => e = .returned (.int .i64 (cV k n s k n' s')) ∧ Below W.heap.size W w') := q
      clear q
      have hc := cV_sq k n s k n' s'
      generalize cV k n s k n' s' = c at *
      generalize ag (k, n, s) o (k, n', s') = res at *
      go_enter Tryd.func38, Tryd.ntmps38
      go_wp2_with fail
      refine (Q.out _).mono ?_
      rintro e w1 ⟨rfl, hb1⟩
      have B1 : Hid (Below w.heap.size w w1) := two_boxes.trans (hb1.mono (by simp; omega))
      clear Q hb1
      by_cases o1 : o = 1
      · subst o1
        go_wp2_with fail
        go_ret
        exact ⟨retB (by rw [E.out]; rfl), B1.out⟩
      by_cases o2 : o = 2
      · subst o2
        go_wp2_with fail
        go_ret
        exact ⟨retB (by rw [E.out]; by_cases hz : c = 0 <;> simp [agO, hz]), B1.out⟩
      by_cases o3 : o = 3
      · subst o3
        go_wp2_with fail
        go_ret
        exact ⟨retB (by rw [E.out]; simp [agO]), B1.out⟩
      by_cases o4 : o = 4
      · subst o4
        go_wp2_with fail
        go_ret
        exact ⟨retB (by rw [E.out]; simp [agO]), B1.out⟩
      by_cases o5 : o = 5
      · subst o5
        go_wp2_with fail
        go_ret
        exact ⟨retB (by rw [E.out]; simp [agO]), B1.out⟩
      by_cases o6 : o = 6
      · subst o6
        go_wp2_with fail
        go_ret
        exact ⟨retB (by rw [E.out]; simp [agO]), B1.out⟩
      have b1 := vv_ne o1
      have b2 := vv_ne o2
      have b3 := vv_ne o3
      have b4 := vv_ne o4
      have b5 := vv_ne o5
      have b6 := vv_ne o6
      have EF : Hid (res = false) := by show res = false; rw [E.out]; simp [agO, o1, o2, o3, o4, o5, o6]
      clear o1 o2 o3 o4 o5 o6
      go_wp2_with fail
      go_ret
      exact ⟨retB (by rw [EF.out]), B1.out⟩
  · have E : Hid (ag (k, n, s) o (k', n', s') = false) := by
      show ag _ _ _ = _
      unfold ag
      rw [if_neg (fun h => h1 h.1)]
    generalize ag (k, n, s) o (k', n', s') = res at *
    have b1 : (k == k') = false := vv_ne h1
    go_enter Tryd.func38, Tryd.ntmps38
    go_wp2_with fail
    go_ret
    exact ⟨retB (by rw [E.out]), two_boxes⟩
theorem rh_ord3 : ordOk (regOf Tryd.f20.body 3) ((0, true) :: (1, true) :: (2, true) :: (3, true) :: (4, true) :: (6, true) :: (7, true) :: (5, false) :: (8, false) :: (9, true) :: []) = true := by kernel_rfl
theorem rh_ord5 : ordOk (regOf Tryd.f20.body 5) ((0, true) :: (1, true) :: (2, true) :: (3, true) :: (4, true) :: (6, true) :: (7, true) :: (8, true) :: (5, false) :: (9, false) :: (10, false) :: (11, true) :: []) = true := by kernel_rfl
/-- Predicates no deeper than n hold of a row just where they do. -/
def RefHoldsAt (n : Nat) : Prop := ∀ (F : Nat → Prop) (p : Pd) (s rv : Value) (r : List Val) (w : World), PdL F n w s p.l → RowIs w rv r → Calls Tryd.prog 20 #[pv p s, rv] w fun e w' => e = .returned (.bool (hd p r)) ∧ Below w.heap.size w w'
set_option maxHeartbeats 2000000 in
theorem refHolds1 (r : List Val) (a0 : Option Addr) (n0 cap0 : Nat) (s : Value) (c o d vk vn : Int) (vs : ByteArray) (w : World) (res : Bool) (hr : RowIs w (.slice a0 n0 cap0) r) (E : Hid (res = ag (colR r c) o (vk, vn, vs))) :
    Calls Tryd.prog 20 #[.agg #[.int .i64 1, .int .i64 c, .int .i64 o, .int .i64 d, .int .i64 vk, .int .i64 vn, .string vs, s], .slice a0 n0 cap0] w fun e w' => e = .returned (.bool res) ∧ Below w.heap.size w w' := by
  have bx := PdBox.new w ⟨1, c, o, d, (vk, vn, vs), []⟩ s
  obtain ⟨W, hW⟩ : ∃ W, W = w.alloc (.cells #[.int .i64 1, .int .i64 c, .int .i64 o, .int .i64 d, .int .i64 vk, .int .i64 vn, .string vs, s] 33) := ⟨_, rfl⟩
  have e0 : w.alloc (.cells (hc ⟨1, c, o, d, (vk, vn, vs), []⟩ s).toArray 33) = W := hW.symm
  have BW : Hid (Below w.heap.size w W) := by show Below _ _ _; rw [hW]; exact one_box
  have HC : Hid (∀ V, Below W.heap.size W V → Calls Tryd.prog 39 #[.slice a0 n0 cap0, .int .i64 c] V fun e w' => e = .returned (vv (colR r c)) ∧ Below V.heap.size V w') := fun V hV => refCol r _ c V ((hr.on BW.out).on hV)
  have HH : Hid (∀ V, Below W.heap.size W V → Calls Tryd.prog 38 #[.int .i64 o, vv (colR r c), .agg #[.int .i64 vk, .int .i64 vn, .string vs]] V fun e w' => e = .returned (.bool res) ∧ Below V.heap.size V w') := fun V hV => by rw [E.out]; exact refHeld (colR r c) (vk, vn, vs) o V
  generalize vv (colR r c) = u at *
  rw [e0] at bx
  obtain ⟨⟨x0, x1, x2, x3, x4, x5, x6, x7⟩, _, _⟩ := bx
  simp only [Nat.zero_add] at x1 x2 x3 x4 x5 x6 x7
  clear e0 hr
  go_enter Tryd.func20, Tryd.ntmps20
  go_wp2_with fail
  rw [← hW]
  have g1 := Ex.cell x1
  have g2 := Ex.cell x2
  have g3 := Ex.cell x3
  have g4 := Ex.cell x4
  have g5 := Ex.cell x5
  have g6 := Ex.cell x6
  have ne := Ex.ne W
  have B0 : Hid (Below W.heap.size W W.drew) := (Below.refl _ _).drew
  clear hW x1 x2 x3 x4 x5 x6 x7
  go_wp2_with fail
  refine wp_region_ord_at (Ex W) (regOf Tryd.f20.body 3) ((0, true) :: (1, true) :: (2, true) :: (3, true) :: (4, true) :: (6, true) :: (7, true) :: (5, false) :: (8, false) :: (9, true) :: []) (by kernel_rfl) (by kernel_rfl) rh_ord3 B0.out ?_
  generalize W.drew = v0 at *
  repeat (refine ord_quiet rfl ?_; go_big_quiet_step (fail); refine wpQuiet_nil ?_)
  refine ord_call rfl (by rfl) 39 rfl (enters_of Tryd.func39 (by kernel_rfl) rfl) [.slice a0 n0 cap0, .int .i64 c] (by rfl) _ (HC.out v0 B0.out) ?_
  rintro e v1 ⟨rfl, hb0⟩
  have B1 : Hid (Below W.heap.size W v1) := B0.out.trans (hb0.mono B0.out.size)
  clear hb0
  refine ⟨_, rfl, Ex.of B1.out, ?_⟩
  simp only [Act.put, List.setIfInBounds_toArray, List.set_cons_zero, List.set_cons_succ]
  repeat (refine ord_quiet rfl ?_; go_big_quiet_step (fail); refine wpQuiet_nil ?_)
  refine ord_call rfl (by rfl) 38 rfl (enters_of Tryd.func38 (by kernel_rfl) rfl) [.int .i64 o, u, .agg #[.int .i64 vk, .int .i64 vn, .string vs]] (by rfl) _ (HH.out v1 B1.out) ?_
  rintro e v2 ⟨rfl, hb1⟩
  have B2 : Hid (Below W.heap.size W v2) := B1.out.trans (hb1.mono B1.out.size)
  clear hb1
  refine ⟨_, rfl, Ex.of B2.out, ?_⟩
  simp only [Act.put, List.setIfInBounds_toArray, List.set_cons_zero, List.set_cons_succ]
  repeat (refine ord_quiet rfl ?_; go_big_quiet_step (fail); refine wpQuiet_nil ?_)
  refine ord_end ?_
  go_wp2_with fail
  go_ret
  exact ⟨rfl, BW.out.trans (B2.out.mono BW.out.size)⟩
set_option maxHeartbeats 2000000 in
theorem refHolds2 (r : List Val) (a0 : Option Addr) (n0 cap0 : Nat) (s : Value) (c o d vk vn : Int) (vs : ByteArray) (w : World) (res : Bool) (hr : RowIs w (.slice a0 n0 cap0) r) (E : Hid (res = ag (colR r c) o (colR r d))) :
    Calls Tryd.prog 20 #[.agg #[.int .i64 2, .int .i64 c, .int .i64 o, .int .i64 d, .int .i64 vk, .int .i64 vn, .string vs, s], .slice a0 n0 cap0] w fun e w' => e = .returned (.bool res) ∧ Below w.heap.size w w' := by
  have bx := PdBox.new w ⟨2, c, o, d, (vk, vn, vs), []⟩ s
  obtain ⟨W, hW⟩ : ∃ W, W = w.alloc (.cells #[.int .i64 2, .int .i64 c, .int .i64 o, .int .i64 d, .int .i64 vk, .int .i64 vn, .string vs, s] 33) := ⟨_, rfl⟩
  have e0 : w.alloc (.cells (hc ⟨2, c, o, d, (vk, vn, vs), []⟩ s).toArray 33) = W := hW.symm
  have BW : Hid (Below w.heap.size w W) := by show Below _ _ _; rw [hW]; exact one_box
  have HC : Hid (∀ V, Below W.heap.size W V → Calls Tryd.prog 39 #[.slice a0 n0 cap0, .int .i64 c] V fun e w' => e = .returned (vv (colR r c)) ∧ Below V.heap.size V w') := fun V hV => refCol r _ c V ((hr.on BW.out).on hV)
  have HD : Hid (∀ V, Below W.heap.size W V → Calls Tryd.prog 39 #[.slice a0 n0 cap0, .int .i64 d] V fun e w' => e = .returned (vv (colR r d)) ∧ Below V.heap.size V w') := fun V hV => refCol r _ d V ((hr.on BW.out).on hV)
  have HH : Hid (∀ V, Below W.heap.size W V → Calls Tryd.prog 38 #[.int .i64 o, vv (colR r c), vv (colR r d)] V fun e w' => e = .returned (.bool res) ∧ Below V.heap.size V w') := fun V hV => by rw [E.out]; exact refHeld (colR r c) (colR r d) o V
  generalize vv (colR r c) = u at *
  generalize vv (colR r d) = u' at *
  rw [e0] at bx
  obtain ⟨⟨x0, x1, x2, x3, x4, x5, x6, x7⟩, _, _⟩ := bx
  simp only [Nat.zero_add] at x1 x2 x3 x4 x5 x6 x7
  clear e0 hr
  go_enter Tryd.func20, Tryd.ntmps20
  go_wp2_with fail
  rw [← hW]
  have g1 := Ex.cell x1
  have g2 := Ex.cell x2
  have g3 := Ex.cell x3
  have g4 := Ex.cell x4
  have g5 := Ex.cell x5
  have g6 := Ex.cell x6
  have ne := Ex.ne W
  have B0 : Hid (Below W.heap.size W W.drew) := (Below.refl _ _).drew
  clear hW x1 x2 x3 x4 x5 x6 x7
  go_wp2_with fail
  refine wp_region_ord_at (Ex W) (regOf Tryd.f20.body 5) ((0, true) :: (1, true) :: (2, true) :: (3, true) :: (4, true) :: (6, true) :: (7, true) :: (8, true) :: (5, false) :: (9, false) :: (10, false) :: (11, true) :: []) (by kernel_rfl) (by kernel_rfl) rh_ord5 B0.out ?_
  generalize W.drew = v0 at *
  repeat (refine ord_quiet rfl ?_; go_big_quiet_step (fail); refine wpQuiet_nil ?_)
  refine ord_call rfl (by rfl) 39 rfl (enters_of Tryd.func39 (by kernel_rfl) rfl) [.slice a0 n0 cap0, .int .i64 c] (by rfl) _ (HC.out v0 B0.out) ?_
  rintro e v1 ⟨rfl, hb0⟩
  have B1 : Hid (Below W.heap.size W v1) := B0.out.trans (hb0.mono B0.out.size)
  clear hb0
  refine ⟨_, rfl, Ex.of B1.out, ?_⟩
  simp only [Act.put, List.setIfInBounds_toArray, List.set_cons_zero, List.set_cons_succ]
  repeat (refine ord_quiet rfl ?_; go_big_quiet_step (fail); refine wpQuiet_nil ?_)
  refine ord_call rfl (by rfl) 39 rfl (enters_of Tryd.func39 (by kernel_rfl) rfl) [.slice a0 n0 cap0, .int .i64 d] (by rfl) _ (HD.out v1 B1.out) ?_
  rintro e v2 ⟨rfl, hb1⟩
  have B2 : Hid (Below W.heap.size W v2) := B1.out.trans (hb1.mono B1.out.size)
  clear hb1
  refine ⟨_, rfl, Ex.of B2.out, ?_⟩
  simp only [Act.put, List.setIfInBounds_toArray, List.set_cons_zero, List.set_cons_succ]
  repeat (refine ord_quiet rfl ?_; go_big_quiet_step (fail); refine wpQuiet_nil ?_)
  refine ord_call rfl (by rfl) 38 rfl (enters_of Tryd.func38 (by kernel_rfl) rfl) [.int .i64 o, u, u'] (by rfl) _ (HH.out v2 B2.out) ?_
  rintro e v3 ⟨rfl, hb2⟩
  have B3 : Hid (Below W.heap.size W v3) := B2.out.trans (hb2.mono B2.out.size)
  clear hb2
  refine ⟨_, rfl, Ex.of B3.out, ?_⟩
  simp only [Act.put, List.setIfInBounds_toArray, List.set_cons_zero, List.set_cons_succ]
  repeat (refine ord_quiet rfl ?_; go_big_quiet_step (fail); refine wpQuiet_nil ?_)
  refine ord_end ?_
  go_wp2_with fail
  go_ret
  exact ⟨rfl, BW.out.trans (B3.out.mono BW.out.size)⟩
set_option maxHeartbeats 2000000 in
theorem refHolds3 (r : List Val) (a0 : Option Addr) (n0 cap0 : Nat) (s : Value) (c o d vk vn : Int) (vs : ByteArray) (w : World) (res : Bool) (hr : RowIs w (.slice a0 n0 cap0) r) (E : Hid (res = decide ((colR r c).1 = 0))) :
    Calls Tryd.prog 20 #[.agg #[.int .i64 3, .int .i64 c, .int .i64 o, .int .i64 d, .int .i64 vk, .int .i64 vn, .string vs, s], .slice a0 n0 cap0] w fun e w' => e = .returned (.bool res) ∧ Below w.heap.size w w' := by
  have q := refCol r (.slice a0 n0 cap0) c _ (hr.on (one_box (o := .cells #[.int .i64 3, .int .i64 c, .int .i64 o, .int .i64 d, .int .i64 vk, .int .i64 vn, .string vs, s] 33)))
  generalize colR r c = z at *
  obtain ⟨z0, z1, z2⟩ := z
  have E' : Hid (res = decide (z0 = 0)) := E
  unfold vv at q
  simp only at q
  have hfield : ∀ W, Sem.run Tryd.prog (Instr.field 30 (.agg #[.int .i64 z0, .int .i64 z1, .string z2]) 0) W = .ok (.int .i64 z0) W := fun _ => by kernel_rfl
  clear E hr
  go_enter Tryd.func20, Tryd.ntmps20
  go_wp2_with fail
  refine q.mono ?_
  rintro e w1 ⟨rfl, hb1⟩
  have hb6 : Hid (Below w.heap.size w w1) := one_box.trans (hb1.mono (by simp))
  clear hb1 q
  by_cases h0 : z0 = 0
  · subst h0
    go_wp2_with fail
    go_ret
    exact ⟨retB (by rw [E'.out]; rfl), hb6.out⟩
  · have b0 := vv_ne h0
    have E2 : Hid (res = false) := by show res = false; rw [E'.out]; simp [h0]
    clear h0
    go_wp2_with fail
    go_ret
    exact ⟨retB (by rw [E2.out]), hb6.out⟩
set_option maxHeartbeats 4000000 in
theorem refHolds6 (n : Nat) (ih : ∀ m, n = m + 1 → RefHoldsAt m) (F : Nat → Prop) (r : List Val) (a0 : Option Addr) (n0 cap0 : Nat) (s : Value) (l : List Pd) (c o d vk vn : Int) (vs : ByteArray) (w : World) (res : Bool) (E : Hid (res = (notB (l.map fun q => hd q r)))) (hp : PdL F n w s l) (hr : RowIs w (.slice a0 n0 cap0) r) :
    Calls Tryd.prog 20 #[.agg #[.int .i64 6, .int .i64 c, .int .i64 o, .int .i64 d, .int .i64 vk, .int .i64 vn, .string vs, s], .slice a0 n0 cap0] w fun e w' => e = .returned (.bool res) ∧ Below w.heap.size w w' := by
  obtain ⟨as0, cs0, hs⟩ := hp.form
  have lL := hp.le
  unfold maxLen at lL
  subst hs
  have bx : PdBox w.heap.size ⟨6, c, o, d, (vk, vn, vs), []⟩ (.slice as0 l.length cs0) (w.alloc (.cells #[.int .i64 6, .int .i64 c, .int .i64 o, .int .i64 d, .int .i64 vk, .int .i64 vn, .string vs, .slice as0 l.length cs0] 33)) := PdBox.new w ⟨6, c, o, d, (vk, vn, vs), []⟩ (.slice as0 l.length cs0)
  obtain ⟨⟨x0, x1, x2, x3, x4, x5, x6, x7⟩, _, _⟩ := bx
  simp only [Nat.zero_add] at x1 x2 x3 x4 x5 x6 x7
  have ob := one_box (w := w) (o := (.cells #[.int .i64 6, .int .i64 c, .int .i64 o, .int .i64 d, .int .i64 vk, .int .i64 vn, .string vs, .slice as0 l.length cs0] 33))
  by_cases hlt : 0 < l.length
  · have I0 : (0 : Int) < (l.length : Int) := by omega
    obtain ⟨m, b, o', s', hm, hab, ⟨y0, y1, y2, y3, y4, y5, y6, y7⟩, hq, hbs⟩ := (hp.on ob).at 0 hlt
    obtain ⟨as1, cs1, hs1⟩ := hq.form
    have q := ih m hm F l[0] s' _ r _ hq (hr.on ob)
    have E2 : Hid (res = !hd l[0] r) := by
      show _ = _
      rw [E.out]
      cases l with
      | nil => simp at hlt
      | cons q l => rfl
    subst hab hs1
    unfold pv at q
    clear hq hm hbs hp hr ih E
    generalize hd l[0] r = h at *
    generalize l[0] = p at *
    simp only [Nat.zero_mul, Nat.add_zero] at y0 y1 y2 y3 y4 y5 y6 y7
    go_enter Tryd.func20, Tryd.ntmps20
    go_wp2_with fail
    refine q.mono ?_
    rintro e w1 ⟨rfl, hb1⟩
    have B1 : Hid (Below w.heap.size w w1) := ob.trans (hb1.mono ob.size)
    clear hb1 q ob x0 x1 x2 x3 x4 x5 x6 x7 y0 y1 y2 y3 y4 y5 y6 y7
    go_wp2_with fail
    go_ret
    exact ⟨retB (by rw [E2.out]), B1.out⟩
  · have e0 : l = [] := List.eq_nil_of_length_eq_zero (by omega)
    subst e0
    have E2 : Hid (res = false) := E
    clear ob hp hr ih E
    go_enter Tryd.func20, Tryd.ntmps20
    go_wp2_with fail
    go_ret
    exact ⟨retB (by rw [E2.out]), one_box⟩
set_option maxHeartbeats 4000000 in
theorem refHolds4 (n : Nat) (ih : ∀ m, n = m + 1 → RefHoldsAt m) (F : Nat → Prop) (r : List Val) (a0 : Option Addr) (n0 cap0 : Nat) (s : Value) (l : List Pd) (c o d vk vn : Int) (vs : ByteArray) (w : World) (res : Bool) (E : Hid (res = ((l.map fun q => hd q r).all id))) (hp : PdL F n w s l) (hr : RowIs w (.slice a0 n0 cap0) r) :
    Calls Tryd.prog 20 #[.agg #[.int .i64 4, .int .i64 c, .int .i64 o, .int .i64 d, .int .i64 vk, .int .i64 vn, .string vs, s], .slice a0 n0 cap0] w fun e w' => e = .returned (.bool res) ∧ Below w.heap.size w w' := by
  have bx := PdBox.new w ⟨4, c, o, d, (vk, vn, vs), []⟩ s
  obtain ⟨W, hW⟩ : ∃ W, W = w.alloc (.cells #[.int .i64 4, .int .i64 c, .int .i64 o, .int .i64 d, .int .i64 vk, .int .i64 vn, .string vs, s] 33) := ⟨_, rfl⟩
  have e0 : w.alloc (.cells (hc ⟨4, c, o, d, (vk, vn, vs), []⟩ s).toArray 33) = W := hW.symm
  have BW : Hid (Below w.heap.size w W) := by show Below _ _ _; rw [hW]; exact one_box
  rw [e0] at bx
  have BX : Hid (PdBox w.heap.size ⟨4, c, o, d, (vk, vn, vs), []⟩ s W) := bx
  have HL : Hid (PdL F n W s l) := hp.on BW.out
  have HRw : Hid (RowIs W (.slice a0 n0 cap0) r) := hr.on BW.out
  have IH : Hid (∀ m, n = m + 1 → RefHoldsAt m) := ih
  obtain ⟨as0, cs0, hs⟩ := hp.form
  have lL := hp.le
  unfold maxLen at lL
  subst hs
  obtain ⟨⟨x0, x1, x2, x3, x4, x5, x6, x7⟩, _, _⟩ := BX.out
  simp only [Nat.zero_add] at x1 x2 x3 x4 x5 x6 x7
  clear e0 hr hp ih bx
  go_enter Tryd.func20, Tryd.ntmps20
  go_wp2_with fail
  rw [← hW]
  clear hW
  clear x0 x1 x2 x3 x4 x5 x6 x7
  go_loopw [5] (fun i wr => ∃ j : Nat, j ≤ l.length ∧ i = .int .i64 j ∧ Hid (Below W.heap.size W wr ∧ ∀ i (h : i < l.length), i < j → hd l[i] r = true)) (fun i _ => l.length - (intOf i).toNat)
  case atStart => exact ⟨0, by omega, rfl, Below.refl _ _, fun _ _ h => by omega⟩
  case round =>
    obtain ⟨j, hj, rfl, hT⟩ := hrel
    have BT : Hid (Below W.heap.size W wr) := hT.out.1
    obtain ⟨⟨x0, x1, x2, x3, x4, x5, x6, x7⟩, _, _⟩ := BX.out.on BT.out
    simp only [Nat.zero_add] at x1 x2 x3 x4 x5 x6 x7
    by_cases hlt : j < l.length
    · have I1 : (j : Int) < (l.length : Int) := by omega
      obtain ⟨m, b, o', s', hm, hab, ⟨y0, y1, y2, y3, y4, y5, y6, y7⟩, hq, hbs⟩ := (HL.out.on BT.out).at j hlt
      obtain ⟨as1, cs1, hs1⟩ := hq.form
      have HQ : Hid (∀ V, Below wr.heap.size wr V → Calls Tryd.prog 20 #[.agg #[.int .i64 l[j].k, .int .i64 l[j].c, .int .i64 l[j].o, .int .i64 l[j].d, .int .i64 l[j].v.1, .int .i64 l[j].v.2.1, .string l[j].v.2.2, s'], .slice a0 n0 cap0] V fun e w' => e = .returned (.bool (hd l[j] r)) ∧ Below V.heap.size V w') := fun V hV => IH.out m hm F l[j] s' _ r V (hq.on hV) ((HRw.out.on BT.out).on hV)
      have HN : Hid (hd l[j] r = true → ∀ i (h : i < l.length), i < j + 1 → hd l[i] r = true) := fun h i hi h1 => by
        by_cases e : i = j
        · subst e; exact h
        · exact hT.out.2 i hi (by omega)
      have HS : Hid (hd l[j] r = false → (l.map fun q => hd q r).all id = false) := fun h => by
        rw [List.all_eq_false]
        exact ⟨hd l[j] r, List.mem_map.2 ⟨_, List.getElem_mem hlt, rfl⟩, by rw [h]; decide⟩
      subst hab hs1
      clear hT hq hm hbs
      generalize hd l[j] r = h at *
      generalize l[j] = q at *
      go_wp2_with fail
      refine (HQ.out _ (Below.refl _ _)).mono ?_
      rintro e w1 ⟨rfl, hb1⟩
      have B1 : Hid (Below W.heap.size W w1) := BT.out.trans (hb1.mono BT.out.size)
      clear hb1 HQ x0 x1 x2 x3 x4 x5 x6 x7 y0 y1 y2 y3 y4 y5 y6 y7
      cases h
      · have hh := HS.out rfl
        have HH : Hid ((l.map fun q => hd q r).all id = false) := hh
        clear HN HS hh
        go_wp2_with fail
        go_ret
        exact ⟨retB (by rw [E.out, HH.out]), BW.out.trans (B1.out.mono BW.out.size)⟩
      · have hh := HN.out rfl
        have HH : Hid (∀ i (h : i < l.length), i < j + 1 → hd l[i] r = true) := hh
        clear HN HS hh
        go_wp2_with fail
        go_roundw
        case rel => exact ⟨j + 1, by omega, by go_num, B1.out, HH.out⟩
        case measure => simp [intOf]; omega
    · obtain rfl : j = l.length := by omega
      have I1 : ¬ (l.length : Int) < (l.length : Int) := by omega
      have HH : Hid ((l.map fun q => hd q r).all id = true) := by
        show _ = _
        rw [List.all_eq_true]
        intro x hx
        obtain ⟨q, hq, rfl⟩ := List.mem_map.1 hx
        obtain ⟨i, hi, rfl⟩ := List.getElem_of_mem hq
        rw [hT.out.2 i hi hi]; rfl
      clear hT
      go_wp2_with fail
      go_ret
      exact ⟨retB (by rw [E.out, HH.out]), BW.out.trans (BT.out.mono BW.out.size)⟩
set_option maxHeartbeats 4000000 in
theorem refHolds5 (n : Nat) (ih : ∀ m, n = m + 1 → RefHoldsAt m) (F : Nat → Prop) (r : List Val) (a0 : Option Addr) (n0 cap0 : Nat) (s : Value) (l : List Pd) (c o d vk vn : Int) (vs : ByteArray) (w : World) (res : Bool) (E : Hid (res = ((l.map fun q => hd q r).any id))) (hp : PdL F n w s l) (hr : RowIs w (.slice a0 n0 cap0) r) :
    Calls Tryd.prog 20 #[.agg #[.int .i64 5, .int .i64 c, .int .i64 o, .int .i64 d, .int .i64 vk, .int .i64 vn, .string vs, s], .slice a0 n0 cap0] w fun e w' => e = .returned (.bool res) ∧ Below w.heap.size w w' := by
  have bx := PdBox.new w ⟨5, c, o, d, (vk, vn, vs), []⟩ s
  obtain ⟨W, hW⟩ : ∃ W, W = w.alloc (.cells #[.int .i64 5, .int .i64 c, .int .i64 o, .int .i64 d, .int .i64 vk, .int .i64 vn, .string vs, s] 33) := ⟨_, rfl⟩
  have e0 : w.alloc (.cells (hc ⟨5, c, o, d, (vk, vn, vs), []⟩ s).toArray 33) = W := hW.symm
  have BW : Hid (Below w.heap.size w W) := by show Below _ _ _; rw [hW]; exact one_box
  rw [e0] at bx
  have BX : Hid (PdBox w.heap.size ⟨5, c, o, d, (vk, vn, vs), []⟩ s W) := bx
  have HL : Hid (PdL F n W s l) := hp.on BW.out
  have HRw : Hid (RowIs W (.slice a0 n0 cap0) r) := hr.on BW.out
  have IH : Hid (∀ m, n = m + 1 → RefHoldsAt m) := ih
  obtain ⟨as0, cs0, hs⟩ := hp.form
  have lL := hp.le
  unfold maxLen at lL
  subst hs
  obtain ⟨⟨x0, x1, x2, x3, x4, x5, x6, x7⟩, _, _⟩ := BX.out
  simp only [Nat.zero_add] at x1 x2 x3 x4 x5 x6 x7
  clear e0 hr hp ih bx
  go_enter Tryd.func20, Tryd.ntmps20
  go_wp2_with fail
  rw [← hW]
  clear hW
  clear x0 x1 x2 x3 x4 x5 x6 x7
  go_loopw [6] (fun i wr => ∃ j : Nat, j ≤ l.length ∧ i = .int .i64 j ∧ Hid (Below W.heap.size W wr ∧ ∀ i (h : i < l.length), i < j → hd l[i] r = false)) (fun i _ => l.length - (intOf i).toNat)
  case atStart => exact ⟨0, by omega, rfl, Below.refl _ _, fun _ _ h => by omega⟩
  case round =>
    obtain ⟨j, hj, rfl, hT⟩ := hrel
    have BT : Hid (Below W.heap.size W wr) := hT.out.1
    obtain ⟨⟨x0, x1, x2, x3, x4, x5, x6, x7⟩, _, _⟩ := BX.out.on BT.out
    simp only [Nat.zero_add] at x1 x2 x3 x4 x5 x6 x7
    by_cases hlt : j < l.length
    · have I1 : (j : Int) < (l.length : Int) := by omega
      obtain ⟨m, b, o', s', hm, hab, ⟨y0, y1, y2, y3, y4, y5, y6, y7⟩, hq, hbs⟩ := (HL.out.on BT.out).at j hlt
      obtain ⟨as1, cs1, hs1⟩ := hq.form
      have HQ : Hid (∀ V, Below wr.heap.size wr V → Calls Tryd.prog 20 #[.agg #[.int .i64 l[j].k, .int .i64 l[j].c, .int .i64 l[j].o, .int .i64 l[j].d, .int .i64 l[j].v.1, .int .i64 l[j].v.2.1, .string l[j].v.2.2, s'], .slice a0 n0 cap0] V fun e w' => e = .returned (.bool (hd l[j] r)) ∧ Below V.heap.size V w') := fun V hV => IH.out m hm F l[j] s' _ r V (hq.on hV) ((HRw.out.on BT.out).on hV)
      have HN : Hid (hd l[j] r = false → ∀ i (h : i < l.length), i < j + 1 → hd l[i] r = false) := fun h i hi h1 => by
        by_cases e : i = j
        · subst e; exact h
        · exact hT.out.2 i hi (by omega)
      have HS : Hid (hd l[j] r = true → (l.map fun q => hd q r).any id = true) := fun h => by
        rw [List.any_eq_true]
        exact ⟨hd l[j] r, List.mem_map.2 ⟨_, List.getElem_mem hlt, rfl⟩, by rw [h]; rfl⟩
      subst hab hs1
      clear hT hq hm hbs
      generalize hd l[j] r = h at *
      generalize l[j] = q at *
      go_wp2_with fail
      refine (HQ.out _ (Below.refl _ _)).mono ?_
      rintro e w1 ⟨rfl, hb1⟩
      have B1 : Hid (Below W.heap.size W w1) := BT.out.trans (hb1.mono BT.out.size)
      clear hb1 HQ x0 x1 x2 x3 x4 x5 x6 x7 y0 y1 y2 y3 y4 y5 y6 y7
      cases h
      · have hh := HN.out rfl
        have HH : Hid (∀ i (h : i < l.length), i < j + 1 → hd l[i] r = false) := hh
        clear HN HS hh
        go_wp2_with fail
        go_roundw
        case rel => exact ⟨j + 1, by omega, by go_num, B1.out, HH.out⟩
        case measure => simp [intOf]; omega
      · have hh := HS.out rfl
        have HH : Hid ((l.map fun q => hd q r).any id = true) := hh
        clear HN HS hh
        go_wp2_with fail
        go_ret
        exact ⟨retB (by rw [E.out, HH.out]), BW.out.trans (B1.out.mono BW.out.size)⟩
    · obtain rfl : j = l.length := by omega
      have I1 : ¬ (l.length : Int) < (l.length : Int) := by omega
      have HH : Hid ((l.map fun q => hd q r).any id = false) := by
        show _ = _
        rw [List.any_eq_false]
        intro x hx
        obtain ⟨q, hq, rfl⟩ := List.mem_map.1 hx
        obtain ⟨i, hi, rfl⟩ := List.getElem_of_mem hq
        rw [hT.out.2 i hi hi]; decide
      clear hT
      go_wp2_with fail
      go_ret
      exact ⟨retB (by rw [E.out, HH.out]), BW.out.trans (BT.out.mono BW.out.size)⟩
set_option maxHeartbeats 4000000 in
theorem refHolds0 (n : Nat) (ih : ∀ m, n = m + 1 → RefHoldsAt m) (F : Nat → Prop) (r : List Val) (a0 : Option Addr) (n0 cap0 : Nat) (s : Value) (l : List Pd) (k c o d vk vn : Int) (vs : ByteArray) (w : World) (hk : k ≠ 1 ∧ k ≠ 2 ∧ k ≠ 3 ∧ k ≠ 4 ∧ k ≠ 5 ∧ k ≠ 6) (res : Bool) (E : Hid (res = (false))) (hp : PdL F n w s l) (hr : RowIs w (.slice a0 n0 cap0) r) :
    Calls Tryd.prog 20 #[.agg #[.int .i64 k, .int .i64 c, .int .i64 o, .int .i64 d, .int .i64 vk, .int .i64 vn, .string vs, s], .slice a0 n0 cap0] w fun e w' => e = .returned (.bool res) ∧ Below w.heap.size w w' := by
  have b1 : (k == 1) = false := beq_false_of_ne hk.1
  have b2 : (k == 2) = false := beq_false_of_ne hk.2.1
  have b3 : (k == 3) = false := beq_false_of_ne hk.2.2.1
  have b4 : (k == 4) = false := beq_false_of_ne hk.2.2.2.1
  have b5 : (k == 5) = false := beq_false_of_ne hk.2.2.2.2.1
  have b6 : (k == 6) = false := beq_false_of_ne hk.2.2.2.2.2
  clear hk
  have bx := PdBox.new w ⟨k, c, o, d, (vk, vn, vs), []⟩ s
  obtain ⟨W, hW⟩ : ∃ W, W = w.alloc (.cells #[.int .i64 k, .int .i64 c, .int .i64 o, .int .i64 d, .int .i64 vk, .int .i64 vn, .string vs, s] 33) := ⟨_, rfl⟩
  have e0 : w.alloc (.cells (hc ⟨k, c, o, d, (vk, vn, vs), []⟩ s).toArray 33) = W := hW.symm
  have BW : Hid (Below w.heap.size w W) := by show Below _ _ _; rw [hW]; exact one_box
  rw [e0] at bx
  have BX : Hid (PdBox w.heap.size ⟨k, c, o, d, (vk, vn, vs), []⟩ s W) := bx
  have HL : Hid (PdL F n W s l) := hp.on BW.out
  have HRw : Hid (RowIs W (.slice a0 n0 cap0) r) := hr.on BW.out
  have IH : Hid (∀ m, n = m + 1 → RefHoldsAt m) := ih
  obtain ⟨as0, cs0, hs⟩ := hp.form
  have lL := hp.le
  unfold maxLen at lL
  subst hs
  obtain ⟨⟨x0, x1, x2, x3, x4, x5, x6, x7⟩, _, _⟩ := BX.out
  simp only [Nat.zero_add] at x1 x2 x3 x4 x5 x6 x7
  clear e0 hr hp ih bx
  go_enter Tryd.func20, Tryd.ntmps20
  go_wp2_with fail
  rw [← hW]
  clear hW
  go_loopw [6] (fun i wr => i = .int .i64 0 ∧ wr = W) (fun _ _ => 0)
  case atStart => exact ⟨rfl, rfl⟩
  case round =>
    obtain ⟨rfl, rfl⟩ := hrel
    by_cases hlt : 0 < l.length
    · have I1 : (0 : Int) < (l.length : Int) := by omega
      go_wp2_with fail
      go_ret
      exact ⟨retB (by rw [E.out]), BW.out⟩
    · have e0 : l = [] := List.eq_nil_of_length_eq_zero (by omega)
      subst e0
      go_wp2_with fail
      go_ret
      exact ⟨retB (by rw [E.out]), BW.out⟩
theorem refHoldsStep (n : Nat) (ih : ∀ m, n = m + 1 → RefHoldsAt m) : RefHoldsAt n := by
  intro F p s rv r w hp hr
  obtain ⟨k, c, o, d, ⟨vk, vn, vs⟩, l⟩ := p
  obtain ⟨a0, cap0, rfl⟩ := hr.form
  rw [hd_eq]
  unfold pv
  simp only
  simp only at hp
  by_cases k1 : k = 1
  · subst k1; rw [if_pos rfl]; exact refHolds1 r a0 _ cap0 s c o d vk vn vs w _ hr rfl
  by_cases k2 : k = 2
  · subst k2; rw [if_neg (by omega), if_pos rfl]; exact refHolds2 r a0 _ cap0 s c o d vk vn vs w _ hr rfl
  by_cases k3 : k = 3
  · subst k3; rw [if_neg (by omega), if_neg (by omega), if_pos rfl]; exact refHolds3 r a0 _ cap0 s c o d vk vn vs w _ hr rfl
  by_cases k4 : k = 4
  · subst k4; rw [if_neg (by omega), if_neg (by omega), if_neg (by omega), if_pos rfl]; exact refHolds4 n ih F r a0 _ cap0 s l c o d vk vn vs w _ rfl hp hr
  by_cases k5 : k = 5
  · subst k5; rw [if_neg (by omega), if_neg (by omega), if_neg (by omega), if_neg (by omega), if_pos rfl]; exact refHolds5 n ih F r a0 _ cap0 s l c o d vk vn vs w _ rfl hp hr
  by_cases k6 : k = 6
  · subst k6; rw [if_neg (by omega), if_neg (by omega), if_neg (by omega), if_neg (by omega), if_neg (by omega), if_pos rfl]; exact refHolds6 n ih F r a0 _ cap0 s l c o d vk vn vs w _ rfl hp hr
  · rw [if_neg k1, if_neg k2, if_neg k3, if_neg k4, if_neg k5, if_neg k6]; exact refHolds0 n ih F r a0 _ cap0 s l k c o d vk vn vs w ⟨k1, k2, k3, k4, k5, k6⟩ _ rfl hp hr
/-- What the document's own Holds answers. -/
theorem refHolds : ∀ n, RefHoldsAt n := by
  intro n
  induction n with
  | zero => exact refHoldsStep 0 (fun m h => by omega)
  | succ n ih => exact refHoldsStep (n + 1) (fun m h => (show n = m by omega) ▸ ih)
end Go.Proofs.YtaccinophamgmaaDoor
