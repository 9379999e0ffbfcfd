/- What the methods of join's lines answer: through the interface of container/heap. -/
import Derived.Test.YtlafokjkpbhckaaGreatDoorPackMem
import Derived.Test.YtlafokjkpbhckaaGreatDoorJcRow
import Derived.Test.YtlafokjkpbhckaaGreatDoorJcNext
import Derived.Test.YtlafokjkpbhckaaGreatDoorRowStore
import Derived.Deep.MidRow
import Derived.Deep.RegionLaw
import Derived.Handy
namespace Go.Proofs.YtlafokjkpbhckaaGreatDoor
open Go.RowKit Go.Sort
set_option maxRecDepth 100000
set_option linter.unusedVariables false
theorem jm_len0 (k : Nat) (w : World) (hb o : Nat) : (method (k + 1) 94 (.pointer (some ⟨hb, o, none⟩)) "Len").run Tryz.prog w = (do let x ← loadVar 51 ⟨hb, o, none⟩; pure (119, x) : Sem (FuncId × Value)).run Tryz.prog w := by kernel_rfl
theorem jm_len {w : World} {hb o : Nat} {a : Option Addr} {n c : Nat} (h : w.cell? ⟨hb, o, none⟩ = some (.slice a n c)) : ∀ f, 0 < f → (method f 94 (.pointer (some ⟨hb, o, none⟩)) "Len").run Tryz.prog w = .ok (119, .slice a n c) w := by
  intro f hf
  obtain ⟨k, rfl⟩ : ∃ k, f = k + 1 := ⟨f - 1, by omega⟩
  rw [jm_len0]; simp [go_sem, h]
theorem jm_less0 (k : Nat) (w : World) (hb o : Nat) : (method (k + 1) 94 (.pointer (some ⟨hb, o, none⟩)) "Less").run Tryz.prog w = (do let x ← loadVar 51 ⟨hb, o, none⟩; pure (120, x) : Sem (FuncId × Value)).run Tryz.prog w := by kernel_rfl
theorem jm_less {w : World} {hb o : Nat} {a : Option Addr} {n c : Nat} (h : w.cell? ⟨hb, o, none⟩ = some (.slice a n c)) : ∀ f, 0 < f → (method f 94 (.pointer (some ⟨hb, o, none⟩)) "Less").run Tryz.prog w = .ok (120, .slice a n c) w := by
  intro f hf
  obtain ⟨k, rfl⟩ : ∃ k, f = k + 1 := ⟨f - 1, by omega⟩
  rw [jm_less0]; simp [go_sem, h]
theorem jm_swap0 (k : Nat) (w : World) (hb o : Nat) : (method (k + 1) 94 (.pointer (some ⟨hb, o, none⟩)) "Swap").run Tryz.prog w = (do let x ← loadVar 51 ⟨hb, o, none⟩; pure (121, x) : Sem (FuncId × Value)).run Tryz.prog w := by kernel_rfl
theorem jm_swap {w : World} {hb o : Nat} {a : Option Addr} {n c : Nat} (h : w.cell? ⟨hb, o, none⟩ = some (.slice a n c)) : ∀ f, 0 < f → (method f 94 (.pointer (some ⟨hb, o, none⟩)) "Swap").run Tryz.prog w = .ok (121, .slice a n c) w := by
  intro f hf
  obtain ⟨k, rfl⟩ : ∃ k, f = k + 1 := ⟨f - 1, by omega⟩
  rw [jm_swap0]; simp [go_sem, h]
theorem jhl_ord : ordOk (regOf Tryz.f120.body 1) ((0, true) :: (1, true) :: (2, true) :: (3, true) :: (5, true) :: (6, true) :: (7, true) :: (8, true) :: (4, false) :: (9, false) :: (10, false) :: (11, true) :: (12, true) :: []) = true := by kernel_rfl

theorem jhLen (a : Option Addr) (n c : Nat) (w : World) : Calls Tryz.prog 119 #[.slice a n c] w fun e w' => e = .returned (.int .i64 n) ∧ w' = w := by
  go_enter Tryz.func119, Tryz.ntmps119
  go_wp2_with fail
  go_ret
  exact ⟨rfl, rfl⟩
set_option maxHeartbeats 4000000 in
theorem jhLess (R : World) (hb ab cap : Nat) (X : List QEnt) (i j : Nat) (w : World) (h : LIs R hb ab cap X w) (hi : i < X.length) (hj : j < X.length) (r : Bool) (hr : r = decide (cR (kf X i) (kf X j) < 0)) :
    Calls Tryz.prog 120 #[.slice (some ⟨ab, 0, none⟩) X.length cap, .int .i64 i, .int .i64 j] w fun e w' => e = .returned (.bool r) ∧ Below w.heap.size w w' := by
  obtain ⟨a1, c1, b, o, c, a2, c2, e, f, F, x0, x1, x2, x3, r1, r2, x4, x5, x6, x7, y1, y2, y3, z1, z2, ek⟩ := h.head hi
  obtain ⟨a1', c1', b', o', c', a2', c2', e', f', F', x0', x1', x2', x3', r1', r2', x4', x5', x6', x7', y1', y2', y3', z1', z2', ek'⟩ := h.head hj
  have hL := h.2.2.2.2.2
  have hS := h.2.2.1
  rw [ek, ek'] at hr
  have HN : Hid (∀ V, Below w.heap.size w V → Calls Tryz.prog 41 #[.agg #[.slice a1 e.1.length c1, .int .i64 e.2, .slice (some ⟨b, o, none⟩) (f :: F).length c]] V fun en w' => en = .returned (.agg #[.slice a1 e.1.length c1, .slice a2 f.1.length c2]) ∧ Below V.heap.size V w') := fun V hV => jcNext a1 a2 _ c1 _ c2 b o _ c e.2 V (by simp) (cell_on z1 hV)
  have HN' : Hid (∀ V, Below w.heap.size w V → Calls Tryz.prog 41 #[.agg #[.slice a1' e'.1.length c1', .int .i64 e'.2, .slice (some ⟨b', o', none⟩) (f' :: F').length c']] V fun en w' => en = .returned (.agg #[.slice a1' e'.1.length c1', .slice a2' f'.1.length c2']) ∧ Below V.heap.size V w') := fun V hV => jcNext a1' a2' _ c1' _ c2' b' o' _ c' e'.2 V (by simp) (cell_on z1' hV)
  have HC : Hid (∀ V, Below w.heap.size w V → Calls Tryz.prog 42 #[.agg #[.slice a1 e.1.length c1, .slice a2 f.1.length c2], .agg #[.slice a1' e'.1.length c1', .slice a2' f'.1.length c2']] V fun en w' => en = .returned (.int .i64 (cR (e.1 ++ f.1) (e'.1 ++ f'.1))) ∧ Below V.heap.size V w') := fun V hV => jcCompare e.1 f.1 e'.1 f'.1 _ _ _ _ V ((r1.sees hS).on hV) ((r2.sees hS).on hV) ((r1'.sees hS).on hV) ((r2'.sees hS).on hV)
  have g1 := Ex.cell y1
  have g2 := Ex.cell y2
  have g3 := Ex.cell y3
  have g1' := Ex.cell y1'
  have g2' := Ex.cell y2'
  have g3' := Ex.cell y3'
  have ne := Ex.ne w
  have B0 : Hid (Below w.heap.size w w.drew) := (Below.refl _ _).drew
  have I1 : (i : Int) < (X.length : Int) := by omega
  have I2 : (j : Int) < (X.length : Int) := by omega
  clear h hS x0 x1 x2 x3 r1 r2 x4 x5 x6 x7 y1 y2 y3 z1 z2 ek x0' x1' x2' x3' r1' r2' x4' x5' x6' x7' y1' y2' y3' z1' z2' ek'
  generalize cR (e.1 ++ f.1) (e'.1 ++ f'.1) = s at *
  generalize e.1.length = n1 at *
  generalize f.1.length = n2 at *
  generalize e'.1.length = n1' at *
  generalize f'.1.length = n2' at *
  generalize e.2 = k1 at *
  generalize e'.2 = k1' at *
  generalize (f :: F).length = m1 at *
  generalize (f' :: F').length = m1' at *
  generalize X.length = N at *
  subst hr
  go_enter Tryz.func120, Tryz.ntmps120
  go_wp2_with fail
  refine wp_region_ord_at (Ex w) (regOf Tryz.f120.body 1) ((0, true) :: (1, true) :: (2, true) :: (3, true) :: (5, true) :: (6, true) :: (7, true) :: (8, true) :: (4, false) :: (9, false) :: (10, false) :: (11, true) :: (12, true) :: []) (by kernel_rfl) (by kernel_rfl) jhl_ord B0.out ?_
  generalize w.drew = v0 at *
  repeat (refine ord_quiet rfl ?_; go_big_quiet_step (fail); refine wpQuiet_nil ?_)
  refine ord_call rfl (by rfl) 41 rfl (enters_of Tryz.func41 (by kernel_rfl) rfl) [.agg #[.slice a1 n1 c1, .int .i64 k1, .slice (some ⟨b, o, none⟩) m1 c]] (by rfl) _ (HN.out v0 B0.out) ?_
  rintro e v1 ⟨rfl, hb1⟩
  have B1 : Hid (Below w.heap.size w v1) := B0.out.trans (hb1.mono B0.out.size)
  clear hb1
  refine ⟨_, rfl, Ex.of B1.out, ?_⟩
  simp only [Act.put, List.setIfInBounds_toArray, List.set_cons_zero, List.set_cons_succ]
  repeat (refine ord_quiet rfl ?_; go_big_quiet_step (fail); refine wpQuiet_nil ?_)
  refine ord_call rfl (by rfl) 41 rfl (enters_of Tryz.func41 (by kernel_rfl) rfl) [.agg #[.slice a1' n1' c1', .int .i64 k1', .slice (some ⟨b', o', none⟩) m1' c']] (by rfl) _ (HN'.out v1 B1.out) ?_
  rintro e v2 ⟨rfl, hb2⟩
  have B2 : Hid (Below w.heap.size w v2) := B1.out.trans (hb2.mono B1.out.size)
  clear hb2
  refine ⟨_, rfl, Ex.of B2.out, ?_⟩
  simp only [Act.put, List.setIfInBounds_toArray, List.set_cons_zero, List.set_cons_succ]
  repeat (refine ord_quiet rfl ?_; go_big_quiet_step (fail); refine wpQuiet_nil ?_)
  refine ord_call rfl (by rfl) 42 rfl (enters_of Tryz.func42 (by kernel_rfl) rfl) [.agg #[.slice a1 n1 c1, .slice a2 n2 c2], .agg #[.slice a1' n1' c1', .slice a2' n2' c2']] (by rfl) _ (HC.out v2 B2.out) ?_
  rintro e v3 ⟨rfl, hb3⟩
  have B3 : Hid (Below w.heap.size w v3) := B2.out.trans (hb3.mono B2.out.size)
  clear hb3
  refine ⟨_, rfl, Ex.of B3.out, ?_⟩
  simp only [Act.put, List.setIfInBounds_toArray, List.set_cons_zero, List.set_cons_succ]
  repeat (refine ord_quiet rfl ?_; go_big_quiet_step (fail); refine wpQuiet_nil ?_)
  refine ord_end ?_
  clear g1 g2 g3 g1' g2' g3' ne HN HN' HC
  go_wp2_with fail
  go_ret
  exact ⟨rfl, B3.out⟩
theorem step_store_mid {P : Program} {w : World} {ops : Array Oper} {op : Oper} {a : Act} {K : Act → World → Prop} {Q : Exit → Act → World → Prop} {E : Prop} (hw : Region.wanted op (yielded ops a.tmps) = true) (ty : TypeId) (x y : Operand) (ho : op.op = .store ty x y)
    (b o : Nat) (cells : Array Value) (hx : a.eval x = .pointer (some ⟨b, o, none⟩)) (hy : a.eval y = .agg cells) (ht : w.there b o cells.size) (hi : (P.info? ty).map (·.size) = some cells.size) (h1 : cells.all (·.oneCell') = true)
    (h : K (a.put op.dst undef) (w.setCells b o cells.toList)) : if Region.wanted op (yielded ops a.tmps) = true then Oper.wp P op a w K Q else E := by
  rw [if_pos hw]; exact wp_store_mid ty x y ho b o cells hx hy ht hi h1 h
theorem set_some {w : World} {p : Addr} {v : Value} (h : w.cell? p = some v) (q : Addr) (u : Value) : ∃ x, (w.setCell q u).cell? p = some x := by
  by_cases e : p = q
  · subst e; exact ⟨u, World.cell?_setCell_same w _ _ h⟩
  · exact ⟨v, by rw [World.cell?_setCell_other _ _ _ _ (fun h => e h.symm)]; exact h⟩
theorem But.putL {w : World} {ab : Nat} (i : Nat) (a b c : Value) : But ab w (putL w ab i a b c) := ((But.set _ _).trans (But.set _ _)).trans (But.set _ _)
theorem LAt.there {hb ab cap : Nat} {vs : List Value} {w : World} (h : LAt hb ab cap vs w) (i : Nat) (hi : i < vs.length) : w.there ab (i * 3) 3 := by
  intro j hj
  refine ⟨?_, h.2.frozenAt _⟩
  rw [h.2.cellAt (i * 3 + j) (by omega), List.getElem?_eq_getElem (by rw [ls_len]; omega)]
  rfl
set_option maxHeartbeats 4000000 in
theorem jhSwap (R : World) (hb ab cap : Nat) (X : List QEnt) (i j : Nat) (w : World) (h : LIs R hb ab cap X w) (hi : i < X.length) (hj : j < X.length) :
    Calls Tryz.prog 121 #[.slice (some ⟨ab, 0, none⟩) X.length cap, .int .i64 i, .int .i64 j] w fun e w' => e = .returned (.tuple #[]) ∧ LIs R hb ab cap (sw X i j) w' ∧ But ab w w' := by
  obtain ⟨a1, c1, b, o, c, a2, c2, e, f, F, x0, x1, x2, x3, r1, r2, x4, x5, x6, x7, y1, y2, y3, z1, z2, ek⟩ := h.head hi
  obtain ⟨a1', c1', b', o', c', a2', c2', e', f', F', x0', x1', x2', x3', r1', r2', x4', x5', x6', x7', y1', y2', y3', z1', z2', ek'⟩ := h.head hj
  have e1 : lcs (X.getD i qD).1 = [.slice a1 e.1.length c1, .int .i64 e.2, .slice (some ⟨b, o, none⟩) (f :: F).length c] := by rw [x0]; rfl
  have e1' : lcs (X.getD j qD).1 = [.slice a1' e'.1.length c1', .int .i64 e'.2, .slice (some ⟨b', o', none⟩) (f' :: F').length c'] := by rw [x0']; rfl
  have f1 := h.1.fz (i * 3)
  have f2 := h.1.fz (i * 3 + 1)
  have f3 := h.1.fz (i * 3 + 2)
  have f1' := h.1.fz (j * 3)
  have f2' := h.1.fz (j * 3 + 1)
  have f3' := h.1.fz (j * 3 + 2)
  obtain ⟨u1, t1⟩ := set_some y1' ⟨ab, i * 3, none⟩ (.slice a1' e'.1.length c1')
  obtain ⟨_, t2⟩ := set_some y2' ⟨ab, i * 3, none⟩ (.slice a1' e'.1.length c1')
  obtain ⟨u2, t2⟩ := set_some t2 ⟨ab, i * 3 + 1, none⟩ (.int .i64 e'.2)
  obtain ⟨_, t3⟩ := set_some y3' ⟨ab, i * 3, none⟩ (.slice a1' e'.1.length c1')
  obtain ⟨_, t3⟩ := set_some t3 ⟨ab, i * 3 + 1, none⟩ (.int .i64 e'.2)
  obtain ⟨u3, t3⟩ := set_some t3 ⟨ab, i * 3 + 2, none⟩ (.slice (some ⟨b', o', none⟩) (f' :: F').length c')
  have HF : Hid (LIs R hb ab cap (sw X i j) (putL (putL w ab i (.slice a1' e'.1.length c1') (.int .i64 e'.2) (.slice (some ⟨b', o', none⟩) (f' :: F').length c')) ab j (.slice a1 e.1.length c1) (.int .i64 e.2) (.slice (some ⟨b, o, none⟩) (f :: F).length c)).drew ∧ But ab w (putL (putL w ab i (.slice a1' e'.1.length c1') (.int .i64 e'.2) (.slice (some ⟨b', o', none⟩) (f' :: F').length c')) ab j (.slice a1 e.1.length c1) (.int .i64 e.2) (.slice (some ⟨b, o, none⟩) (f :: F).length c)).drew) :=
    ⟨(h.sw hi hj e1 e1').on ((Below.refl _ _).drew), ((But.putL _ _ _ _).trans (But.putL _ _ _ _)).trans (But.drewN 1)⟩
  unfold putL at HF
  have I1 : (i : Int) < (X.length : Int) := by omega
  have I2 : (j : Int) < (X.length : Int) := by omega
  clear h e1 e1' x0 x1 x2 x3 r1 r2 x4 x5 x6 x7 z1 z2 ek x0' x1' x2' x3' r1' r2' x4' x5' x6' x7' z1' z2' ek'
  generalize e.1.length = n1 at *
  generalize e'.1.length = n1' at *
  generalize e.2 = k1 at *
  generalize e'.2 = k1' at *
  generalize (f :: F).length = m1 at *
  generalize (f' :: F').length = m1' at *
  generalize X.length = N at *
  go_enter Tryz.func121, Tryz.ntmps121
  go_wp2_with fail
  go_region
  all_goals (go_end0; exact ⟨rfl, HF.out⟩)
end Go.Proofs.YtlafokjkpbhckaaGreatDoor
