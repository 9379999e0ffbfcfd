/- What merge's ahead answers. (Out of SlSearch, the names turned.) -/
import Derived.Test.YtanfjnhpdchbbabDoorSearch
namespace Go.Proofs.YtanfjnhpdchbbabDoor
open Go.RowKit Go.Sort
set_option maxRecDepth 100000
set_option maxHeartbeats 1000000 in
theorem mgAheadFn (l : List Ent) (r : List Val) (va vb : Value) (b c : Nat) (i : Nat) (hi : i < l.length) (w : World) (ha : EntsIs w va l) (hb : RowIs w vb r) (hx : Boxed w b c va vb) :
    Calls Tryd.prog 46 #[.int .i64 i, .pointer (some ⟨b, 0, none⟩), .pointer (some ⟨c, 0, none⟩)] w fun e w' => e = .returned (.bool (decide (0 ≤ cR l[i].1 r))) ∧ Below w.heap.size w w' := by
  obtain ⟨a0, cap, rfl⟩ := ha.form
  obtain ⟨b0, cap', rfl⟩ := hb.form
  obtain ⟨b1, o1, a1, c1, rfl, x1, x2, x3⟩ := ha.at i hi
  obtain ⟨y1, y2⟩ := hx
  have I1 : (i : Int) < (l.length : Int) := by omega
  have q : Hid (∀ d os, Calls Tryd.prog 25 #[.slice a1 l[i].1.length c1, .slice b0 r.length cap'] (grow (redrawn w d) os) fun e w'' => e = .returned (.int .i64 (cR l[i].1 r)) ∧ ∃ p : Regrown, w'' = grow (redrawn w p.d) p.os) :=
    fun d os => Calls.regrown_of (rowCompare l[i].1 r _ _ _ (x3.on (below_regrown w d os)) (hb.on (below_regrown w d os)))
  have g1 := fun d os => cell_regrown x1 d os
  have g2 := fun d os => cell_regrown y1 d os
  have g3 := fun d os => cell_regrown y2 d os
  clear ha hb x3 x2
  generalize cR l[i].1 r = s at *
  generalize l[i].1.length = n1 at *
  generalize l[i].2 = i1 at *
  go_enter Tryd.func46, Tryd.ntmps46
  go_wp2_with fail
  refine wp_region_quiet_below (by kernel_rfl) (by kernel_rfl) ?_
  iterate 9 (quiet_step (exact q.out _ _))
  refine wpQuiet_nil ?_
  intro w6 hw6
  obtain ⟨p6, hw6⟩ := hw6
  have hb6 : Hid (Below w.heap.size w w6) := by rw [hw6]; exact below_regrown w _ _
  clear hw6 g1 g2 g3 q x1 y1 y2
  go_wp2_with fail
  go_ret
  exact ⟨rfl, hb6.out⟩
set_option maxHeartbeats 1000000 in
theorem mgAhead (l : List Ent) (r : List Val) (va vb : Value) (w : World) (hn : l.length ≤ 65536) (hl : SortedZ l) (ha : EntsIs w va l) (hb : RowIs w vb r) :
    Calls Tryd.prog 28 #[va, vb] w fun e w' => ∃ k : Nat, e = .returned (.int .i64 k) ∧ k ≤ l.length ∧ l.filter (fun e => decide (0 ≤ cR e.1 r)) = l.drop k ∧ l.filter (fun e => !decide (0 ≤ cR e.1 r)) = l.take k ∧ Below w.heap.size w w' := by
  have hq : ∀ W, Below w.heap.size w W → Boxed W w.heap.size (w.heap.size + 1) va vb → Calls Tryd.prog 45 #[.int .i64 l.length, .func (.func 46) #[] #[.pointer (some ⟨w.heap.size, 0, none⟩), .pointer (some ⟨w.heap.size + 1, 0, none⟩)]] W fun e w' => Ends (fun i => decide (0 ≤ cR (l.getD i ([], 0)).1 r)) l.length W e w' := by
    intro W hW hX
    refine search _ _ _ l.length _ W hn (enters_of Tryd.func46 (by kernel_rfl) rfl) (fun V hV i hi => ?_) (fun a b hab hb' h => ?_)
    · have e : l.getD i ([], 0) = l[i] := by rw [List.getD_eq_getElem?_getD, List.getElem?_eq_getElem hi]; rfl
      rw [e]
      exact mgAheadFn l r va vb _ _ i hi V ((ha.on hW).on hV) ((hb.on hW).on hV) (hX.on hV)
    · have e1 : l.getD a ([], 0) = l[a]'(by omega) := by rw [List.getD_eq_getElem?_getD, List.getElem?_eq_getElem (by omega)]; rfl
      have e2 : l.getD b ([], 0) = l[b] := by rw [List.getD_eq_getElem?_getD, List.getElem?_eq_getElem hb']; rfl
      rw [e1] at h
      rw [e2]
      exact decide_eq_true (z_from hl hab hb' (of_decide_eq_true h))
  have q : Hid (Calls Tryd.prog 45 #[.int .i64 l.length, .func (.func 46) #[] #[.pointer (some ⟨w.heap.size, 0, none⟩), .pointer (some ⟨w.heap.size + 1, 0, none⟩)]] ((w.alloc (.cells #[va] 29)).alloc (.cells #[vb] 37)) fun e w' => Ends (fun i => decide (0 ≤ cR (l.getD i ([], 0)).1 r)) l.length ((w.alloc (.cells #[va] 29)).alloc (.cells #[vb] 37)) e w') := hq _ below_two (boxed_new w va vb)
  clear hq
  obtain ⟨a0, cap, rfl⟩ := ha.form
  obtain ⟨b0, cap', rfl⟩ := hb.form
  clear ha hb
  go_enter Tryd.func28, Tryd.ntmps28
  go_wp2_with fail
  refine q.out.mono ?_
  rintro e w1 ⟨k, rfl, h1, h2, h3, h4⟩
  have hB : Hid (Below w.heap.size w w1) := below_two.trans (h4.mono (by simp; omega))
  have hS := split_at (l := l) (P := fun e => decide (0 ≤ cR e.1 r)) (k := k) (fun t h ht => by have := h2 t ht; dsimp only at this; rw [List.getD_eq_getElem?_getD, List.getElem?_eq_getElem h] at this; exact this) (fun t h ht => by have := h3 t h ht; dsimp only at this; rw [List.getD_eq_getElem?_getD, List.getElem?_eq_getElem h] at this; exact this)
  have HS : Hid _ := hS
  clear q h2 h3 h4 hS
  go_wp2_with fail
  go_ret
  exact ⟨k, rfl, h1, HS.out.1, HS.out.2, hB.out⟩
end Go.Proofs.YtanfjnhpdchbbabDoor
