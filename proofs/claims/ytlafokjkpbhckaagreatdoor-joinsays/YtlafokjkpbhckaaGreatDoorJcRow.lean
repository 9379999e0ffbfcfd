/- What joined's compare and compareWith answer: the order of two rows put together. -/
import Derived.Test.YtlafokjkpbhckaaGreatDoorPackJn
import Derived.Test.YtlafokjkpbhckaaGreatDoorPackGrown
import Derived.Test.YtlafokjkpbhckaaGreatDoorPackSets
import Derived.Test.YtlafokjkpbhckaaGreatDoorOrd
namespace Go.Proofs.YtlafokjkpbhckaaGreatDoor
open Go.RowKit Go.Sort
set_option maxRecDepth 100000
set_option linter.unusedVariables false
theorem jcw_ord2 : ordOk (regOf Tryz.f66.body 2) ((0, true) :: (1, true) :: (2, true) :: (3, true) :: (4, true) :: (5, false) :: (6, true) :: []) = true := by kernel_rfl
theorem jcw_ord5 : ordOk (regOf Tryz.f66.body 5) ((0, true) :: (1, true) :: (2, true) :: (3, true) :: (4, true) :: (5, false) :: (6, true) :: []) = true := by kernel_rfl
theorem jcc_ord2 : ordOk (regOf Tryz.f42.body 2) ((0, true) :: (1, true) :: (2, true) :: (3, true) :: (4, true) :: (5, true) :: (6, true) :: (7, true) :: (8, false) :: (9, true) :: []) = true := by kernel_rfl
theorem jcc_ord6 : ordOk (regOf Tryz.f42.body 6) ((0, true) :: (1, true) :: (2, true) :: (3, true) :: (4, true) :: (5, true) :: (6, true) :: (7, true) :: (8, true) :: (9, false) :: (10, true) :: []) = true := by kernel_rfl
theorem jcc_ord7 : ordOk (regOf Tryz.f42.body 7) ((0, true) :: (1, true) :: (2, true) :: (3, true) :: (4, true) :: (5, true) :: (6, true) :: (7, true) :: (8, true) :: (9, false) :: (10, true) :: (11, true) :: []) = true := by kernel_rfl

theorem RowIs.capLe {w : World} {a : Option Addr} {n c : Nat} {l : List Val} (h : RowIs w (.slice a n c) l) : n ≤ c := by
  rcases h with ⟨_, _, e, rfl⟩ | ⟨b, o, cap, e, h1, _⟩
  · simp only [Value.slice.injEq] at e; omega
  · simp only [Value.slice.injEq] at e; omega
theorem RowIs.take {w : World} {a : Option Addr} {n c : Nat} {l : List Val} (h : RowIs w (.slice a n c) l) (k : Nat) (hk : k ≤ l.length) : RowIs w (.slice a k c) (l.take k) := by
  have hl : (l.take k).length = k := by rw [List.length_take]; omega
  rcases h with ⟨_, _, e, rfl⟩ | ⟨b, o, cap, e, h1, h2, h3, h4⟩
  · simp at hk; subst hk
    exact .inl ⟨a, c, rfl, rfl⟩
  · simp only [Value.slice.injEq] at e
    obtain ⟨rfl, _, rfl⟩ := e
    refine .inr ⟨b, o, c, by rw [hl], by rw [hl]; omega, h2, h3, fun i hi => ?_⟩
    rw [hl] at hi
    rw [List.getElem_take]; exact h4 i (by omega)
theorem RowIs.dropIf {w : World} {a : Option Addr} {n c : Nat} {l : List Val} (h : RowIs w (.slice a n c) l) (k : Nat) (hk : k ≤ l.length) : RowIs w (.slice (if c = k then a else a.map (·.add (k * 3))) (n - k) (c - k)) (l.drop k) := by
  rcases h with ⟨_, _, e, rfl⟩ | ⟨b, o, cap, e, h1, h2, h3, h4⟩
  · simp at hk; subst hk
    simp only [Value.slice.injEq] at e
    exact .inl ⟨_, _, by rw [e.2.1], rfl⟩
  · simp only [Value.slice.injEq] at e
    obtain ⟨rfl, rfl, rfl⟩ := e
    by_cases hc : c = k
    · have h0 : l.length - k = 0 := by omega
      rw [h0]
      exact .inl ⟨_, _, rfl, List.drop_of_length_le (by omega)⟩
    · rw [if_neg hc]
      refine .inr ⟨b, o + k * 3, c - k, by rw [List.length_drop]; simp [Addr.add_mid], by rw [List.length_drop]; omega, by omega, h3, fun i hi => ?_⟩
      rw [List.length_drop] at hi
      rw [List.getElem_drop]
      have := h4 (k + i) (by omega)
      rw [show o + k * 3 + i * 3 = o + (k + i) * 3 by omega]; exact this
theorem cR_short {r p q : List Val} (h : r.length < p.length) : cR r p ≠ 0 ∧ cR r (p ++ q) = cR r p := by
  have hl : r.length = (p.take r.length).length := by rw [List.length_take]; omega
  have e1 := cR_app r (p.take r.length) [] (p.drop r.length) hl
  have e2 := cR_app r (p.take r.length) [] (p.drop r.length ++ q) hl
  rw [← List.append_assoc] at e2
  rw [List.take_append_drop, List.append_nil] at e1 e2
  have hd : ∃ x l, p.drop r.length = x :: l := by
    cases hp : p.drop r.length with
    | nil => have := congrArg List.length hp; rw [List.length_drop] at this; simp at this; omega
    | cons x l => exact ⟨x, l, rfl⟩
  obtain ⟨x, l, hd⟩ := hd
  rw [hd] at e1 e2
  have f1 : cR [] (x :: l) = -1 := rfl
  have f2 : cR [] (x :: l ++ q) = -1 := rfl
  rw [f1] at e1
  rw [f2] at e2
  refine ⟨?_, by rw [e1, e2]⟩
  rw [e1]; split
  · decide
  · assumption
theorem cR_long {r p q : List Val} (h : p.length ≤ r.length) : cR r (p ++ q) = if cR (r.take p.length) p = 0 then cR (r.drop p.length) q else cR (r.take p.length) p := by
  have := cR_app (r.take p.length) p (r.drop p.length) q (by rw [List.length_take]; omega)
  rwa [List.take_append_drop] at this
theorem cR_both (f b g d : List Val) {n : Nat} (h1 : n ≤ f.length) (h2 : n ≤ g.length) : cR (f ++ b) (g ++ d) = if cR (f.take n) (g.take n) = 0 then cR (f.drop n ++ b) (g.drop n ++ d) else cR (f.take n) (g.take n) := by
  have := cR_app (f.take n) (g.take n) (f.drop n ++ b) (g.drop n ++ d) (by rw [List.length_take, List.length_take]; omega)
  rwa [← List.append_assoc, ← List.append_assoc, List.take_append_drop, List.take_append_drop] at this
set_option maxHeartbeats 4000000 in
theorem jcWith (r p q : List Val) (vr vp vq : Value) (w : World) (hr : RowIs w vr r) (hp : RowIs w vp p) (hq : RowIs w vq q) :
    Calls Tryz.prog 66 #[vr, .agg #[vp, vq]] w fun e w' => e = .returned (.int .i64 (cR r (p ++ q))) ∧ Below w.heap.size w w' := by
  obtain ⟨ar, cr, rfl⟩ := hr.form
  obtain ⟨ap, cp, rfl⟩ := hp.form
  obtain ⟨aq, cq, rfl⟩ := hq.form
  obtain ⟨W, hW⟩ : ∃ W, W = w.alloc (.cells #[.slice ap p.length cp, .slice aq q.length cq] 60) := ⟨_, rfl⟩
  have c1 : W.cell? ⟨w.heap.size, 0, none⟩ = some (.slice ap p.length cp) := by rw [hW, World.cell?_alloc_at _ _ _ _ rfl]; rfl
  have c2 : W.cell? ⟨w.heap.size, 1, none⟩ = some (.slice aq q.length cq) := by rw [hW, World.cell?_alloc_at _ _ _ _ rfl]; rfl
  have HW : Hid (w.alloc (.cells #[.slice ap p.length cp, .slice aq q.length cq] 60) = W) := hW.symm
  have BW : Hid (Below w.heap.size w W) := by rw [hW]; exact one_box
  have lr := hr.le
  have lp := hp.le
  unfold maxLen at lr lp
  have K1 := hr.capLe
  have g1 := Ex.cell c1
  have g2 := Ex.cell c2
  have ne := Ex.ne W
  have B0 : Hid (Below W.heap.size W W.drew) := (Below.refl _ _).drew
  clear hW
  by_cases hl : r.length < p.length
  · have I1 : (r.length : Int) < (p.length : Int) := by omega
    have hs := cR_short (q := q) hl
    have E : Hid (cR r (p ++ q) = cR r p) := hs.2
    have h0 : (cR r p == 0) = false := by simpa using hs.1
    have HQ : Hid (∀ V, Below w.heap.size w V → Calls Tryz.prog 60 #[.slice ar r.length cr, .slice ap p.length cp] V fun e w' => e = .returned (.int .i64 (cR r p)) ∧ Below V.heap.size V w') := fun V hV => rowCompare r p _ _ V (hr.on hV) (hp.on hV)
    clear hr hp hq hs c1 c2
    generalize cR r p = c at *
    go_enter Tryz.func66, Tryz.ntmps66
    go_wp2_with fail
    rw [HW.out]
    go_wp2_with fail
    refine wp_region_ord_at (Ex W) (regOf Tryz.f66.body 2) ((0, true) :: (1, true) :: (2, true) :: (3, true) :: (4, true) :: (5, false) :: (6, true) :: []) (by kernel_rfl) (by kernel_rfl) jcw_ord2 B0.out ?_
    generalize W.drew = v0 at *
    repeat (refine ord_quiet rfl ?_; go_big_quiet_step (fail); refine wpQuiet_nil ?_)
    refine ord_call rfl (by rfl) 60 rfl (enters_of Tryz.func60 (by kernel_rfl) rfl) [.slice ar r.length cr, .slice ap p.length cp] (by rfl) _ (HQ.out v0 (BW.out.trans (B0.out.mono BW.out.size))) ?_
    rintro e v1 ⟨rfl, hb1⟩
    have B1 : Hid (Below W.heap.size W v1) := B0.out.trans (hb1.mono B0.out.size)
    clear hb1
    refine ⟨_, rfl, Ex.of B1.out, ?_⟩
    simp only [Act.put, List.setIfInBounds_toArray, List.set_cons_zero, List.set_cons_succ]
    repeat (refine ord_quiet rfl ?_; go_big_quiet_step (fail); refine wpQuiet_nil ?_)
    refine ord_end ?_
    clear g1 g2 ne
    go_wp2_with fail
    go_ret
    exact ⟨by rw [E.out]; rfl, BW.out.trans (B1.out.mono BW.out.size)⟩
  by_cases hl2 : p.length < r.length
  · have I1 : ¬ (r.length : Int) < (p.length : Int) := by omega
    have I2 : (p.length : Int) < (r.length : Int) := by omega
    have hd := hr.dropIf p.length (by omega)
    rw [if_neg (show ¬ cr = p.length by omega)] at hd
    have K2 : p.length ≤ cr := by omega
    have K3 : p.length ≤ r.length := by omega
    have HS : Hid (cR r (p ++ q) = if cR (r.take p.length) p = 0 then cR (r.drop p.length) q else cR (r.take p.length) p) := cR_long (q := q) (show p.length ≤ r.length by omega)
    have HQ : Hid (∀ V, Below w.heap.size w V → Calls Tryz.prog 60 #[.slice ar p.length cr, .slice ap p.length cp] V fun e w' => e = .returned (.int .i64 (cR (r.take p.length) p)) ∧ Below V.heap.size V w') := fun V hV => rowCompare _ p _ _ V ((hr.take p.length (by omega)).on hV) (hp.on hV)
    have HQ2 : Hid (∀ V, Below w.heap.size w V → Calls Tryz.prog 60 #[.slice (ar.map (·.add (p.length * 3))) (r.length - p.length) (cr - p.length), .slice aq q.length cq] V fun e w' => e = .returned (.int .i64 (cR (r.drop p.length) q)) ∧ Below V.heap.size V w') := fun V hV => rowCompare _ q _ _ V (hd.on hV) (hq.on hV)
    clear hr hp hq hd c1 c2
    generalize cR (r.take p.length) p = c at *
    generalize cR (r.drop p.length) q = d at *
    go_enter Tryz.func66, Tryz.ntmps66
    go_wp2_with fail
    rw [HW.out]
    go_wp2_with fail
    refine wp_region_ord_at (Ex W) (regOf Tryz.f66.body 2) ((0, true) :: (1, true) :: (2, true) :: (3, true) :: (4, true) :: (5, false) :: (6, true) :: []) (by kernel_rfl) (by kernel_rfl) jcw_ord2 B0.out ?_
    generalize W.drew = v0 at *
    repeat (refine ord_quiet rfl ?_; go_big_quiet_step (fail); refine wpQuiet_nil ?_)
    refine ord_call rfl (by rfl) 60 rfl (enters_of Tryz.func60 (by kernel_rfl) rfl) [.slice ar p.length cr, .slice ap p.length cp] (by rfl) _ (HQ.out v0 (BW.out.trans (B0.out.mono BW.out.size))) ?_
    rintro e v1 ⟨rfl, hb1⟩
    have B1 : Hid (Below W.heap.size W v1) := B0.out.trans (hb1.mono B0.out.size)
    clear hb1
    refine ⟨_, rfl, Ex.of B1.out, ?_⟩
    simp only [Act.put, List.setIfInBounds_toArray, List.set_cons_zero, List.set_cons_succ]
    repeat (refine ord_quiet rfl ?_; go_big_quiet_step (fail); refine wpQuiet_nil ?_)
    refine ord_end ?_
    clear HQ
    by_cases h0 : c = 0
    · subst h0
      have E : Hid (cR r (p ++ q) = d) := by have := HS.out; rw [if_pos rfl] at this; exact this
      clear HS
      go_wp2_with fail
      have B2 : Hid (Below v1.heap.size v1 v1.drew) := (Below.refl _ _).drew
      have hx : Hid (Below W.heap.size W v1.drew) := B1.out.trans (B2.out.mono B1.out.size)
      refine wp_region_ord_at (Ex W) (regOf Tryz.f66.body 5) ((0, true) :: (1, true) :: (2, true) :: (3, true) :: (4, true) :: (5, false) :: (6, true) :: []) (by kernel_rfl) (by kernel_rfl) jcw_ord5 hx.out ?_
      generalize v1.drew = v2 at *
      repeat (refine ord_quiet rfl ?_; go_big_quiet_step (fail); refine wpQuiet_nil ?_)
      refine ord_call rfl (by rfl) 60 rfl (enters_of Tryz.func60 (by kernel_rfl) rfl) [.slice (ar.map (·.add (p.length * 3))) (r.length - p.length) (cr - p.length), .slice aq q.length cq] (by rfl) _ (HQ2.out v2 (BW.out.trans (hx.out.mono BW.out.size))) ?_
      rintro e v3 ⟨rfl, hb3⟩
      have B3 : Hid (Below W.heap.size W v3) := hx.out.trans (hb3.mono hx.out.size)
      clear hb3
      refine ⟨_, rfl, Ex.of B3.out, ?_⟩
      simp only [Act.put, List.setIfInBounds_toArray, List.set_cons_zero, List.set_cons_succ]
      repeat (refine ord_quiet rfl ?_; go_big_quiet_step (fail); refine wpQuiet_nil ?_)
      refine ord_end ?_
      clear g1 g2 ne
      go_wp2_with fail
      all_goals (go_ret; exact ⟨by rw [E.out]; rfl, BW.out.trans (B3.out.mono BW.out.size)⟩)
    · have bz : (c == 0) = false := by simp [h0]
      have E : Hid (cR r (p ++ q) = c) := by have := HS.out; rw [if_neg h0] at this; exact this
      clear HS g1 g2 ne
      go_wp2_with fail
      go_ret
      exact ⟨by rw [E.out]; rfl, BW.out.trans (B1.out.mono BW.out.size)⟩
  · have he : r.length = p.length := by omega
    have hd := hr.dropIf p.length (by omega)
    rw [he, Nat.sub_self] at hd
    have I1 : ¬ (p.length : Int) < (p.length : Int) := by omega
    have K2 : p.length ≤ cr := by omega
    have K3 : p.length ≤ r.length := by omega
    have HS : Hid (cR r (p ++ q) = if cR (r.take p.length) p = 0 then cR (r.drop p.length) q else cR (r.take p.length) p) := cR_long (q := q) (show p.length ≤ r.length by omega)
    have HQ : Hid (∀ V, Below w.heap.size w V → Calls Tryz.prog 60 #[.slice ar p.length cr, .slice ap p.length cp] V fun e w' => e = .returned (.int .i64 (cR (r.take p.length) p)) ∧ Below V.heap.size V w') := fun V hV => rowCompare _ p _ _ V ((hr.take p.length (by omega)).on hV) (hp.on hV)
    have HQ2 : Hid (∀ V, Below w.heap.size w V → Calls Tryz.prog 60 #[.slice (if cr = p.length then ar else ar.map (·.add (p.length * 3))) 0 (cr - p.length), .slice aq q.length cq] V fun e w' => e = .returned (.int .i64 (cR (r.drop p.length) q)) ∧ Below V.heap.size V w') := fun V hV => rowCompare _ q _ _ V (hd.on hV) (hq.on hV)
    clear hr hp hq hd c1 c2
    rw [he]
    rw [he] at lr K1
    clear hl hl2 he K3
    generalize cR (r.take p.length) p = c at *
    generalize cR (r.drop p.length) q = d at *
    go_enter Tryz.func66, Tryz.ntmps66
    go_wp2_with fail
    rw [HW.out]
    go_wp2_with fail
    refine wp_region_ord_at (Ex W) (regOf Tryz.f66.body 2) ((0, true) :: (1, true) :: (2, true) :: (3, true) :: (4, true) :: (5, false) :: (6, true) :: []) (by kernel_rfl) (by kernel_rfl) jcw_ord2 B0.out ?_
    generalize W.drew = v0 at *
    repeat (refine ord_quiet rfl ?_; go_big_quiet_step (fail); refine wpQuiet_nil ?_)
    refine ord_call rfl (by rfl) 60 rfl (enters_of Tryz.func60 (by kernel_rfl) rfl) [.slice ar p.length cr, .slice ap p.length cp] (by rfl) _ (HQ.out v0 (BW.out.trans (B0.out.mono BW.out.size))) ?_
    rintro e v1 ⟨rfl, hb1⟩
    have B1 : Hid (Below W.heap.size W v1) := B0.out.trans (hb1.mono B0.out.size)
    clear hb1
    refine ⟨_, rfl, Ex.of B1.out, ?_⟩
    simp only [Act.put, List.setIfInBounds_toArray, List.set_cons_zero, List.set_cons_succ]
    repeat (refine ord_quiet rfl ?_; go_big_quiet_step (fail); refine wpQuiet_nil ?_)
    refine ord_end ?_
    clear HQ
    by_cases h0 : c = 0
    · subst h0
      have E : Hid (cR r (p ++ q) = d) := by have := HS.out; rw [if_pos rfl] at this; exact this
      clear HS
      go_wp2_with fail
      have B2 : Hid (Below v1.heap.size v1 v1.drew) := (Below.refl _ _).drew
      have hx : Hid (Below W.heap.size W v1.drew) := B1.out.trans (B2.out.mono B1.out.size)
      refine wp_region_ord_at (Ex W) (regOf Tryz.f66.body 5) ((0, true) :: (1, true) :: (2, true) :: (3, true) :: (4, true) :: (5, false) :: (6, true) :: []) (by kernel_rfl) (by kernel_rfl) jcw_ord5 hx.out ?_
      generalize v1.drew = v2 at *
      repeat (refine ord_quiet rfl ?_; go_big_quiet_step (fail); refine wpQuiet_nil ?_)
      refine ord_call rfl (by rfl) 60 rfl (enters_of Tryz.func60 (by kernel_rfl) rfl) [.slice (if cr = p.length then ar else ar.map (·.add (p.length * 3))) 0 (cr - p.length), .slice aq q.length cq] (by rfl) _ (HQ2.out v2 (BW.out.trans (hx.out.mono BW.out.size))) ?_
      rintro e v3 ⟨rfl, hb3⟩
      have B3 : Hid (Below W.heap.size W v3) := hx.out.trans (hb3.mono hx.out.size)
      clear hb3
      refine ⟨_, rfl, Ex.of B3.out, ?_⟩
      simp only [Act.put, List.setIfInBounds_toArray, List.set_cons_zero, List.set_cons_succ]
      repeat (refine ord_quiet rfl ?_; go_big_quiet_step (fail); refine wpQuiet_nil ?_)
      refine ord_end ?_
      clear g1 g2 ne
      go_wp2_with fail
      all_goals (go_ret; exact ⟨by rw [E.out]; rfl, BW.out.trans (B3.out.mono BW.out.size)⟩)
    · have bz : (c == 0) = false := by simp [h0]
      have E : Hid (cR r (p ++ q) = c) := by have := HS.out; rw [if_neg h0] at this; exact this
      clear HS g1 g2 ne
      go_wp2_with fail
      go_ret
      exact ⟨by rw [E.out]; rfl, BW.out.trans (B1.out.mono BW.out.size)⟩
set_option maxHeartbeats 8000000 in
theorem jcCompare (f b g d : List Val) (vf vb vg vd : Value) (w : World) (hf : RowIs w vf f) (hb : RowIs w vb b) (hg : RowIs w vg g) (hd' : RowIs w vd d) :
    Calls Tryz.prog 42 #[.agg #[vf, vb], .agg #[vg, vd]] w fun e w' => e = .returned (.int .i64 (cR (f ++ b) (g ++ d))) ∧ Below w.heap.size w w' := by
  obtain ⟨af, cf, rfl⟩ := hf.form
  obtain ⟨ab, cb, rfl⟩ := hb.form
  obtain ⟨ag, cg, rfl⟩ := hg.form
  obtain ⟨ad, cd, rfl⟩ := hd'.form
  obtain ⟨W, hW⟩ : ∃ W, W = (w.alloc (.cells #[.slice af f.length cf, .slice ab b.length cb] 60)).alloc (.cells #[.slice ag g.length cg, .slice ad d.length cd] 60) := ⟨_, rfl⟩
  have c1 : W.cell? ⟨w.heap.size, 0, none⟩ = some (.slice af f.length cf) := by rw [hW]; exact cell_on (by rw [World.cell?_alloc_at _ _ _ _ rfl]; rfl) one_box
  have c2 : W.cell? ⟨w.heap.size, 1, none⟩ = some (.slice ab b.length cb) := by rw [hW]; exact cell_on (by rw [World.cell?_alloc_at _ _ _ _ rfl]; rfl) one_box
  have c3 : W.cell? ⟨w.heap.size + 1, 0, none⟩ = some (.slice ag g.length cg) := by rw [hW, World.cell?_alloc_at _ _ _ _ (by simp)]; rfl
  have c4 : W.cell? ⟨w.heap.size + 1, 1, none⟩ = some (.slice ad d.length cd) := by rw [hW, World.cell?_alloc_at _ _ _ _ (by simp)]; rfl
  have HW : Hid ((w.alloc (.cells #[.slice af f.length cf, .slice ab b.length cb] 60)).alloc (.cells #[.slice ag g.length cg, .slice ad d.length cd] 60) = W) := hW.symm
  have BW : Hid (Below w.heap.size w W) := by rw [hW]; exact below_two
  have lf := hf.le
  have lg := hg.le
  unfold maxLen at lf lg
  have KF := hf.capLe
  have KG := hg.capLe
  have g1 := Ex.cell c1
  have g2 := Ex.cell c2
  have g3 := Ex.cell c3
  have g4 := Ex.cell c4
  have ne := Ex.ne W
  have B0 : Hid (Below W.heap.size W W.drew) := (Below.refl _ _).drew
  clear hW c1 c2 c3 c4
  by_cases hl : f.length < g.length
  · have I1 : (f.length : Int) < (g.length : Int) := by omega
    have I2 : ¬ (g.length : Int) < (f.length : Int) := by omega
    have hd := hg.dropIf f.length (by omega)
    rw [if_neg (show ¬ cg = f.length by omega)] at hd
    have hK : f.drop f.length ++ b = b := by rw [List.drop_length]; rfl
    have HS : Hid (cR (f ++ b) (g ++ d) = if cR (f.take f.length) (g.take f.length) = 0 then cR b (g.drop f.length ++ d) else cR (f.take f.length) (g.take f.length)) := by have := cR_both f b g d (n := f.length) (Nat.le_refl _) (by omega); rw [hK] at this; exact this
    have HQ2 : Hid (∀ V, Below w.heap.size w V → Calls Tryz.prog 66 #[.slice ab b.length cb, .agg #[.slice (ag.map (·.add (f.length * 3))) (g.length - f.length) (cg - f.length), .slice ad d.length cd]] V fun e w' => e = .returned (.int .i64 (cR b (g.drop f.length ++ d))) ∧ Below V.heap.size V w') := fun V hV => jcWith b (g.drop f.length) d _ _ _ V (hb.on hV) (hd.on hV) (hd'.on hV)
    have K1 : f.length ≤ cf := by have := hf.capLe; omega
    have K2 : f.length ≤ cg := by have := hg.capLe; omega
    have HQ : Hid (∀ V, Below w.heap.size w V → Calls Tryz.prog 60 #[.slice af f.length cf, .slice ag f.length cg] V fun e w' => e = .returned (.int .i64 (cR (f.take f.length) (g.take f.length))) ∧ Below V.heap.size V w') := fun V hV => rowCompare _ _ _ _ V ((hf.take f.length (by omega)).on hV) ((hg.take f.length (by omega)).on hV)
    clear hf hb hg hd' hd hK
    generalize cR (f.take f.length) (g.take f.length) = c at *
    generalize cR b (g.drop f.length ++ d) = z at *
    go_enter Tryz.func42, Tryz.ntmps42
    go_wp2_with fail
    rw [HW.out]
    go_wp2_with fail
    refine wp_region_ord_at (Ex W) (regOf Tryz.f42.body 2) ((0, true) :: (1, true) :: (2, true) :: (3, true) :: (4, true) :: (5, true) :: (6, true) :: (7, true) :: (8, false) :: (9, true) :: []) (by kernel_rfl) (by kernel_rfl) jcc_ord2 B0.out ?_
    generalize W.drew = v0 at *
    repeat (refine ord_quiet rfl ?_; go_big_quiet_step (fail); refine wpQuiet_nil ?_)
    refine ord_call rfl (by rfl) 60 rfl (enters_of Tryz.func60 (by kernel_rfl) rfl) [.slice af f.length cf, .slice ag f.length cg] (by rfl) _ (HQ.out v0 (BW.out.trans (B0.out.mono BW.out.size))) ?_
    rintro e v1 ⟨rfl, hb1⟩
    have B1 : Hid (Below W.heap.size W v1) := B0.out.trans (hb1.mono B0.out.size)
    clear hb1
    refine ⟨_, rfl, Ex.of B1.out, ?_⟩
    simp only [Act.put, List.setIfInBounds_toArray, List.set_cons_zero, List.set_cons_succ]
    repeat (refine ord_quiet rfl ?_; go_big_quiet_step (fail); refine wpQuiet_nil ?_)
    refine ord_end ?_
    clear HQ
    have x1 := ne
    have y1 : v1.cell? ⟨w.heap.size, 0, none⟩ = some (.slice af f.length cf) := g1 ⟨v1, B1.out⟩
    by_cases h0 : c = 0
    · subst h0
      have E : Hid (cR (f ++ b) (g ++ d) = z) := by have := HS.out; rw [if_pos rfl] at this; exact this
      clear HS
      go_wp2_with fail
      have B2 : Hid (Below v1.heap.size v1 v1.drew) := (Below.refl _ _).drew
      have hx : Hid (Below W.heap.size W v1.drew) := B1.out.trans (B2.out.mono B1.out.size)
      clear y1
      refine wp_region_ord_at (Ex W) (regOf Tryz.f42.body 6) ((0, true) :: (1, true) :: (2, true) :: (3, true) :: (4, true) :: (5, true) :: (6, true) :: (7, true) :: (8, true) :: (9, false) :: (10, true) :: []) (by kernel_rfl) (by kernel_rfl) jcc_ord6 hx.out ?_
      generalize v1.drew = v2 at *
      repeat (refine ord_quiet rfl ?_; go_big_quiet_step (fail); refine wpQuiet_nil ?_)
      refine ord_call rfl (by rfl) 66 rfl (enters_of Tryz.func66 (by kernel_rfl) rfl) [.slice ab b.length cb, .agg #[.slice (ag.map (·.add (f.length * 3))) (g.length - f.length) (cg - f.length), .slice ad d.length cd]] (by rfl) _ (HQ2.out v2 (BW.out.trans (hx.out.mono BW.out.size))) ?_
      rintro e v3 ⟨rfl, hb3⟩
      have B3 : Hid (Below W.heap.size W v3) := hx.out.trans (hb3.mono hx.out.size)
      clear hb3
      refine ⟨_, rfl, Ex.of B3.out, ?_⟩
      simp only [Act.put, List.setIfInBounds_toArray, List.set_cons_zero, List.set_cons_succ]
      repeat (refine ord_quiet rfl ?_; go_big_quiet_step (fail); refine wpQuiet_nil ?_)
      refine ord_end ?_
      clear g1 g2 g3 g4 ne x1
      go_wp2_with fail
      all_goals (go_ret; exact ⟨by rw [E.out]; rfl, BW.out.trans (B3.out.mono BW.out.size)⟩)
    · have bz : (c == 0) = false := by simp [h0]
      have E : Hid (cR (f ++ b) (g ++ d) = c) := by have := HS.out; rw [if_neg h0] at this; exact this
      clear HS g1 g2 g3 g4 ne x1 y1
      go_wp2_with fail
      go_ret
      exact ⟨by rw [E.out]; rfl, BW.out.trans (B1.out.mono BW.out.size)⟩
  by_cases hl2 : g.length < f.length
  · have I1 : ¬ (f.length : Int) < (g.length : Int) := by omega
    have I2 : (g.length : Int) < (f.length : Int) := by omega
    have hd := hf.dropIf g.length (by omega)
    rw [if_neg (show ¬ cf = g.length by omega)] at hd
    have hK : g.drop g.length ++ d = d := by rw [List.drop_length]; rfl
    have HS : Hid (cR (f ++ b) (g ++ d) = if cR (f.take g.length) (g.take g.length) = 0 then - cR d (f.drop g.length ++ b) else cR (f.take g.length) (g.take g.length)) := by have := cR_both f b g d (n := g.length) (by omega) (Nat.le_refl _); rw [hK, cR_anti d (f.drop g.length ++ b)] at this; exact this
    have HQ2 : Hid (∀ V, Below w.heap.size w V → Calls Tryz.prog 66 #[.slice ad d.length cd, .agg #[.slice (af.map (·.add (g.length * 3))) (f.length - g.length) (cf - g.length), .slice ab b.length cb]] V fun e w' => e = .returned (.int .i64 (cR d (f.drop g.length ++ b))) ∧ Below V.heap.size V w') := fun V hV => jcWith d (f.drop g.length) b _ _ _ V (hd'.on hV) (hd.on hV) (hb.on hV)
    have hsq := cR_sq d (f.drop g.length ++ b)
    have K1 : g.length ≤ cf := by have := hf.capLe; omega
    have K2 : g.length ≤ cg := by have := hg.capLe; omega
    have HQ : Hid (∀ V, Below w.heap.size w V → Calls Tryz.prog 60 #[.slice af g.length cf, .slice ag g.length cg] V fun e w' => e = .returned (.int .i64 (cR (f.take g.length) (g.take g.length))) ∧ Below V.heap.size V w') := fun V hV => rowCompare _ _ _ _ V ((hf.take g.length (by omega)).on hV) ((hg.take g.length (by omega)).on hV)
    clear hf hb hg hd' hd hK
    generalize cR (f.take g.length) (g.take g.length) = c at *
    generalize cR d (f.drop g.length ++ b) = z at *
    go_enter Tryz.func42, Tryz.ntmps42
    go_wp2_with fail
    rw [HW.out]
    go_wp2_with fail
    refine wp_region_ord_at (Ex W) (regOf Tryz.f42.body 2) ((0, true) :: (1, true) :: (2, true) :: (3, true) :: (4, true) :: (5, true) :: (6, true) :: (7, true) :: (8, false) :: (9, true) :: []) (by kernel_rfl) (by kernel_rfl) jcc_ord2 B0.out ?_
    generalize W.drew = v0 at *
    repeat (refine ord_quiet rfl ?_; go_big_quiet_step (fail); refine wpQuiet_nil ?_)
    refine ord_call rfl (by rfl) 60 rfl (enters_of Tryz.func60 (by kernel_rfl) rfl) [.slice af g.length cf, .slice ag g.length cg] (by rfl) _ (HQ.out v0 (BW.out.trans (B0.out.mono BW.out.size))) ?_
    rintro e v1 ⟨rfl, hb1⟩
    have B1 : Hid (Below W.heap.size W v1) := B0.out.trans (hb1.mono B0.out.size)
    clear hb1
    refine ⟨_, rfl, Ex.of B1.out, ?_⟩
    simp only [Act.put, List.setIfInBounds_toArray, List.set_cons_zero, List.set_cons_succ]
    repeat (refine ord_quiet rfl ?_; go_big_quiet_step (fail); refine wpQuiet_nil ?_)
    refine ord_end ?_
    clear HQ
    have x1 := ne
    have y1 : v1.cell? ⟨w.heap.size, 0, none⟩ = some (.slice af f.length cf) := g1 ⟨v1, B1.out⟩
    by_cases h0 : c = 0
    · subst h0
      have E : Hid (cR (f ++ b) (g ++ d) = -z) := by have := HS.out; rw [if_pos rfl] at this; exact this
      clear HS
      go_wp2_with fail
      have B2 : Hid (Below v1.heap.size v1 v1.drew) := (Below.refl _ _).drew
      have hx : Hid (Below W.heap.size W v1.drew) := B1.out.trans (B2.out.mono B1.out.size)
      clear y1
      refine wp_region_ord_at (Ex W) (regOf Tryz.f42.body 7) ((0, true) :: (1, true) :: (2, true) :: (3, true) :: (4, true) :: (5, true) :: (6, true) :: (7, true) :: (8, true) :: (9, false) :: (10, true) :: (11, true) :: []) (by kernel_rfl) (by kernel_rfl) jcc_ord7 hx.out ?_
      generalize v1.drew = v2 at *
      repeat (refine ord_quiet rfl ?_; go_big_quiet_step (fail); refine wpQuiet_nil ?_)
      refine ord_call rfl (by rfl) 66 rfl (enters_of Tryz.func66 (by kernel_rfl) rfl) [.slice ad d.length cd, .agg #[.slice (af.map (·.add (g.length * 3))) (f.length - g.length) (cf - g.length), .slice ab b.length cb]] (by rfl) _ (HQ2.out v2 (BW.out.trans (hx.out.mono BW.out.size))) ?_
      rintro e v3 ⟨rfl, hb3⟩
      have B3 : Hid (Below W.heap.size W v3) := hx.out.trans (hb3.mono hx.out.size)
      clear hb3
      refine ⟨_, rfl, Ex.of B3.out, ?_⟩
      simp only [Act.put, List.setIfInBounds_toArray, List.set_cons_zero, List.set_cons_succ]
      repeat (refine ord_quiet rfl ?_; go_big_quiet_step (fail); refine wpQuiet_nil ?_)
      refine ord_end ?_
      clear g1 g2 g3 g4 ne x1
      go_wp2_with fail
      all_goals (go_ret; exact ⟨by rw [E.out]; rfl, BW.out.trans (B3.out.mono BW.out.size)⟩)
    · have bz : (c == 0) = false := by simp [h0]
      have E : Hid (cR (f ++ b) (g ++ d) = c) := by have := HS.out; rw [if_neg h0] at this; exact this
      clear HS g1 g2 g3 g4 ne x1 y1
      go_wp2_with fail
      go_ret
      exact ⟨by rw [E.out]; rfl, BW.out.trans (B1.out.mono BW.out.size)⟩
  · have he : g.length = f.length := by omega
    have I1 : ¬ (f.length : Int) < (f.length : Int) := by omega
    have hd := hg.dropIf f.length (by omega)
    rw [he, Nat.sub_self] at hd
    have hK : f.drop f.length ++ b = b := by rw [List.drop_length]; rfl
    have HS : Hid (cR (f ++ b) (g ++ d) = if cR (f.take f.length) (g.take f.length) = 0 then cR b (g.drop f.length ++ d) else cR (f.take f.length) (g.take f.length)) := by have := cR_both f b g d (n := f.length) (Nat.le_refl _) (by omega); rw [hK] at this; exact this
    have HQ2 : Hid (∀ V, Below w.heap.size w V → Calls Tryz.prog 66 #[.slice ab b.length cb, .agg #[.slice (if cg = f.length then ag else ag.map (·.add (f.length * 3))) 0 (cg - f.length), .slice ad d.length cd]] V fun e w' => e = .returned (.int .i64 (cR b (g.drop f.length ++ d))) ∧ Below V.heap.size V w') := fun V hV => jcWith b (g.drop f.length) d _ _ _ V (hb.on hV) (hd.on hV) (hd'.on hV)
    have K1 : f.length ≤ cf := by have := hf.capLe; omega
    have K2 : f.length ≤ cg := by have := hg.capLe; omega
    have HQ : Hid (∀ V, Below w.heap.size w V → Calls Tryz.prog 60 #[.slice af f.length cf, .slice ag f.length cg] V fun e w' => e = .returned (.int .i64 (cR (f.take f.length) (g.take f.length))) ∧ Below V.heap.size V w') := fun V hV => rowCompare _ _ _ _ V ((hf.take f.length (by omega)).on hV) ((hg.take f.length (by omega)).on hV)
    clear hf hb hg hd' hd hK
    rw [he]
    rw [he] at HW g3 lg KG
    clear hl hl2 he
    generalize cR (f.take f.length) (g.take f.length) = c at *
    generalize cR b (g.drop f.length ++ d) = z at *
    go_enter Tryz.func42, Tryz.ntmps42
    go_wp2_with fail
    rw [HW.out]
    go_wp2_with fail
    refine wp_region_ord_at (Ex W) (regOf Tryz.f42.body 2) ((0, true) :: (1, true) :: (2, true) :: (3, true) :: (4, true) :: (5, true) :: (6, true) :: (7, true) :: (8, false) :: (9, true) :: []) (by kernel_rfl) (by kernel_rfl) jcc_ord2 B0.out ?_
    generalize W.drew = v0 at *
    repeat (refine ord_quiet rfl ?_; go_big_quiet_step (fail); refine wpQuiet_nil ?_)
    refine ord_call rfl (by rfl) 60 rfl (enters_of Tryz.func60 (by kernel_rfl) rfl) [.slice af f.length cf, .slice ag f.length cg] (by rfl) _ (HQ.out v0 (BW.out.trans (B0.out.mono BW.out.size))) ?_
    rintro e v1 ⟨rfl, hb1⟩
    have B1 : Hid (Below W.heap.size W v1) := B0.out.trans (hb1.mono B0.out.size)
    clear hb1
    refine ⟨_, rfl, Ex.of B1.out, ?_⟩
    simp only [Act.put, List.setIfInBounds_toArray, List.set_cons_zero, List.set_cons_succ]
    repeat (refine ord_quiet rfl ?_; go_big_quiet_step (fail); refine wpQuiet_nil ?_)
    refine ord_end ?_
    clear HQ
    have x1 := ne
    have y1 : v1.cell? ⟨w.heap.size, 0, none⟩ = some (.slice af f.length cf) := g1 ⟨v1, B1.out⟩
    by_cases h0 : c = 0
    · subst h0
      have E : Hid (cR (f ++ b) (g ++ d) = z) := by have := HS.out; rw [if_pos rfl] at this; exact this
      clear HS
      go_wp2_with fail
      have B2 : Hid (Below v1.heap.size v1 v1.drew) := (Below.refl _ _).drew
      have hx : Hid (Below W.heap.size W v1.drew) := B1.out.trans (B2.out.mono B1.out.size)
      clear y1
      refine wp_region_ord_at (Ex W) (regOf Tryz.f42.body 6) ((0, true) :: (1, true) :: (2, true) :: (3, true) :: (4, true) :: (5, true) :: (6, true) :: (7, true) :: (8, true) :: (9, false) :: (10, true) :: []) (by kernel_rfl) (by kernel_rfl) jcc_ord6 hx.out ?_
      generalize v1.drew = v2 at *
      repeat (refine ord_quiet rfl ?_; go_big_quiet_step (fail); refine wpQuiet_nil ?_)
      refine ord_call rfl (by rfl) 66 rfl (enters_of Tryz.func66 (by kernel_rfl) rfl) [.slice ab b.length cb, .agg #[.slice (if cg = f.length then ag else ag.map (·.add (f.length * 3))) 0 (cg - f.length), .slice ad d.length cd]] (by rfl) _ (HQ2.out v2 (BW.out.trans (hx.out.mono BW.out.size))) ?_
      rintro e v3 ⟨rfl, hb3⟩
      have B3 : Hid (Below W.heap.size W v3) := hx.out.trans (hb3.mono hx.out.size)
      clear hb3
      refine ⟨_, rfl, Ex.of B3.out, ?_⟩
      simp only [Act.put, List.setIfInBounds_toArray, List.set_cons_zero, List.set_cons_succ]
      repeat (refine ord_quiet rfl ?_; go_big_quiet_step (fail); refine wpQuiet_nil ?_)
      refine ord_end ?_
      clear g1 g2 g3 g4 ne x1
      go_wp2_with fail
      all_goals (go_ret; exact ⟨by rw [E.out]; rfl, BW.out.trans (B3.out.mono BW.out.size)⟩)
    · have bz : (c == 0) = false := by simp [h0]
      have E : Hid (cR (f ++ b) (g ++ d) = c) := by have := HS.out; rw [if_neg h0] at this; exact this
      clear HS g1 g2 g3 g4 ne x1 y1
      go_wp2_with fail
      go_ret
      exact ⟨by rw [E.out]; rfl, BW.out.trans (B1.out.mono BW.out.size)⟩
end Go.Proofs.YtlafokjkpbhckaaGreatDoor
