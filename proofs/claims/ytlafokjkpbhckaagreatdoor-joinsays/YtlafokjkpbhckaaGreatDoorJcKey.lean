/- What join's byKey answers: those of b that have the columns, sorted by them, then by row. -/
import Derived.Test.YtlafokjkpbhckaaGreatDoorJSort
import Derived.Test.YtlafokjkpbhckaaGreatDoorPackKeys
import Derived.Test.YtlafokjkpbhckaaGreatDoorPackStep
import Derived.Test.YtlafokjkpbhckaaGreatDoorPackSets
namespace Go.Proofs.YtlafokjkpbhckaaGreatDoor
open Go.RowKit Go.Sort
set_option maxRecDepth 100000
set_option linter.unusedVariables false
theorem jck_ord : ordOk (regOf Tryz.f58.body 1) ((0, true) :: (1, true) :: (2, true) :: (3, true) :: (4, true) :: (6, true) :: (7, true) :: (8, true) :: (9, true) :: (5, false) :: (10, false) :: (11, false) :: (12, false) :: (13, true) :: []) = true := by kernel_rfl

set_option maxHeartbeats 2000000 in
/-- The first that is not 0. -/
theorem cmpOr (g : Nat) (c d r : Int) (cap : Nat) (hr : r = if c = 0 then d else c) (w : World) (h0 : w.cell? ⟨g, 0, none⟩ = some (.int .i64 c)) (h1 : w.cell? ⟨g, 1, none⟩ = some (.int .i64 d)) :
    Calls Tryz.prog 59 #[.slice (some ⟨g, 0, none⟩) 2 cap] w fun e w' => e = .returned (.int .i64 r) ∧ w' = w := by
  have E1 : Hid (c = 0 → r = d) := fun h => by rw [hr, if_pos h]
  have E2 : Hid (¬ c = 0 → r = c) := fun h => by rw [hr, if_neg h]
  clear hr
  go_enter Tryz.func59, Tryz.ntmps59
  go_wp2_with fail
  go_loopw [8] (fun i wr => ∃ j : Nat, j ≤ 2 ∧ i = .int .i64 j ∧ wr = w ∧ (0 < j → c = 0) ∧ (1 < j → d = 0)) (fun i _ => 2 - (intOf i).toNat)
  case atStart => exact ⟨0, by omega, rfl, rfl, fun h => absurd h (by omega), fun h => absurd h (by omega)⟩
  case round =>
    obtain ⟨j, hj, rfl, rfl, e1, e2⟩ := hrel
    by_cases j0 : j = 0
    · subst j0
      clear e1 e2
      by_cases hc : c = 0
      · subst hc
        go_wp2_with fail
        go_roundw
        case rel => refine ⟨1, by omega, ?_, ?_, ?_, ?_⟩ <;> first | rfl | trivial | (simp; done) | (intro h; omega)
        case measure => simp [intOf]
      · have bz : (c == 0) = false := by simp [hc]
        obtain rfl := E2.out hc
        go_wp2_with fail
        go_ret
        exact ⟨rfl, rfl⟩
    · by_cases j1 : j = 1
      · subst j1
        have hc := e1 (by omega)
        subst hc
        clear e1 e2
        by_cases hd : d = 0
        · subst hd
          go_wp2_with fail
          go_roundw
          case rel => refine ⟨2, by omega, ?_, ?_, ?_, ?_⟩ <;> first | rfl | trivial | (simp; done) | (intro h; omega)
          case measure => simp [intOf]
        · have bz : (d == 0) = false := by simp [hd]
          obtain rfl := E1.out rfl
          go_wp2_with fail
          go_ret
          exact ⟨rfl, rfl⟩
      · obtain rfl : j = 2 := by omega
        have hc := e1 (by omega)
        have hd := e2 (by omega)
        subst hc hd
        obtain rfl := E1.out rfl
        clear e1 e2
        go_wp2_with fail
        go_ret
        exact ⟨rfl, rfl⟩
set_option maxHeartbeats 4000000 in
theorem jcKeyFn (on : List (Int × Int)) (x y : List Val) (a0 b0 : Option Addr) (cap cap' : Nat) (i k : Int) (bx : Nat) (ov : Value) (w : World) (ho : PairsIs w ov on) (hb : w.cell? ⟨bx, 0, none⟩ = some ov) (hx : RowIs w (.slice a0 x.length cap) x) (hy : RowIs w (.slice b0 y.length cap') y) (kx : hasK on true x = true) (ky : hasK on true y = true) :
    Calls Tryz.prog 58 #[.agg #[.slice a0 x.length cap, .int .i64 i], .agg #[.slice b0 y.length cap', .int .i64 k], .pointer (some ⟨bx, 0, none⟩)] w fun e w' => e = .returned (.int .i64 (cR (keyed on x) (keyed on y))) ∧ Grown w w' := by
  obtain ⟨r, hr⟩ : ∃ r, r = if cR (keyJ on true x) (keyJ on true y) = 0 then cR x y else cR (keyJ on true x) (keyJ on true y) := ⟨_, rfl⟩
  have E : Hid (cR (keyed on x) (keyed on y) = r) := by show _ = _; rw [keyed_c on x y, hr]
  have HR : Hid (r = if cR (keyJ on true x) (keyJ on true y) = 0 then cR x y else cR (keyJ on true x) (keyJ on true y)) := hr
  clear hr
  obtain ⟨W, hW⟩ : ∃ W, W = (w.alloc (.cells #[.slice a0 x.length cap, .int .i64 i] 41)).alloc (.cells #[.slice b0 y.length cap', .int .i64 k] 41) := ⟨_, rfl⟩
  have BW : Below w.heap.size w W := by rw [hW]; exact below_two
  have GW : Hid (Grown w W) := by rw [hW]; exact grown_two
  have c1 : W.cell? ⟨w.heap.size, 0, none⟩ = some (.slice a0 x.length cap) := by rw [hW]; exact cell_on (by rw [World.cell?_alloc_at _ _ _ _ rfl]; rfl) one_box
  have c2 : W.cell? ⟨w.heap.size + 1, 0, none⟩ = some (.slice b0 y.length cap') := by rw [hW, World.cell?_alloc_at _ _ _ _ (by simp)]; rfl
  have c3 := cell_on hb BW
  have HQ1 : Hid (∀ V, Below W.heap.size W V → Calls Tryz.prog 27 #[ov, .int .i64 1, .slice a0 x.length cap, .int .i64 1, .slice b0 y.length cap'] V fun e w' => e = .returned (.int .i64 (cR (keyJ on true x) (keyJ on true y))) ∧ Grown V w') := fun V hV =>
    jcCmp on true true x y _ _ _ V ((ho.on BW).on hV) ((hx.on BW).on hV) ((hy.on BW).on hV) kx ky
  have HQ2 : Hid (∀ V, Below W.heap.size W V → Calls Tryz.prog 60 #[.slice a0 x.length cap, .slice b0 y.length cap'] V fun e w' => e = .returned (.int .i64 (cR x y)) ∧ Grown V w') := fun V hV =>
    rowCompareG x y _ _ V ((hx.on BW).on hV) ((hy.on BW).on hV)
  have HW : Hid ((w.alloc (.cells #[.slice a0 x.length cap, .int .i64 i] 41)).alloc (.cells #[.slice b0 y.length cap', .int .i64 k] 41) = W) := hW.symm
  obtain ⟨ao, co, rfl⟩ := ho.form
  have g1 := Ex.cell c1
  have g2 := Ex.cell c2
  have g3 := Ex.cell c3
  have ne := Ex.ne W
  have B0 : Hid (Below W.heap.size W W.drew) := (Below.refl _ _).drew
  have G0 : Hid (Grown W W.drew) := ⟨1, #[], by rw [grow_empty]; rfl⟩
  clear ho hb hx hy kx ky hW BW c1 c2 c3
  generalize cR (keyJ on true x) (keyJ on true y) = c at *
  generalize cR x y = d at *
  generalize x.length = n1 at *
  generalize y.length = n2 at *
  generalize on.length = n3 at *
  go_enter Tryz.func58, Tryz.ntmps58
  go_wp2_with fail
  rw [HW.out]
  refine wp_region_ord_at (Ex W) (regOf Tryz.f58.body 1) ((0, true) :: (1, true) :: (2, true) :: (3, true) :: (4, true) :: (6, true) :: (7, true) :: (8, true) :: (9, true) :: (5, false) :: (10, false) :: (11, false) :: (12, false) :: (13, true) :: []) (by kernel_rfl) (by kernel_rfl) jck_ord B0.out ?_
  generalize W.drew = v0 at *
  repeat (refine ord_quiet rfl ?_; go_big_quiet_step (fail); refine wpQuiet_nil ?_)
  refine ord_call rfl (by rfl) 27 rfl (enters_of Tryz.func27 (by kernel_rfl) rfl) [.slice ao n3 co, .int .i64 1, .slice a0 n1 cap, .int .i64 1, .slice b0 n2 cap'] (by rfl) _ (HQ1.out v0 B0.out) ?_
  rintro e v1 ⟨rfl, hb1⟩
  have B1 : Hid (Below W.heap.size W v1) := B0.out.trans (hb1.below.mono B0.out.size)
  have G1 : Hid (Grown W v1) := G0.out.trans hb1
  clear hb1
  refine ⟨_, rfl, Ex.of B1.out, ?_⟩
  simp only [Act.put, List.setIfInBounds_toArray, List.set_cons_zero, List.set_cons_succ]
  repeat (refine ord_quiet rfl ?_; go_big_quiet_step (fail); refine wpQuiet_nil ?_)
  refine ord_call rfl (by rfl) 60 rfl (enters_of Tryz.func60 (by kernel_rfl) rfl) [.slice a0 n1 cap, .slice b0 n2 cap'] (by rfl) _ (HQ2.out v1 B1.out) ?_
  rintro e v2 ⟨rfl, hb2⟩
  have B2 : Hid (Below W.heap.size W v2) := B1.out.trans (hb2.below.mono B1.out.size)
  have G2 : Hid (Grown W v2) := G1.out.trans hb2
  clear hb2
  refine ⟨_, rfl, Ex.of B2.out, ?_⟩
  simp only [Act.put, List.setIfInBounds_toArray, List.set_cons_zero, List.set_cons_succ]
  repeat (refine ord_quiet rfl ?_; go_big_quiet_step (fail); refine wpQuiet_nil ?_)
  refine ord_loud rfl ?_
  intro K hK
  go_simp
  have B3 : Hid (Below W.heap.size W (v2.alloc (.cells #[.int .i64 c, .int .i64 d] 3))) := B2.out.trans (one_box.mono B2.out.size)
  have G3 : Hid (Grown W (v2.alloc (.cells #[.int .i64 c, .int .i64 d] 3))) := G2.out.trans grown_one
  have q3 := cmpOr v2.heap.size c d r 2 HR.out (v2.alloc (.cells #[.int .i64 c, .int .i64 d] 3)) (by rw [World.cell?_alloc_at _ _ _ _ rfl]; rfl) (by rw [World.cell?_alloc_at _ _ _ _ rfl]; rfl)
  refine hK _ _ (Ex.of B3.out) ?_
  clear hK
  refine ord_call rfl (by rfl) 59 rfl (enters_of Tryz.func59 (by kernel_rfl) rfl) [.slice (some ⟨v2.heap.size, 0, none⟩) 2 2] (by rfl) _ (q3) ?_
  rintro e v4 ⟨rfl, rfl⟩
  refine ⟨_, rfl, Ex.of B3.out, ?_⟩
  simp only [Act.put, List.setIfInBounds_toArray, List.set_cons_zero, List.set_cons_succ]
  repeat (refine ord_quiet rfl ?_; go_big_quiet_step (fail); refine wpQuiet_nil ?_)
  refine ord_end ?_
  clear g1 g2 g3 ne HQ1 HQ2 q3 HR
  go_wp2_with fail
  go_ret
  exact ⟨by rw [E.out]; rfl, GW.out.trans G3.out⟩
theorem has_snoc {on : List (Int × Int)} {b : List Ent} {j : Nat} (h : j < b.length) : (b.take (j + 1)).filter (fun e => hasK on true e.1) = if hasK on true b[j].1 = true then (b.take j).filter (fun e => hasK on true e.1) ++ [b[j]] else (b.take j).filter (fun e => hasK on true e.1) := by
  rw [List.take_succ_eq_append_getElem h, List.filter_append, List.filter_cons, List.filter_nil]
  split
  · rfl
  · rw [List.append_nil]
/-- How far byKey has come. -/
def KeySo (on : List (Int × Int)) (b : List Ent) (w1 : World) (j : Nat) (v : Value) (wr : World) : Prop :=
  (∃ us, us.length ≤ j ∧ wr.ownsRow w1.heap.size 41 2 v us.length (es us) ∧ Reads w1 us ((b.take j).filter (fun e => hasK on true e.1))) ∧ Below w1.heap.size w1 wr
set_option maxHeartbeats 4000000 in
theorem jcByKey (on : List (Int × Int)) (b : List Ent) (ov vb : Value) (w : World) (ho : PairsIs w ov on) (hb : EntsIs w vb b) (hn : b.length ≤ 65536) :
    Calls Tryz.prog 38 #[ov, vb] w fun e w' => ∃ v S, e = .returned v ∧ ByKey on b S ∧ EntsIs w' v S ∧ Below w.heap.size w w' := by
  obtain ⟨i0, hi, hz0, hz1, hz2⟩ := info_parts info_entry
  obtain ⟨ao, co, rfl⟩ := ho.form
  obtain ⟨a0, cap, rfl⟩ := hb.form
  obtain ⟨w1, hw1⟩ : ∃ w1, w1 = w.alloc (.cells #[.slice ao on.length co] 29) := ⟨_, rfl⟩
  have b1 : Below w.heap.size w w1 := by rw [hw1]; exact one_box
  have cb : w1.cell? ⟨w.heap.size, 0, none⟩ = some (.slice ao on.length co) := by rw [hw1, World.cell?_alloc_at _ _ _ _ rfl]; rfl
  have hsz : w1.heap.size = w.heap.size + 1 := by rw [hw1]; simp
  have Ho : Hid (PairsIs w1 (.slice ao on.length co) on) := ho.on b1
  have Hb : Hid (EntsIs w1 (.slice a0 b.length cap) b) := hb.on b1
  have HB1 : Hid (Below w.heap.size w w1) := b1
  have HCB : Hid (w1.cell? ⟨w.heap.size, 0, none⟩ = some (.slice ao on.length co)) := cb
  have F0 : Hid (KeySo on b w1 0 (.slice none 0 0) w1) := ⟨⟨[], Nat.le_refl _, World.ownsRow_nil _ _ _ _, by rw [List.take_zero]; exact Reads.nil _⟩, Below.refl _ _⟩
  have HW1 : Hid (w.alloc (.cells #[.slice ao on.length co] 29) = w1) := hw1.symm
  have HS : Hid (w1.heap.size = w.heap.size + 1) := hsz
  clear ho hb b1 cb hw1 hsz
  go_enter Tryz.func38, Tryz.ntmps38
  go_wp2_with fail
  rw [HW1.out]
  clear HW1
  go_loopw [5, 10] (fun v i wr => ∃ j : Nat, j ≤ b.length ∧ i = .int .i64 j ∧ Hid (KeySo on b w1 j v wr)) (fun _ i _ => b.length - (intOf i).toNat)
  case atStart => exact ⟨0, by omega, rfl, F0.out⟩
  case round =>
    clear F0
    obtain ⟨j, hj, rfl, hS⟩ := hrel
    by_cases k1 : j < b.length
    · have I1 : (j : Int) < (b.length : Int) := by omega
      obtain ⟨⟨us, hu, s1, s2⟩, s3⟩ := hS.out
      obtain ⟨bb, o, a1, c1, rfl, x1, x2, x3⟩ := (Hb.out.on s3).at j k1
      obtain ⟨bb', o', a1', c1', eb, y1, y2, y3⟩ := Hb.out.at j k1
      obtain ⟨rfl, rfl⟩ : bb = bb' ∧ o = o' := by simpa using eb
      have ey := cell_on y1 s3
      rw [x1] at ey
      obtain ⟨rfl, rfl⟩ : a1 = a1' ∧ c1 = c1' := by simpa using ey
      have hcb := cell_on HCB.out s3
      obtain ⟨W, hW⟩ : ∃ W, W = wr.alloc (.cells #[.slice a1 b[j].1.length c1, .int .i64 b[j].2] 41) := ⟨_, rfl⟩
      have hbW : Below wr.heap.size wr W := by rw [hW]; exact one_box
      have BW : Hid (Below w1.heap.size w1 W) := s3.trans (hbW.mono s3.size)
      have z1 : W.cell? ⟨wr.heap.size, 0, none⟩ = some (.slice a1 b[j].1.length c1) := by rw [hW, World.cell?_alloc_at _ _ _ _ (by simp)]; rfl
      have z2 : W.cell? ⟨wr.heap.size, 1, none⟩ = some (.int .i64 b[j].2) := by rw [hW, World.cell?_alloc_at _ _ _ _ (by simp)]; rfl
      have hcW := cell_on hcb hbW
      have q1 := jcHas on true b[j].1 (.slice ao on.length co) (.slice a1 b[j].1.length c1) W (Ho.out.on BW.out) (x3.on hbW)
      obtain ⟨av, cav, rfl⟩ := own_form s1
      have HW : Hid (wr.alloc (.cells #[.slice a1 b[j].1.length c1, .int .i64 b[j].2] 41) = W) := hW.symm
      have e1 : sdN true = 1 := rfl
      rw [e1] at q1
      cases hin : hasK on true b[j].1 with
      | true =>
        rw [hin] at q1
        have FA : Hid (∀ w6, Below W.heap.size W w6 → w6.cell? ⟨wr.heap.size, 0, none⟩ = some (.slice a1 b[j].1.length c1) ∧ w6.cell? ⟨wr.heap.size, 1, none⟩ = some (.int .i64 b[j].2) ∧ w6.ownsRow w1.heap.size 41 2 (.slice av us.length cav) us.length (es us) ∧ w1.heap.size ≤ w6.heap.size ∧
            ∀ v8 w8, w8.ownsRow w1.heap.size 41 2 v8 (us.length + 1) (es us ++ ec (.slice a1 b[j].1.length c1, b[j].2)) → (w6.alloc (.cells #[.slice a1 b[j].1.length c1, .int .i64 b[j].2] 41)).grownBy w8 (Value.ownBlock (.slice av us.length cav)) → KeySo on b w1 (j + 1) v8 w8) := by
          intro w6 h6
          have hb6 := BW.out.trans (h6.mono BW.out.size)
          have o6 := own_on (own_on s1 hbW) h6
          refine ⟨cell_on z1 h6, cell_on z2 h6, o6, hb6.size, fun v8 w8 g1 g2 => ⟨⟨us ++ [(.slice a1 b[j].1.length c1, b[j].2)], by simp; omega, by rw [List.length_append, es_snoc]; exact g1, ?_⟩, ?_⟩⟩
          · rw [has_snoc k1, if_pos hin]; exact s2.snoc y3 _
          · exact (hb6.alloc (by have := hb6.size; omega) _).grown g2 (by have := hb6.size; simp; omega) (fun k e => (o6.lt k e).1)
        rw [hW] at z1 hcW
        clear hS s1 s2 s3 x3 y1 y2 y3 eb ey hbW hW hin z2
        generalize b[j].1.length = n1 at *
        generalize b[j].2 = i1 at *
        go_wp2_with fail
        rw [HW.out]
        refine q1.mono ?_
        rintro e w6 ⟨rfl, h6⟩
        obtain ⟨d1, d2, O6, Z6, FB⟩ := FA.out w6 h6
        have HFB : Hid _ := FB
        have HO6 : Hid (w6.ownsRow w1.heap.size 41 2 (.slice av us.length cav) us.length (es us)) := O6
        clear FA h6 q1 z1 hcW hcb FB O6
        go_wp2_with (first | (at_builtin; refine wpList_append_own _ rfl _ _ 27 rfl w1.heap.size 41 i0 (.agg #[.slice none 0 0, .int .i64 0]) 2 32 Tryz.underlying27 hi hz0 hz1 hz2 rfl (by decide) _ us.length (es us) rfl (own_on HO6.out one_box) ⟨w6.heap.size, 0, none⟩ 1 1 (ec (.slice a1 n1 c1, i1)) rfl rfl (cell_two_new _ _ _ _) (by simp [ec, Value.oneCell']) (by unfold maxLen; omega) (by omega) (by simp; omega) ?_; intro v8 w8 hown8 hg8 _; have HF : Hid (KeySo on b w1 (j + 1) v8 w8) := HFB.out v8 w8 hown8 hg8; clear hown8 hg8 HFB HO6) | fail)
        go_roundw
        case rel => exact ⟨j + 1, by omega, by go_num, HF.out⟩
        case measure => simp [intOf]; omega
      | false =>
        rw [hin] at q1
        have FA : Hid (∀ w6, Below W.heap.size W w6 → KeySo on b w1 (j + 1) (.slice av us.length cav) w6) := by
          intro w6 h6
          refine ⟨⟨us, by omega, own_on (own_on s1 hbW) h6, ?_⟩, BW.out.trans (h6.mono BW.out.size)⟩
          rw [has_snoc k1, if_neg (by rw [hin]; decide)]; exact s2
        rw [hW] at z1 hcW
        clear hS s1 s2 s3 x3 y1 y2 y3 eb ey hbW hW hin z2
        generalize b[j].1.length = n1 at *
        generalize b[j].2 = i1 at *
        go_wp2_with fail
        rw [HW.out]
        refine q1.mono ?_
        rintro e w6 ⟨rfl, h6⟩
        have hf : Hid _ := FA.out w6 h6
        clear FA h6 q1 z1 hcW hcb
        go_wp2_with fail
        go_roundw
        case rel => exact ⟨j + 1, by omega, by go_num, hf.out⟩
        case measure => simp [intOf]; omega
    · have I1 : ¬ (j : Int) < (b.length : Int) := by omega
      obtain rfl : j = b.length := by omega
      obtain ⟨⟨us, hu, s1, s2⟩, s3⟩ := hS.out
      rw [List.take_length] at s2
      have HP : Hid (∀ (e : Ending) (w' : World), (e = .returned (.tuple #[]) ∧ ∃ l' : List Ent, l'.Perm (b.filter (fun e => hasK on true e.1)) ∧ l'.Pairwise (fun x y => cR (keyed on x.1) (keyed on y.1) ≤ 0) ∧ EntsIs w' u5 l' ∧ Below w1.heap.size w1 w') → ∃ S, ByKey on b S ∧ EntsIs w' u5 S ∧ Below w.heap.size w w') := by
        rintro e w' ⟨rfl, l', p1, p2, p3, p4⟩
        exact ⟨l', ⟨p1, p2⟩, p3, HB1.out.trans (p4.mono HB1.out.size)⟩
      have q : Hid (Calls Tryz.prog 57 #[u5, .func (.func 58) #[] #[.pointer (some ⟨w.heap.size, 0, none⟩)]] wr fun e w' => e = .returned (.tuple #[]) ∧ ∃ l' : List Ent, l'.Perm (b.filter (fun e => hasK on true e.1)) ∧ l'.Pairwise (fun x y => cR (keyed on x.1) (keyed on y.1) ≤ 0) ∧ EntsIs w' u5 l' ∧ Below w1.heap.size w1 w') := by
        obtain ⟨av, cav, rfl⟩ := own_form s1
        by_cases h0 : us.length = 0
        · have hl : b.filter (fun e => hasK on true e.1) = [] := List.eq_nil_of_length_eq_zero (by rw [← s2.1]; exact h0)
          rw [hl, h0]
          have q := AnyF.slices_SortFunc_none Tryz.sortEnt av cav (.func (.func 58) #[] #[.pointer (some ⟨w.heap.size, 0, none⟩)]) wr
          change Calls Tryz.prog 57 _ _ _ at q
          refine q.mono ?_
          rintro e w' ⟨rfl, rfl⟩
          exact ⟨rfl, [], List.Perm.nil, List.Pairwise.nil, EntsIs.nil _ _ _, s3⟩
        · obtain ⟨g, rfl⟩ : ∃ g, av = some ⟨g, 0, none⟩ := by
            rcases s1.2 with ⟨e1, e2⟩ | ⟨g, c, cur, e, _⟩
            · exact absurd e2 h0
            · simp only [Value.slice.injEq] at e; exact ⟨g, e.1⟩
          have hl0 : 0 < (b.filter (fun e => hasK on true e.1)).length := by rw [← s2.1]; omega
          have hP : ∀ e ∈ b.filter (fun e => hasK on true e.1), hasK on true e.1 = true := fun e he => by simpa using (List.mem_filter.1 he).2
          exact jSortAt us (b.filter (fun e => hasK on true e.1)) (us[0]'(by omega)) ((b.filter (fun e => hasK on true e.1))[0]'hl0) 58 #[.pointer (some ⟨w.heap.size, 0, none⟩)] (keyed on) (fun r => hasK on true r = true) w1 wr g cav s3 s2 (s2.2 0 (by omega) hl0) ⟨hP _ (List.getElem_mem hl0), hP⟩ (enters_of Tryz.func58 (by kernel_rfl) rfl) (fun _ => True) (fun _ _ => trivial)
            (fun V hV _ x y a0 b0 cap cap' i k px py hx hy => jcKeyFn on x y a0 b0 cap cap' i k w.heap.size _ V (Ho.out.on hV) (cell_on HCB.out hV) hx hy px py) (Nat.le_trans (List.length_filter_le _ _) hn) s1
      clear hS s1 s2 s3 hu
      go_wp2_with fail
      refine q.out.mono ?_
      rintro e w' hq
      have HQ : Hid _ := HP.out e w' hq
      obtain ⟨rfl, _⟩ := hq
      clear q HP
      go_wp2_with fail
      go_ret
      obtain ⟨S, h1, h2, h3⟩ := HQ.out
      exact ⟨_, S, rfl, h1, h2, h3⟩
end Go.Proofs.YtlafokjkpbhckaaGreatDoor
