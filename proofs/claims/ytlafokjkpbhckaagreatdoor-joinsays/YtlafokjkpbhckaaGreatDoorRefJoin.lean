/- What the document's own Join answers of pairs and entries in memory. -/
import Derived.Test.YtlafokjkpbhckaaGreatDoorJnSettle
import Derived.Test.YtlafokjkpbhckaaGreatDoorPackFits
import Derived.Test.YtlafokjkpbhckaaGreatDoorPackCat
import Derived.Test.YtlafokjkpbhckaaGreatDoorZDrop
import Derived.Test.YtlafokjkpbhckaaGreatDoorOrd
namespace Go.Proofs.YtlafokjkpbhckaaGreatDoor
open Go.RowKit Go.Sort
set_option maxRecDepth 100000
set_option linter.unusedVariables false

theorem rj_ord8 : ordOk (regOf Tryz.f8.body 8) ((0, true) :: (1, true) :: (2, true) :: (3, true) :: (4, true) :: (5, true) :: (6, true) :: (7, true) :: (8, true) :: (9, true) :: (10, true) :: (11, false) :: []) = true := by kernel_rfl
theorem rj_ord9 : ordOk (regOf Tryz.f8.body 9) ((0, true) :: (1, true) :: (2, true) :: (3, true) :: (4, true) :: (5, true) :: (7, true) :: (8, true) :: (9, true) :: (10, true) :: (11, true) :: (13, true) :: (14, true) :: (15, true) :: (16, true) :: (17, true) :: (18, true) :: (19, true) :: (20, true) :: (21, true) :: (22, true) :: (6, false) :: (12, false) :: (23, false) :: (24, true) :: (25, false) :: (26, false) :: (27, true) :: []) = true := by kernel_rfl
theorem OwnRows.grownS {base base' : Nat} {w w' : World} {us : List VEnt} {l : List Ent} {v : Value} {n : Nat} {xs : List Value} (h : OwnRows base w us l) (ho : w.ownsRow base' 75 4 v n xs) (hg : w.grownBy w' v.ownBlock) : OwnRows base w' us l := by
  refine ⟨h.1, fun i h1 h2 => ⟨?_, (h.2 i h1 h2).2⟩⟩
  have hr := (h.2 i h1 h2).1
  cases hv : v.ownBlock with
  | none =>
    rw [hv] at hg
    exact hr.kept hg (by cases e : us[i].1.ownBlock with | none => exact .inl rfl | some k => exact .inr (by simp))
  | some g =>
    rw [hv] at hg
    exact hr.kept hg (.inr (own_ne_types hr ho (by decide) g hv))
theorem inW_mul {u v : Int} (hu : inI u = true) (hv : inI v = true) : inW (u * v) := by
  rw [inI_iff] at hu hv
  have h1 : u.natAbs ≤ 9223372036854775808 := by omega
  have h2 : v.natAbs ≤ 9223372036854775808 := by omega
  have h3 := Nat.mul_le_mul h1 h2
  rw [← Int.natAbs_mul] at h3
  unfold inW
  omega
/-- Sums so far: a list of the call's own, its rows the call's own. -/
def SumTo (L : List Ent) (w : World) (v : Value) (wr : World) : Prop := ∃ vs, OwnS w.heap.size wr v vs ∧ OwnRows w.heap.size wr vs L ∧ Below w.heap.size w wr
/-- Joined, and whether it may be. -/
def jnC (on : List (Int × Int)) (a b : List Ent) : Int := if okZ (jnP on a b) then 0 else 107
set_option maxHeartbeats 8000000 in
theorem refJoin (on : List (Int × Int)) (a b : List Ent) (ov va vb : Value) (w : World) (hN : a.length * b.length ≤ 65536) (hA : EOk a) (hB : EOk b) (ho : PairsIs w ov on) (ha : EntsIs w va a) (hb : EntsIs w vb b) :
    Calls Tryz.prog 8 #[ov, va, vb] w fun e w' => ∃ v, e = .returned (.tuple #[v, .int .i64 (jnC on a b)]) ∧ EntsNew w.heap.size (mkZ (jnP on a b)) v w' ∧ Below w.heap.size w w' := by
  obtain ⟨i0, hi, hz0, hz1, hz2⟩ := info_parts info_sum
  obtain ⟨aa, ca, rfl⟩ := ha.form
  obtain ⟨ab, cb, rfl⟩ := hb.form
  have la := ha.le
  have lb := hb.le
  unfold maxLen at la lb
  have Ho : Hid (PairsIs w ov on) := ho
  have Ha : Hid (EntsIs w (.slice aa a.length ca) a) := ha
  have Hb : Hid (EntsIs w (.slice ab b.length cb) b) := hb
  have HA : Hid (EOk a) := hA
  have HB : Hid (EOk b) := hB
  have HN : Hid (a.length * b.length ≤ 65536) := hN
  have F0 : Hid (SumTo (jnP on (a.take 0) b) w (.slice none 0 0) w) := ⟨[], World.ownsRow_nil _ _ _ _, ⟨by simp [jnP], fun i h => by simp at h⟩, Below.refl _ _⟩
  clear ho ha hb hA hB hN
  go_enter Tryz.func8, Tryz.ntmps8
  go_wp2_with fail
  go_loopw [8, 9] (fun v i wr => ∃ j : Nat, j ≤ a.length ∧ i = .int .i64 j ∧ Hid (SumTo (jnP on (a.take j) b) w v wr)) (fun _ i _ => a.length - (intOf i).toNat)
  case atStart => exact ⟨0, by omega, rfl, F0.out⟩
  case round =>
    clear F0
    obtain ⟨j, hj, rfl, hS⟩ := hrel
    by_cases k1 : j < a.length
    · have I1 : (j : Int) < (a.length : Int) := by omega
      obtain ⟨ba, oa, ar, cr, rfl, xa1, xa2, xa3⟩ := Ha.out.at j k1
      have HJ : Hid (jnP on (a.take (j + 1)) b = jnP on (a.take j) b ++ jnR on a[j] b) := jnP_take on b k1
      have HL : Hid (∀ q, (jnP on (a.take j) b ++ jnR on a[j] (b.take q)).length ≤ 65536) := fun q => by
        have h1 := jnP_len on b (a.take j)
        have h2 := jnR_len on a[j] (b.take q)
        have h3 : (a.take j).length * b.length + b.length ≤ a.length * b.length := by
          rw [← Nat.succ_mul]; exact Nat.mul_le_mul_right _ (by rw [List.length_take]; omega)
        have h4 := HN.out
        rw [List.length_take] at h2
        rw [List.length_append]
        omega
      have HXR : Hid (RowIs w (.slice ar a[j].1.length cr) a[j].1) := xa3
      have hxo := HA.out _ (List.getElem_mem k1)
      have HXO : Hid (inI a[j].2 = true ∧ a[j].1.length ≤ 65536) := hxo
      have XA : Hid (w.cell? ⟨ba, oa + j * 2, none⟩ = some (.slice ar a[j].1.length cr) ∧ w.cell? ⟨ba, oa + j * 2 + 1, none⟩ = some (.int .i64 a[j].2)) := ⟨xa1, xa2⟩
      have F1 : Hid (SumTo (jnP on (a.take j) b ++ jnR on a[j] (b.take 0)) w u8 wr) := by
        show SumTo _ _ _ _
        rw [List.take_zero, show jnR on a[j] [] = [] from rfl, List.append_nil]; exact hS.out
      clear hS xa1 xa2 xa3 hxo
      generalize jnP on (a.take j) b = L0 at *
      generalize a[j] = x at *
      go_wp2_with fail
      go_loopw [8, 10] (fun v k wr => ∃ q : Nat, q ≤ b.length ∧ k = .int .i64 q ∧ Hid (SumTo (L0 ++ jnR on x (b.take q)) w v wr)) (fun _ k _ => b.length - (intOf k).toNat)
      case atStart => exact ⟨0, by omega, rfl, F1.out⟩
      case round =>
        clear F1
        obtain ⟨q, hq, rfl, hS⟩ := hrel
        by_cases k2 : q < b.length
        · have I2 : (q : Int) < (b.length : Int) := by omega
          have I3 : (0 : Int) ≤ (q : Int) := by omega
          have I4 : (0 : Int) ≤ (j : Int) := by omega
          obtain ⟨bb, ob, br, dr, rfl, xb1, xb2, xb3⟩ := Hb.out.at q k2
          have HQ : Hid (jnR on x (b.take (q + 1)) = jnR on x (b.take q) ++ (if fitP on x.1 b[q].1 = true then [(x.1 ++ b[q].1, x.2 * b[q].2)] else [])) := jnR_take on x k2
          have hyo := HB.out _ (List.getElem_mem k2)
          obtain ⟨vs, s1, s2, s3⟩ := hS.out
          have hvl : vs.length ≤ 65536 := by rw [s2.1]; exact HL.out q
          obtain ⟨av, cv, hav⟩ := s1.form
          subst hav
          have HF : Hid (∀ V, Below w.heap.size w V → Calls Tryz.prog 10 #[ov, .slice ar x.1.length cr, .slice br b[q].1.length dr] V fun e w' => e = .returned (.bool (fitP on x.1 b[q].1)) ∧ Below V.heap.size V w') := fun V hV => refFits on x.1 b[q].1 _ _ _ V (Ho.out.on hV) (HXR.out.on hV) (xb3.on hV)
          have HYR : Hid (RowIs w (.slice br b[q].1.length dr) b[q].1) := xb3
          have HYO : Hid (inI b[q].2 = true ∧ b[q].1.length ≤ 65536) := hyo
          have XB : Hid (w.cell? ⟨bb, ob + q * 2, none⟩ = some (.slice br b[q].1.length dr) ∧ w.cell? ⟨bb, ob + q * 2 + 1, none⟩ = some (.int .i64 b[q].2)) := ⟨xb1, xb2⟩
          have S1 : Hid (OwnS w.heap.size wr (.slice av vs.length cv) vs) := s1
          have S2 : Hid (OwnRows w.heap.size wr vs (L0 ++ jnR on x (b.take q))) := s2
          have S3 : Hid (Below w.heap.size w wr) := s3
          clear hS s1 s2 s3 xb1 xb2 xb3 hyo
          generalize b[q] = y at *
          generalize jnR on x (b.take q) = L1 at *
          have g0 := Ex.cell XA.out.1
          have g1 := Ex.cell XB.out.1
          have ne := Ex.ne w
          have BD : Hid (Below wr.heap.size wr wr.drew) := (Below.refl _ _).drew
          go_wp2_with fail
          refine wp_region_ord_at (Ex w) (regOf Tryz.f8.body 8) ((0, true) :: (1, true) :: (2, true) :: (3, true) :: (4, true) :: (5, true) :: (6, true) :: (7, true) :: (8, true) :: (9, true) :: (10, true) :: (11, false) :: []) (by kernel_rfl) (by kernel_rfl) rj_ord8 (S3.out.trans (BD.out.mono S3.out.size)) ?_
          generalize wr.drew = v0 at *
          have B0 : Hid (Below w.heap.size w v0) := S3.out.trans (BD.out.mono S3.out.size)
          repeat (refine ord_quiet rfl ?_; go_big_quiet_step (fail); refine wpQuiet_nil ?_)
          refine ord_call rfl (by rfl) 10 rfl (enters_of Tryz.func10 (by kernel_rfl) rfl) [ov, .slice ar x.1.length cr, .slice br y.1.length dr] (by rfl) _ (HF.out v0 B0.out) ?_
          rintro e v1 ⟨rfl, hb1⟩
          have B1 : Hid (Below wr.heap.size wr v1) := BD.out.trans (hb1.mono BD.out.size)
          have B1w : Hid (Below w.heap.size w v1) := S3.out.trans (B1.out.mono S3.out.size)
          clear hb1
          refine ⟨_, rfl, Ex.of B1w.out, ?_⟩
          simp only [Act.put, List.setIfInBounds_toArray, List.set_cons_zero, List.set_cons_succ]
          refine ord_end ?_
          have T1 : Hid (OwnS w.heap.size v1 (.slice av vs.length cv) vs) := S1.out.on B1.out
          have T2 : Hid (OwnRows w.heap.size v1 vs (L0 ++ L1)) := S2.out.on B1.out
          clear HF g0 g1 ne BD B0 S1 S2 S3 B1
          by_cases hf : fitP on x.1 y.1 = true
          · have HQ2 : Hid (jnR on x (b.take (q + 1)) = L1 ++ [(x.1 ++ y.1, x.2 * y.2)]) := by show _ = _; rw [HQ.out, if_pos hf]
            rw [hf]
            have HR : Hid (∀ V, Below w.heap.size w V → Calls Tryz.prog 23 #[.slice ar x.1.length cr] V fun e w' => ∃ v, e = .returned v ∧ w'.ownsRow V.heap.size 46 3 v x.1.length (rc x.1) ∧ Below V.heap.size V w') := fun V hV => refRowO x.1 _ V (by have := HXO.out.2; omega) (HXR.out.on hV)
            have HT : Hid (∀ V, Calls Tryz.prog 24 #[.int .i64 x.2, .int .i64 y.2] V fun e w' => e = .returned (wV (x.2 * y.2)) ∧ Below V.heap.size V w') := fun V => refTimes x.2 y.2 (inI_iff.1 HXO.out.1) (inI_iff.1 HYO.out.1) V
            unfold wV at HT
            have FA : Hid (∀ W7 v7 base7 v9 w9, Below v1.heap.size v1 W7 → v1.heap.size ≤ base7 → W7.ownsRow base7 46 3 v7 (x.1 ++ y.1).length (rc (x.1 ++ y.1)) → w9.ownsRow w.heap.size 75 4 v9 (vs.length + 1) (ss vs ++ [v7, .int .u64 (wHi (x.2 * y.2)), .int .u64 (wMid (x.2 * y.2)), .int .u64 (wLo (x.2 * y.2))]) → (W7.alloc (.cells #[v7, .int .u64 (wHi (x.2 * y.2)), .int .u64 (wMid (x.2 * y.2)), .int .u64 (wLo (x.2 * y.2))] 75)).grownBy w9 (Value.ownBlock (.slice av vs.length cv)) → SumTo (L0 ++ jnR on x (b.take (q + 1))) w v9 w9) := by
              intro W7 v7 base7 v9 w9 h7 hb7 g7 g9 hg9
              have o7 := T1.out.on h7
              have r7 := T2.out.on h7
              have hz := B1w.out.size
              have b7 := B1w.out.trans (h7.mono hz)
              refine ⟨vs ++ [(v7, x.2 * y.2)], ?_, ?_, ?_⟩
              · unfold OwnS; rw [ss_snoc, List.length_append]; exact g9
              · rw [HQ2.out, ← List.append_assoc]
                exact OwnRows.grownS (OwnRows.snoc (r7.on one_box) (own_on (own_mono g7 (by omega)) one_box) (x.2 * y.2)) (own_on o7 one_box) hg9
              · exact (b7.alloc b7.size _).grown hg9 (by have := b7.size; simp; omega) (fun k e => (o7.lt k e).1)
            generalize wHi (x.2 * y.2) = thi at *
            generalize wMid (x.2 * y.2) = tmid at *
            generalize wLo (x.2 * y.2) = tlo at *
            have g0 := Ex.cell XA.out.1
            have g1 := Ex.cell XB.out.1
            have g2 := Ex.cell XA.out.2
            have g3 := Ex.cell XB.out.2
            have ne := Ex.ne w
            have BD : Hid (Below v1.heap.size v1 v1.drew) := (Below.refl _ _).drew
            clear hf HQ HQ2
            go_wp2_with fail
            refine wp_region_ord_at (Ex w) (regOf Tryz.f8.body 9) ((0, true) :: (1, true) :: (2, true) :: (3, true) :: (4, true) :: (5, true) :: (7, true) :: (8, true) :: (9, true) :: (10, true) :: (11, true) :: (13, true) :: (14, true) :: (15, true) :: (16, true) :: (17, true) :: (18, true) :: (19, true) :: (20, true) :: (21, true) :: (22, true) :: (6, false) :: (12, false) :: (23, false) :: (24, true) :: (25, false) :: (26, false) :: (27, true) :: []) (by kernel_rfl) (by kernel_rfl) rj_ord9 (B1w.out.trans (BD.out.mono B1w.out.size)) ?_
            generalize v1.drew = v2 at *
            have B2w : Hid (Below w.heap.size w v2) := B1w.out.trans (BD.out.mono B1w.out.size)
            repeat (refine ord_quiet rfl ?_; go_big_quiet_step (fail); refine wpQuiet_nil ?_)
            refine ord_call rfl (by rfl) 23 rfl (enters_of Tryz.func23 (by kernel_rfl) rfl) [.slice ar x.1.length cr] (by rfl) _ (HR.out v2 B2w.out) ?_
            rintro e v3 ⟨t3, rfl, g5, hb3⟩
            have B3 : Hid (Below v2.heap.size v2 v3) := hb3
            have B3w : Hid (Below w.heap.size w v3) := B2w.out.trans (hb3.mono B2w.out.size)
            clear hb3
            refine ⟨_, rfl, Ex.of B3w.out, ?_⟩
            simp only [Act.put, List.setIfInBounds_toArray, List.set_cons_zero, List.set_cons_succ]
            repeat (refine ord_quiet rfl ?_; go_big_quiet_step (fail); refine wpQuiet_nil ?_)
            refine ord_loud rfl ?_
            intro K hK
            refine step_append_row _ rfl _ _ rfl v2.heap.size t3 _ x.1 y.1 rfl g5 rfl (HYR.out.on B3w.out) (by have := HXO.out.2; have := HYO.out.2; omega) B3.out.size ?_
            intro t4 v4 g6 gg
            have B4 : Hid (Below v2.heap.size v2 v4) := B3.out.grown gg B3.out.size (fun k e => (g5.lt k e).1)
            have B4w : Hid (Below w.heap.size w v4) := B2w.out.trans (B4.out.mono B2w.out.size)
            refine hK _ _ (Ex.of B4w.out) ?_
            clear hK gg g5
            generalize x.1 ++ y.1 = R at *
            simp only [Act.put, List.setIfInBounds_toArray, List.set_cons_zero, List.set_cons_succ]
            repeat (refine ord_quiet rfl ?_; go_big_quiet_step (fail); refine wpQuiet_nil ?_)
            refine ord_call rfl (by rfl) 24 rfl (enters_of Tryz.func24 (by kernel_rfl) rfl) [.int .i64 x.2, .int .i64 y.2] (by rfl) _ (HT.out v4) ?_
            rintro e v5 ⟨rfl, hb5⟩
            have B5 : Hid (Below v2.heap.size v2 v5) := B4.out.trans (hb5.mono B4.out.size)
            have B5w : Hid (Below w.heap.size w v5) := B2w.out.trans (B5.out.mono B2w.out.size)
            have g7 := own_on g6 hb5
            clear hb5 g6
            obtain ⟨a4, c4, rfl⟩ := own_form g7
            refine ⟨_, rfl, Ex.of B5w.out, ?_⟩
            simp only [Act.put, List.setIfInBounds_toArray, List.set_cons_zero, List.set_cons_succ]
            repeat (refine ord_quiet rfl ?_; go_big_quiet_step (fail); refine wpQuiet_nil ?_)
            refine ord_loud rfl ?_
            intro K hK
            go_simp
            refine hK _ _ (Ex.of (B5w.out.trans (one_box.mono B5w.out.size))) ?_
            clear hK
            have B51 : Below v1.heap.size v1 v5 := BD.out.trans (B5.out.mono BD.out.size)
            have o5 := T1.out.on B51
            refine ord_loud rfl ?_
            intro K hK
            refine step_append_own' _ rfl _ _ 69 rfl w.heap.size 75 i0 (.agg #[.slice none 0 0, .int .u64 0, .int .u64 0, .int .u64 0]) 4 48 Tryz.underlying69 hi hz0 hz1 hz2 rfl (by decide) (.slice av vs.length cv) vs.length (ss vs) rfl (own_on o5 one_box) ⟨v5.heap.size, 0, none⟩ 1 1 [.slice a4 R.length c4, .int .u64 thi, .int .u64 tmid, .int .u64 tlo] rfl rfl (cell_four_new _ _ _ _ _ _) (by simp [Value.oneCell']) (by unfold maxLen; omega) (by omega) (by have := B5w.out.size; simp; omega) ?_
            intro t9 v9 hown9 hg9
            have hfin : Hid (SumTo (L0 ++ jnR on x (b.take (q + 1))) w t9 v9) := FA.out v5 _ v2.heap.size t9 v9 B51 BD.out.size g7 hown9 hg9
            refine hK _ _ (Ex.of hfin.out.choose_spec.2.2) ?_
            clear hK FA HR HT hown9 hg9 g7 o5 B51
            simp only [Act.put, List.setIfInBounds_toArray, List.set_cons_zero, List.set_cons_succ]
            repeat (refine ord_quiet rfl ?_; go_big_quiet_step (fail); refine wpQuiet_nil ?_)
            refine ord_end ?_
            clear g0 g1 g2 g3 ne BD
            go_wp2_with fail
            go_roundw
            case rel => exact ⟨q + 1, by omega, by go_num, hfin.out⟩
            case measure => simp [intOf]; omega
          · have hf' : fitP on x.1 y.1 = false := by simpa using hf
            have hfin : Hid (SumTo (L0 ++ jnR on x (b.take (q + 1))) w (.slice av vs.length cv) v1) := by
              refine ⟨vs, T1.out, ?_, B1w.out⟩
              rw [HQ.out, if_neg hf, List.append_nil]; exact T2.out
            rw [hf']
            clear hf hf' HQ T1 T2
            go_wp2_with fail
            go_roundw
            case rel => exact ⟨q + 1, by omega, by go_num, hfin.out⟩
            case measure => simp [intOf]; omega
        · have I2 : ¬ (q : Int) < (b.length : Int) := by omega
          obtain rfl : q = b.length := by omega
          have h := hS.out
          rw [List.take_length, ← HJ.out] at h
          have hfin : Hid (SumTo (jnP on (a.take (j + 1)) b) w u8 wr) := h
          clear hS h
          go_wp2_with fail
          go_roundw
          case rel => exact ⟨j + 1, by omega, by go_num, hfin.out⟩
          case measure => simp [intOf]; omega
    · have I1 : ¬ (j : Int) < (a.length : Int) := by omega
      obtain rfl : j = a.length := by omega
      obtain ⟨vs, s1, s2, s3⟩ := hS.out
      rw [List.take_length] at s2
      have hl : (jnP on a b).length ≤ 65536 := Nat.le_trans (jnP_len on b a) HN.out
      have q := refSettle (jnP on a b) vs w.heap.size u8 wr (above w.heap.size wr) (fun _ _ h => (row_above h).1) hl (fun e he => by
        obtain ⟨x, hx, y, hy, _, rfl⟩ := jnP_mem he
        exact inW_mul (HA.out x hx).1 (HB.out y hy).1) s1 s2.above.reads (jnC on a b) rfl
      have HW : Hid (Below w.heap.size w wr) := s3
      clear hS s1 s2 s3
      obtain ⟨C, hC⟩ : ∃ C, C = jnC on a b := ⟨_, rfl⟩
      rw [← hC] at q
      have EC : Hid (C = jnC on a b) := hC
      clear hC
      go_wp2_with fail
      refine q.mono ?_
      rintro e w2 ⟨v2, rfl, e2, b2⟩
      have E2 : Hid (EntsNew w.heap.size (mkZ (jnP on a b)) v2 w2 ∧ Below w.heap.size w w2) := ⟨e2.new b2 HW.out.size, HW.out.trans (b2.mono HW.out.size)⟩
      clear q e2 b2
      go_wp2_with fail
      go_ret2
      refine ⟨v2, ?_, E2.out.1, E2.out.2⟩
      rw [← EC.out]; rfl
end Go.Proofs.YtlafokjkpbhckaaGreatDoor
