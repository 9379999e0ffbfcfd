/- What zset.firstRow and zset.Make answer. -/
import Derived.Test.YtaccinophamgmaaDoorPackPut
import Derived.Test.YtaccinophamgmaaDoorPackDrop
import Derived.Test.YtaccinophamgmaaDoorPackPlain
import Derived.Test.YtaccinophamgmaaDoorZSort
namespace Go.Proofs.YtaccinophamgmaaDoor
open Go.RowKit Go.Sort
set_option maxRecDepth 100000

/-- The first ones are of the first one's row, the next is not. -/
def Upto (l : List Ent) (r : List Val) (k : Nat) : Prop := (∀ i (h : i < l.length), i < k → l[i].1 = r) ∧ ∀ (h : k < l.length), l[k].1 ≠ r
theorem wt_take_in {l : List Ent} {r : List Val} {j : Nat} (h : j < l.length) (he : l[j].1 = r) : wt r (l.take (j + 1)) = wt r (l.take j) + l[j].2 := by
  rw [List.take_succ_eq_append_getElem h, wt_append]; simp [wt, he]
/-- Where firstRow ends. -/
def FirstAt (l : List Ent) (r : List Val) (w : World) (e : Ending) (w' : World) : Prop := ∃ k : Nat, 0 < k ∧ k ≤ l.length ∧ e = .returned (.tuple #[.int .i64 k, .agg #[.int .i64 (tHi (wt r (l.take k))), .int .u64 (wLo (wt r (l.take k)))]]) ∧ Upto l r k ∧ Below w.heap.size w w'
/-- How far firstRow has come. -/
def FirstTo (l : List Ent) (r : List Val) (w : World) (j : Nat) (wr : World) : Prop := j ≤ l.length ∧ Hid (∀ i (h : i < l.length), i < j → l[i].1 = r) ∧ TotAt (w.heap.size + 1) (wt r (l.take j)) wr ∧ Below w.heap.size w wr ∧ TotAt w.heap.size 0 wr
set_option maxHeartbeats 4000000 in
theorem zFirstRow (x : Ent) (m l : List Ent) (hl : l = x :: m) (va : Value) (w : World) (hn : l.length ≤ 65536) (hk : ∀ e ∈ l, inI e.2 = true) (ha : EntsIs w va l) :
    Calls Tryd.prog 50 #[va] w fun e w' => FirstAt l x.1 w e w' := by
  obtain ⟨a0, cap, rfl⟩ := ha.form
  have hpos : 0 < l.length := by rw [hl]; simp
  have h0 : ∀ h : 0 < l.length, l[0] = x := fun h => by subst hl; rfl
  have Ha : Hid (EntsIs w (.slice a0 l.length cap) l) := ha
  have Hk : Hid (∀ e ∈ l, inI e.2 = true) := hk
  have H0 : Hid (∀ h : 0 < l.length, l[0] = x) := h0
  have F0 : Hid (FirstTo l x.1 w 0 ((w.alloc (.cells #[.int .i64 0, .int .u64 0] 94)).alloc (.cells #[.int .i64 0, .int .u64 0] 94))) := by
    refine ⟨Nat.zero_le _, fun i _ h => by omega, ?_, below_two, (tot_new 0 w).on one_box⟩
    have h := tot_new 0 (w.alloc (.cells #[.int .i64 0, .int .u64 0] 94))
    rw [show (w.alloc (.cells #[.int .i64 0, .int .u64 0] 94)).heap.size = w.heap.size + 1 by simp] at h
    rw [List.take_zero]
    exact h
  clear ha hk h0 hl
  go_enter Tryd.func50, Tryd.ntmps50
  go_wp2_with fail
  go_loopw [4] (fun i wr => ∃ j : Nat, i = .int .i64 j ∧ FirstTo l x.1 w j wr) (fun i _ => l.length - (intOf i).toNat)
  case atStart => exact ⟨0, rfl, F0.out⟩
  case round =>
    clear F0
    obtain ⟨j, rfl, h1, h2, h3, h4, h5⟩ := hrel
    have T3 : Hid (TotAt (w.heap.size + 1) (wt x.1 (l.take j)) wr) := h3
    have T5 : Hid (TotAt w.heap.size 0 wr) := h5
    have B4 : Hid (Below w.heap.size w wr) := h4
    clear h3 h4 h5
    by_cases hlt : j < l.length
    · obtain ⟨b, o, a1, c1, rfl, x1, x2, x3⟩ := (Ha.out.on B4.out).at j hlt
      obtain ⟨b', o', a2, c2, e2, y1, y2, y3⟩ := (Ha.out.on B4.out).at 0 hpos
      simp only [Option.some.injEq, Addr.mk.injEq, and_true] at e2
      obtain ⟨rfl, rfl⟩ := e2
      rw [H0.out hpos] at y1 y3
      simp only [Nat.zero_mul, Nat.add_zero] at y1
      have I1 : (j : Int) < (l.length : Int) := by omega
      have q : Hid (∀ d os, Calls Tryd.prog 49 #[.slice a1 l[j].1.length c1, .slice a2 x.1.length c2] (grow (redrawn wr d) os) fun e w'' => e = .returned (.int .i64 (cR l[j].1 x.1)) ∧ ∃ p : Regrown, w'' = grow (redrawn wr p.d) p.os) :=
        fun d os => Calls.regrown_of (rowCompare l[j].1 x.1 _ _ _ (x3.on (below_regrown wr d os)) (y3.on (below_regrown wr d os)))
      have g1 := fun d os => cell_regrown x1 d os
      have g3 := fun d os => cell_regrown y1 d os
      have hwk := Hk.out _ (List.getElem_mem hlt)
      by_cases hc : cR l[j].1 x.1 = 0
      · have HW : Hid (wt x.1 (l.take (j + 1)) = wt x.1 (l.take j) + l[j].2) := wt_take_in hlt ((cR_zero _ _).1 hc)
        have HA : Hid (∀ i (h : i < l.length), i < j + 1 → l[i].1 = x.1) := fun i hi hij => by
          by_cases e : i = j
          · subst e; exact (cR_zero _ _).1 hc
          · exact h2.out i hi (by omega)
        have hbd := wt_bound x.1 (l.take j) (fun e he => Hk.out e (List.mem_of_mem_take he))
        have hll : (l.take j).length = j := by rw [List.length_take]; omega
        rw [hll] at hbd
        have qA : Hid (∀ W, TotAt (w.heap.size + 1) (wt x.1 (l.take j)) W → Calls Tryd.prog 53 #[.pointer (some ⟨w.heap.size + 1, 0, none⟩), .int .i64 l[j].2] W fun e w' => e = .returned (.tuple #[]) ∧ TotAt (w.heap.size + 1) (wt x.1 (l.take (j + 1))) w' ∧ But (w.heap.size + 1) W w') := fun W hW => by
          rw [HW.out]; exact totAdd _ _ _ (by omega) (inI_iff.1 hwk) W hW
        rw [hc] at q
        clear hc x1 x3 y1 y2 y3 h2 HW hbd hll hwk
        generalize l[j].1.length = n1 at *
        generalize l[j].2 = i1 at *
        generalize x.1.length = n2 at *
        go_wp2_with fail
        refine wp_region_quiet_below (by kernel_rfl) (by kernel_rfl) ?_
        iterate 15 (go_big_quiet_step (exact q.out _ _))
        iterate 2 (go_big_quiet_step (fail))
        refine wpQuiet_nil ?_
        intro w6 hw6
        obtain ⟨p6, hw6⟩ := hw6
        have B6 : Hid (Below wr.heap.size wr w6) := by rw [hw6]; exact below_regrown wr _ _
        clear hw6 g1 g3 q
        have T6 : Hid (TotAt (w.heap.size + 1) (wt x.1 (l.take j)) w6) := T3.out.on B6.out
        have z2 := cell_on x2 B6.out
        have q7 := qA.out w6 T6.out
        clear qA x2
        go_wp2_with fail
        refine q7.mono ?_
        rintro e w8 ⟨rfl, hT8, hb8⟩
        have F : Hid (FirstTo l x.1 w (j + 1) w8) := by
          refine ⟨by omega, HA.out, hT8, ?_, ?_⟩
          · exact (B4.out.trans (B6.out.mono B4.out.size)).trans (hb8.below (by omega) (by have := B4.out.size; have := B6.out.size; omega))
          · obtain ⟨d1, d2, d3, d4, d5⟩ := T5.out.on B6.out
            exact ⟨by rw [hb8.cell (p := ⟨w.heap.size, 0, none⟩) (by simp) d5]; exact d1, by rw [hb8.cell (p := ⟨w.heap.size, 1, none⟩) (by simp) d5]; exact d2, by rw [hb8.frozen (p := ⟨w.heap.size, 0, none⟩) (by simp) d5]; exact d3, by rw [hb8.frozen (p := ⟨w.heap.size, 1, none⟩) (by simp) d5]; exact d4, Nat.lt_of_lt_of_le d5 hb8.size⟩
        clear hT8 hb8 q7 z2 HA
        go_wp2_with fail
        go_roundw
        case rel => exact ⟨j + 1, by go_num, F.out⟩
        case measure => simp [intOf]; omega
      · have hp0 : 0 < j := Nat.pos_of_ne_zero fun e => by subst e; exact hc (by rw [H0.out hpos, cR_self])
        have HU : Hid (Upto l x.1 j) := ⟨h2.out, fun _ e => hc ((cR_zero _ _).2 e)⟩
        clear h2 x1 x2 x3 y1 y2 y3 hwk
        have bc : (cR l[j].1 x.1 == 0) = false := by simp [hc]
        generalize cR l[j].1 x.1 = c at *
        generalize l[j].1.length = n1 at *
        generalize x.1.length = n2 at *
        go_wp2_with fail
        refine wp_region_quiet_below (by kernel_rfl) (by kernel_rfl) ?_
        iterate 15 (go_big_quiet_step (exact q.out _ _))
        iterate 2 (go_big_quiet_step (fail))
        refine wpQuiet_nil ?_
        intro w6 hw6
        obtain ⟨p6, hw6⟩ := hw6
        have B6 : Hid (Below wr.heap.size wr w6) := by rw [hw6]; exact below_regrown wr _ _
        clear hw6 g1 g3 q
        obtain ⟨d1, d2, d3, d4, d5⟩ := T5.out.on B6.out
        obtain ⟨t1, t2, t3, t4, t5⟩ := T3.out.on B6.out
        have B7 : Hid (Below w.heap.size w w6) := B4.out.trans (B6.out.mono B4.out.size)
        have HE : Hid (∀ e w', e = .returned (.tuple #[.int .i64 j, .agg #[.int .i64 (tHi (wt x.1 (l.take j))), .int .u64 (wLo (wt x.1 (l.take j)))]]) → Below w.heap.size w w' → FirstAt l x.1 w e w') := fun e w' he hw' => ⟨j, hp0, h1, he, HU.out, hw'⟩
        clear HU T3 T5 B4 B6
        generalize tHi (wt x.1 (l.take j)) = hi at *
        generalize wLo (wt x.1 (l.take j)) = lo at *
        have sc0 : Hid ((w6.setCell ⟨w.heap.size, 0, none⟩ (.int .i64 hi)).cell? ⟨w.heap.size, 0, none⟩ = some (.int .i64 hi)) := World.cell?_setCell_same w6 _ _ d1
        have sc1 : Hid (((w6.setCell ⟨w.heap.size, 0, none⟩ (.int .i64 hi)).setCell ⟨w.heap.size, 1, none⟩ (.int .u64 lo)).cell? ⟨w.heap.size, 1, none⟩ = some (.int .u64 lo)) := World.cell?_setCell_same _ _ _ (by rw [World.cell?_setCell_other _ _ _ _ (fun e => by cases e)]; exact d2)
        go_wp2_with fail
        go_region
        all_goals (
          go_wp2_with fail
          refine bodyPost_ret (v := .tuple #[.int .i64 j, .agg #[.int .i64 hi, .int .u64 lo]]) (by simp [results, Tryd.results50, go_sem, sc0.out, sc1.out]) rfl (HE.out _ _ rfl ?_)
          exact ((B7.out.setCell (p := ⟨w.heap.size, 0, none⟩) (Nat.le_refl _) _).setCell (p := ⟨w.heap.size, 1, none⟩) (Nat.le_refl _) _).drew)
    · have hp0 : 0 < j := by omega
      have HU : Hid (Upto l x.1 j) := ⟨h2.out, fun h => absurd h hlt⟩
      clear h2 Ha
      have b0 : decide ((j : Int) < (l.length : Int)) = false := by simp; omega
      go_wp2_with fail
      refine wp_region_quiet_below (by kernel_rfl) (by kernel_rfl) ?_
      iterate 17 (go_big_quiet_step (fail))
      refine wpQuiet_nil ?_
      intro w6 hw6
      obtain ⟨p6, hw6⟩ := hw6
      have B6 : Hid (Below wr.heap.size wr w6) := by rw [hw6]; exact below_regrown wr _ _
      clear hw6 b0
      obtain ⟨d1, d2, d3, d4, d5⟩ := T5.out.on B6.out
      obtain ⟨t1, t2, t3, t4, t5⟩ := T3.out.on B6.out
      have B7 : Hid (Below w.heap.size w w6) := B4.out.trans (B6.out.mono B4.out.size)
      have HE : Hid (∀ e w', e = .returned (.tuple #[.int .i64 j, .agg #[.int .i64 (tHi (wt x.1 (l.take j))), .int .u64 (wLo (wt x.1 (l.take j)))]]) → Below w.heap.size w w' → FirstAt l x.1 w e w') := fun e w' he hw' => ⟨j, hp0, h1, he, HU.out, hw'⟩
      clear HU T3 T5 B4 B6
      generalize tHi (wt x.1 (l.take j)) = hi at *
      generalize wLo (wt x.1 (l.take j)) = lo at *
      have sc0 : Hid ((w6.setCell ⟨w.heap.size, 0, none⟩ (.int .i64 hi)).cell? ⟨w.heap.size, 0, none⟩ = some (.int .i64 hi)) := World.cell?_setCell_same w6 _ _ d1
      have sc1 : Hid (((w6.setCell ⟨w.heap.size, 0, none⟩ (.int .i64 hi)).setCell ⟨w.heap.size, 1, none⟩ (.int .u64 lo)).cell? ⟨w.heap.size, 1, none⟩ = some (.int .u64 lo)) := World.cell?_setCell_same _ _ _ (by rw [World.cell?_setCell_other _ _ _ _ (fun e => by cases e)]; exact d2)
      go_wp2_with fail
      go_region
      all_goals (
        go_wp2_with fail
        refine bodyPost_ret (v := .tuple #[.int .i64 j, .agg #[.int .i64 hi, .int .u64 lo]]) (by simp [results, Tryd.results50, go_sem, sc0.out, sc1.out]) rfl (HE.out _ _ rfl ?_)
        exact ((B7.out.setCell (p := ⟨w.heap.size, 0, none⟩) (Nat.le_refl _) _).setCell (p := ⟨w.heap.size, 1, none⟩) (Nat.le_refl _) _).drew)
theorem below_drewN {w : World} (d : Nat) : Below w.heap.size w (w.drewN d) := ⟨rfl, rfl, rfl, Nat.le_refl _, fun _ _ => rfl⟩
theorem wt_perm {r : List Val} {l m : List Ent} (h : l.Perm m) : wt r l = wt r m := by
  induction h with
  | nil => rfl
  | cons x _ ih => simp only [wt]; rw [ih]
  | swap x y l => simp only [wt]; omega
  | trans _ _ h1 h2 => rw [h1, h2]
theorem wt_all {r s : List Val} : ∀ {l : List Ent}, (∀ e ∈ l, e.1 = s) → wt r l = if s = r then wt s l else 0
  | [], _ => by simp [wt]
  | e :: l, h => by
    have he := h e (by simp)
    have ih := wt_all (r := r) (l := l) (fun x hx => h x (by simp [hx]))
    simp only [wt]
    rw [ih, he]
    by_cases hs : s = r
    · subst hs; simp
    · simp [hs]
/-- How far Make has come. -/
def MkTo (l' : List Ent) (w : World) (vS vz : Value) (rest : List Ent) (wr : World) : Prop :=
  EntsIs w vS rest ∧ ∃ done us p, l' = done ++ rest ∧ ZOwn w.heap.size us (nzZ p) vz wr ∧ Below w.heap.size w wr ∧ SortedZ p ∧ (∀ r, wt r p = wt r done) ∧ (∀ e ∈ p, ∀ x ∈ rest, cR e.1 x.1 < 0) ∧ fitsZ p = true ∧ us.length ≤ done.length
theorem upto_take {l : List Ent} {r : List Val} {k : Nat} (h : Upto l r k) : ∀ e ∈ l.take k, e.1 = r := by
  intro e he
  obtain ⟨i, hi, rfl⟩ := List.getElem_of_mem he
  simp only [List.length_take] at hi
  simp only [List.getElem_take]
  exact h.1 i (by omega) (by omega)
theorem upto_drop {x : Ent} {m : List Ent} {k : Nat} (hs : (x :: m).Pairwise fun a b => cR a.1 b.1 ≤ 0) (hk : 0 < k) (h : Upto (x :: m) x.1 k) : ∀ y ∈ (x :: m).drop k, cR x.1 y.1 < 0 := by
  intro y hy
  obtain ⟨i, hi, rfl⟩ := List.getElem_of_mem hy
  simp only [List.length_drop] at hi
  simp only [List.getElem_drop]
  have hkl : k < (x :: m).length := by omega
  have h1 := List.pairwise_iff_getElem.1 hs 0 k (by omega) hkl hk
  simp only [List.getElem_cons_zero] at h1
  have hne := h.2 hkl
  have h2 : cR x.1 (x :: m)[k].1 < 0 := by
    rcases Int.lt_or_eq_of_le h1 with h3 | h3
    · exact h3
    · exact absurd ((cR_zero _ _).1 h3).symm hne
  by_cases h0 : i = 0
  · subst h0; exact h2
  · have h3 := List.pairwise_iff_getElem.1 hs k (k + i) hkl (by omega) (by omega)
    rcases Int.lt_or_eq_of_le h3 with h4 | h4
    · exact cR_lt_trans h2 h4
    · rw [← (cR_zero _ _).1 h4]; exact h2
theorem MkTo.step {l' : List Ent} {w W w4 : World} {vS' v : Value} {x : Ent} {m done p : List Ent} {us : List VEnt} {k : Nat} (hs : l'.Pairwise fun a b => cR a.1 b.1 ≤ 0) (hl : l' = done ++ x :: m) (hk : 0 < k) (hkl : k ≤ (x :: m).length) (hU : Upto (x :: m) x.1 k)
    (hp : SortedZ p) (hw : ∀ r, wt r p = wt r done) (hx : ∀ e ∈ p, ∀ y ∈ x :: m, cR e.1 y.1 < 0) (hf : fitsZ p = true) (hus : us.length ≤ done.length) (hn : inI (wt x.1 ((x :: m).take k)) = true) (hB : Below w.heap.size w W)
    (hE : EntsIs w vS' ((x :: m).drop k)) (hP : PutAt w.heap.size (nzZ p) x.1 (wt x.1 ((x :: m).take k)) us.length W v w4) : MkTo l' w vS' v ((x :: m).drop k) w4 := by
  obtain ⟨⟨us', g1, g2⟩, g3⟩ := hP
  have hsr : (x :: m).Pairwise fun a b => cR a.1 b.1 ≤ 0 := by rw [hl] at hs; exact (List.pairwise_append.1 hs).2.1
  refine ⟨hE, done ++ (x :: m).take k, us', p ++ [(x.1, wt x.1 ((x :: m).take k))], ?_, ?_, hB.trans g3, ?_, ?_, ?_, ?_, ?_⟩
  · rw [List.append_assoc, List.take_append_drop]; exact hl
  · rw [nzZ_append]; exact g2
  · refine List.pairwise_append.2 ⟨hp, by simp, fun e he y hy => ?_⟩
    simp only [List.mem_singleton] at hy
    subst hy
    exact hx e he x (by simp)
  · intro r
    rw [wt_append, wt_append, hw r, wt_all (r := r) (s := x.1) (upto_take hU)]
    simp [wt]
  · intro e he y hy
    rcases List.mem_append.1 he with he | he
    · exact hx e he y (List.mem_of_mem_drop hy)
    · simp only [List.mem_singleton] at he
      subst he
      exact upto_drop hsr hk hU y hy
  · rw [fitsZ_append, hf]; simp [fitsZ, hn]
  · rw [List.length_append, List.length_take]; omega
theorem make_over {l l' : List Ent} {x : Ent} {m done p : List Ent} {k : Nat} (hl0 : l'.Perm l) (hs : l'.Pairwise fun a b => cR a.1 b.1 ≤ 0) (hl : l' = done ++ x :: m) (hk : 0 < k) (hU : Upto (x :: m) x.1 k)
    (hw : ∀ r, wt r p = wt r done) (hx : ∀ e ∈ p, ∀ y ∈ x :: m, cR e.1 y.1 < 0) (hn : inI (wt x.1 ((x :: m).take k)) = false) : okZ l = false := by
  have hsr : (x :: m).Pairwise fun a b => cR a.1 b.1 ≤ 0 := by rw [hl] at hs; exact (List.pairwise_append.1 hs).2.1
  have h1 : wt x.1 done = 0 := by
    rw [← hw]
    exact wt_none (fun e he h => by have := hx e he x (by simp); rw [h, cR_self] at this; omega)
  have h2 : wt x.1 ((x :: m).drop k) = 0 := wt_none (fun e he h => by have := upto_drop hsr hk hU e he; rw [h, cR_self] at this; omega)
  have h3 : wt x.1 l = wt x.1 ((x :: m).take k) := by
    rw [← wt_perm hl0, hl, wt_append, h1, ← List.take_append_drop k (x :: m), wt_append, h2, List.take_append_drop]; omega
  by_cases h : okZ l = true
  · have := (okZ_iff l).1 h x.1
    rw [h3, hn] at this
    cases this
  · simpa using h
theorem make_ends {l l' p : List Ent} (hl0 : l'.Perm l) (hp : SortedZ p) (hw : ∀ r, wt r p = wt r l') (hf : fitsZ p = true) : okZ l = true ∧ mkZ l = nzZ p := by
  have hw' : ∀ r, wt r p = wt r l := fun r => by rw [hw, wt_perm hl0]
  exact ⟨by rw [← fits_of hp hw']; exact hf, mk_of hp hw' hf⟩
set_option maxHeartbeats 8000000 in
/-- zset.Make: what it hands out is its own. -/
theorem zMakeO (l : List Ent) (va : Value) (a : Addr) (w : World) (ho : OverAt a w) (hn : l.length ≤ 65536) (hl : EOk l) (ha : EntsIs w va l) :
    Calls Tryd.prog 28 #[va] w fun e w' => ∃ v, e = .returned (.tuple #[v, ovE a (okZ l)]) ∧ ZHas w.heap.size (mkZ l) v w' ∧ Below w.heap.size w w' := by
  obtain ⟨vs, ha1, hr⟩ := ha
  have q1 := cloneEnts vs l va w hn ha1 hr
  have H1 : Hid (okZ l = true → ovE a (okZ l) = .nilIface) := fun h => by rw [h]; rfl
  have H2 : Hid (okZ l = false → ovE a (okZ l) = errV a ∧ mkZ l = []) := fun h => ⟨by rw [h]; rfl, mk_bad h⟩
  have HO : Hid (OverAt a w) := ho
  have Hl : Hid (EOk l) := hl
  have Hr : Hid (Reads w vs l) := hr
  generalize ovE a (okZ l) = re at *
  clear ho hl ha1 hr
  go_enter Tryd.func28, Tryd.ntmps28
  go_wp2_with fail
  refine q1.mono ?_
  rintro e w1 ⟨v1, rfl, hown1, hb1⟩
  have q2 := sortOwn vs l w w1 v1 hb1 Hr.out hn hown1
  clear q1
  go_wp2_with fail
  refine q2.mono ?_
  rintro e w2 ⟨rfl, l', hp, hs, hE, hb2⟩
  have B2 : Hid (Below w.heap.size w w2) := hb2
  have HP : Hid (l'.Perm l) := hp
  have HS : Hid (l'.Pairwise fun a b => cR a.1 b.1 ≤ 0) := hs
  have O2 : Hid (OverAt a w2) := HO.out.on hb2
  have L2 : Hid (EOk l') := fun e he => Hl.out e (HP.out.mem_iff.1 he)
  have N2 : Hid (l'.length ≤ 65536) := by show _ ≤ _; rw [HP.out.length_eq]; exact hn
  have H0 : Hid (MkTo l' w2 v1 (.slice none 0 0) l' w2) := ⟨hE, [], [], [], rfl, ZOwn.nil _ _, Below.refl _ _, List.Pairwise.nil, (fun r => rfl), (fun e he => by cases he), rfl, Nat.le_refl _⟩
  obtain ⟨av, cv, rfl⟩ := hE.form
  clear q2 hp hs hE hb2 hb1 hown1 HO Hr Hl
  go_wp2_with fail
  go_loopw [4, 5, 6] (fun vS vz ve wr => ∃ rest, ve = .nilIface ∧ MkTo l' w2 vS vz rest wr) (fun vS _ _ _ => slLen vS)
  case atStart => exact ⟨l', rfl, H0.out⟩
  case round =>
    clear H0
    obtain ⟨rest, rfl, c1, done, us, p, c2, c3, c4, c5, c6, c7, c8, c9⟩ := hrel
    obtain ⟨aS, cS, rfl⟩ := c1.form
    obtain ⟨az, cz, rfl⟩ := own_form c3.1
    rcases rest with _ | ⟨x, m⟩
    · rw [List.append_nil] at c2
      subst c2
      have E := make_ends HP.out c5 c6 c8
      have EX : Hid (re = .nilIface) := H1.out E.1
      have HE : Hid (ZHas w.heap.size (mkZ l) (.slice az us.length cz) wr) := by show ZHas _ _ _ _; rw [E.2]; exact ⟨us, c3.mono B2.out.size⟩
      have H6 : Hid (Below w.heap.size w wr) := B2.out.trans (c4.mono B2.out.size)
      clear c1 c3 c4 c5 c6 c7 c8 c9 E H1 H2
      go_wp2_with fail
      go_ret2
      exact ⟨_, by rw [EX.out]; rfl, HE.out, H6.out⟩
    · have hz := c4.size
      have hle : (x :: m).length ≤ 65536 := by have := N2.out; rw [c2, List.length_append] at this; omega
      have hus : us.length ≤ 65536 := by have := N2.out; rw [c2, List.length_append] at this; omega
      have hok : ∀ e ∈ x :: m, inI e.2 = true ∧ e.1.length ≤ 65536 := fun e he => L2.out e (by rw [c2]; simp only [List.mem_append]; exact .inr he)
      have q3 := zFirstRow x m (x :: m) rfl _ wr hle (fun e he => (hok e he).1) (c1.on c4)
      have I1 : 0 < (x :: m).length := by simp
      have I1' : (0 : Int) < ((x :: m).length : Int) := by omega
      obtain ⟨bS, oS, a1, n1, rfl, x1, x2, x3⟩ := c1.at 0 (by simp)
      have la1 := c1.cap
      simp only [List.getElem_cons_zero, Nat.zero_mul, Nat.add_zero] at x1 x3
      have xk := (hok x (by simp)).2
      have C1 : Hid (EntsIs w2 (.slice (some ⟨bS, oS, none⟩) (x :: m).length cS) (x :: m)) := c1
      have HST : Hid (∀ k vS' W v w4, 0 < k → k ≤ (x :: m).length → Upto (x :: m) x.1 k → inI (wt x.1 ((x :: m).take k)) = true → Below w2.heap.size w2 W → EntsIs w2 vS' ((x :: m).drop k) → PutAt w2.heap.size (nzZ p) x.1 (wt x.1 ((x :: m).take k)) us.length W v w4 → MkTo l' w2 vS' v ((x :: m).drop k) w4) :=
        fun k vS' W v w4 h1 h2 h3 h4 h5 h6 h7 => MkTo.step HS.out c2 h1 h2 h3 c5 c6 c7 c8 c9 h4 h5 h6 h7
      have HOV : Hid (∀ k, 0 < k → Upto (x :: m) x.1 k → inI (wt x.1 ((x :: m).take k)) = false → re = errV a ∧ mkZ l = []) :=
        fun k h1 h2 h3 => H2.out (make_over HP.out HS.out c2 h1 h2 c6 c7 h3)
      have HB : Hid (∀ k, -604462909807314587353088 ≤ wt x.1 ((x :: m).take k) ∧ wt x.1 ((x :: m).take k) ≤ 604462909807314587353088) := fun k => by
        have h1 := wt_bound x.1 ((x :: m).take k) (fun e he => (hok e (List.mem_of_mem_take he)).1)
        have h2 : ((x :: m).take k).length ≤ 65536 := by rw [List.length_take]; omega
        omega
      have C3 : Hid (ZOwn w2.heap.size us (nzZ p) (.slice az us.length cz) wr) := c3
      have C4 : Hid (Below w2.heap.size w2 wr) := c4
      have X : Hid (w2.cell? ⟨bS, oS, none⟩ = some (.slice a1 x.1.length n1) ∧ RowIs w2 (.slice a1 x.1.length n1) x.1) := ⟨x1, x3⟩
      clear c1 c2 c3 c4 c5 c6 c7 c8 c9 hok x1 x2 x3 hle H1 H2
      unfold maxLen at *
      go_wp2_with fail
      refine q3.mono ?_
      rintro e w3 ⟨k, hk0, hk1, rfl, hU, hb3⟩
      have B3 : Hid (Below wr.heap.size wr w3) := hb3
      have UK : Hid (Upto (x :: m) x.1 k) := hU
      have hbd := HB.out k
      generalize hN : wt x.1 ((x :: m).take k) = n at *
      clear q3 hb3 hU HB
      have V3 : Hid (Below w2.heap.size w2 w3) := C4.out.trans (B3.out.mono hz)
      obtain ⟨W, hW⟩ : ∃ W, W = w3.alloc (.cells #[.int .i64 (tHi n), .int .u64 (wLo n)] 94) := ⟨_, rfl⟩
      have BW : Hid (Below w3.heap.size w3 W) := by rw [hW]; exact one_box
      have TW : Hid (TotAt w3.heap.size n W) := by rw [hW]; exact tot_new n w3
      have HW : Hid (w3.alloc (.cells #[.int .i64 (tHi n), .int .u64 (wLo n)] 94) = W) := hW.symm
      have VW : Hid (Below w2.heap.size w2 W) := V3.out.trans (BW.out.mono V3.out.size)
      have ZW : Hid (ZOwn w2.heap.size us (nzZ p) (.slice az us.length cz) W) := (C3.out.on B3.out).on BW.out
      clear hW
      by_cases hin : inI n = true
      · have q4 : Hid (∀ d, Calls Tryd.prog 51 #[.slice az us.length cz, .slice a1 x.1.length n1, .agg #[.int .i64 (tHi n), .int .u64 (wLo n)]] (W.drewN d) fun e w' => ∃ v, e = .returned (.tuple #[v, .nilIface]) ∧ PutAt w2.heap.size (nzZ p) x.1 n us.length (W.drewN d) v w') :=
          fun d => zPut_ok w2.heap.size us (nzZ p) x.1 n _ _ (W.drewN d) VW.out.size hin (ZW.out.on (below_drewN d)) ((X.out.2.on VW.out).on (below_drewN d)) xk hus
        have z1 := cell_on X.out.1 VW.out
        obtain ⟨t1, t2, _, _, _⟩ := TW.out
        generalize tHi n = hi at *
        generalize wLo n = lo at *
        go_wp2_with fail
        rw [HW.out]
        go_region_with (go_at_call 51; refine (q4.out 1).mono ?_; rintro e w5 ⟨v5, rfl, hP⟩)
        all_goals (
          have hF : Hid (∀ vS', EntsIs w2 vS' ((x :: m).drop k) → MkTo l' w2 vS' v5 ((x :: m).drop k) w5) := fun vS' h => HST.out k vS' _ v5 w5 hk0 hk1 UK.out (by rw [hN]; exact hin) (VW.out.trans ((below_drewN 1).mono VW.out.size)) h (by rw [hN]; exact hP)
          have KD : Hid (EntsIs w2 (.slice (if cS = k then some ⟨bS, oS, none⟩ else some ⟨bS, oS + k * 2, none⟩) (m.length + 1 - k) (cS - k)) ((x :: m).drop k)) := drop_if C1.out k hk1 (by have := la1.1; first | omega | (simp only [List.length_cons]; omega))
          clear hP q4 t1 t2 z1 HST HOV
          simp only [List.length_cons] at hk1 la1
          go_wp2_with fail
          all_goals (
            go_roundw
            case rel => exact ⟨_, rfl, hF.out _ KD.out⟩
            case measure => simp [slLen]; omega))
      · have hin' : inI n = false := by simpa using hin
        have q4 : Hid (∀ d, Calls Tryd.prog 51 #[.slice az us.length cz, .slice a1 x.1.length n1, .agg #[.int .i64 (tHi n), .int .u64 (wLo n)]] (W.drewN d) fun e w' => e = .returned (.tuple #[.slice none 0 0, .iface 159 (.pointer (some a))]) ∧ Below (W.drewN d).heap.size (W.drewN d) w') :=
          fun d => zPut_over n az a1 us.length cz x.1.length n1 a (W.drewN d) ((O2.out.on VW.out).on (below_drewN d)) hbd hin'
        have EX : Hid (re = errV a ∧ mkZ l = []) := HOV.out k hk0 UK.out (by rw [hN]; exact hin')
        have z1 := cell_on X.out.1 VW.out
        obtain ⟨t1, t2, _, _, _⟩ := TW.out
        generalize tHi n = hi at *
        generalize wLo n = lo at *
        go_wp2_with fail
        rw [HW.out]
        go_region_with (go_at_call 51; refine (q4.out 1).mono ?_; rintro e w5 ⟨rfl, hb5⟩)
        all_goals (
          have V5 : Hid (Below w.heap.size w w5) := (B2.out.trans (VW.out.mono B2.out.size)).trans (((below_drewN 1).trans (hb5.mono (Nat.le_refl _))).mono (by have := B2.out.size; have := VW.out.size; omega))
          clear hb5 q4 t1 t2 z1 HST HOV
          go_wp2_with fail
          go_ret2
          exact ⟨.slice none 0 0, by rw [EX.out.1]; rfl, by rw [EX.out.2]; exact ⟨[], ZOwn.nil _ _⟩, V5.out⟩)
/-- zset.Make. -/
theorem zMake (l : List Ent) (va : Value) (a : Addr) (w : World) (ho : OverAt a w) (hn : l.length ≤ 65536) (hl : EOk l) (ha : EntsIs w va l) :
    Calls Tryd.prog 28 #[va] w fun e w' => ∃ v, e = .returned (.tuple #[v, ovE a (okZ l)]) ∧ EntsIs w' v (mkZ l) ∧ Below w.heap.size w w' :=
  (zMakeO l va a w ho hn hl ha).mono fun _ _ ⟨v, h1, h2, h3⟩ => ⟨v, h1, h2.ents, h3⟩
end Go.Proofs.YtaccinophamgmaaDoor
