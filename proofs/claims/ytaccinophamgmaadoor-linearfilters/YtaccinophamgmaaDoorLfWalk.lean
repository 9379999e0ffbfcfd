/- The walk of the law that one filter behind another one is both together. -/
import Derived.Test.YtaccinophamgmaaDoorLnCalls
import Derived.Test.YtaccinophamgmaaDoorPackAr
import Derived.Test.YtaccinophamgmaaDoorPackPdE
import Derived.Test.YtaccinophamgmaaDoorPackRow
namespace Go.Proofs.YtaccinophamgmaaDoor
open Go.RowKit Go.Sort
set_option maxRecDepth 100000
set_option linter.unusedVariables false

theorem lf_ord11 : ordOk (regOf Tryd.f6.body 11) ((0, true) :: (1, true) :: (2, true) :: (3, false) :: (4, false) :: (5, true) :: []) = true := by kernel_rfl
theorem lf_ord16 : ordOk (regOf Tryd.f6.body 16) ((0, true) :: (1, true) :: (2, true) :: (3, true) :: (4, true) :: (5, true) :: (6, false) :: (7, true) :: (8, true) :: (9, true) :: (10, true) :: (11, true) :: (12, true) :: (13, true) :: (14, true) :: (15, false) :: (16, true) :: (17, true) :: (18, true) :: (19, true) :: (20, true) :: (21, true) :: (22, true) :: (23, true) :: (24, true) :: (26, true) :: (27, true) :: (28, true) :: (29, true) :: (30, true) :: (25, false) :: (31, true) :: (32, true) :: []) = true := by kernel_rfl
theorem kinds123L : ∀ (i : Nat) (h : i < ([1, 2, 3] : List Int).length), ([1, 2, 3] : List Int)[i] = 0 ∨ ([1, 2, 3] : List Int)[i] = 1 ∨ ([1, 2, 3] : List Int)[i] = 2 ∨ ([1, 2, 3] : List Int)[i] = 3 := by
  intro i hi
  have : i = 0 ∨ i = 1 ∨ i = 2 := by simp at hi; omega
  rcases this with rfl | rfl | rfl <;> simp
theorem kin123L : ∀ k ∈ ([1, 2, 3] : List Int), k = 1 ∨ k = 2 ∨ k = 3 := by simp
theorem two_lL {n : Nat} {W : World} {P Q : Pd} {s t : Value} (h : PdL (fun _ => True) n W s P.l) (h' : PdL (fun _ => True) n W t Q.l) : PdL (fun _ => True) (n + 1) (W.alloc (.cells #[.int .i64 P.k, .int .i64 P.c, .int .i64 P.o, .int .i64 P.d, .int .i64 P.v.1, .int .i64 P.v.2.1, .string P.v.2.2, s, .int .i64 Q.k, .int .i64 Q.c, .int .i64 Q.o, .int .i64 Q.d, .int .i64 Q.v.1, .int .i64 Q.v.2.1, .string Q.v.2.2, t] 33)) (.slice (some ⟨W.heap.size, 0, none⟩) 2 2) [P, Q] := by
  refine .inr ⟨W.heap.size, 0, 2, rfl, Nat.le_refl _, by decide, by simp, trivial, fun i hi => ?_⟩
  have : i = 0 ∨ i = 1 := by simp at hi; omega
  rcases this with rfl | rfl
  · refine ⟨s, ⟨?_, ?_, ?_, ?_, ?_, ?_, ?_, ?_⟩, h.on one_box⟩ <;> (rw [World.cell?_alloc_at _ _ _ _ rfl]; rfl)
  · refine ⟨t, ⟨?_, ?_, ?_, ?_, ?_, ?_, ?_, ?_⟩, h'.on one_box⟩ <;> (rw [World.cell?_alloc_at _ _ _ _ rfl]; rfl)
theorem flt_ok {p : Pd} {l : List Ent} (h : EOk l) : EOk (fltP p l) := fun e he => h e (flt_mem he).1
set_option maxHeartbeats 1000000 in
theorem lf_long (a : Option Addr) (len cap : Nat) (eA eO : Addr) (w : World) (he : ArOvAt eA eO w) (h : 150 < (len : Int)) :
    Calls Tryd.prog 6 #[.slice a len cap] w fun e w' => e = .returned (.bool true) ∧ Below w.heap.size w w' := by
  have q := lawFirst11 eA eO w he.1 he.2
  clear he
  go_enter Tryd.func6, Tryd.ntmps6
  go_wp2_with fail
  refine q.mono ?_
  rintro e w1 ⟨rfl, hb1⟩
  go_wp2_with fail
  go_ret
  exact ⟨rfl, hb1⟩
set_option maxHeartbeats 8000000 in
theorem lf_main (a : Option Addr) (len cap : Nat) (zs : List Int) (eA eO : Addr) (h : ¬ 150 < (len : Int)) (w : World) (he : ArOvAt eA eO w) (ha : IsRow .i64 w a len cap zs) :
    Calls Tryd.prog 6 #[.slice a len cap] w fun e w' => e = .returned (.bool true) ∧ Below w.heap.size w w' := by
  have Ha : Hid (IsRow .i64 w a len cap zs) := ha
  have q := lawFirst11 eA eO w he.1 he.2
  clear ha he
  go_enter Tryd.func6, Tryd.ntmps6
  go_wp2_with fail
  refine q.mono ?_
  rintro e w1 ⟨rfl, hb1⟩
  have B1 : Hid (Below w.heap.size w w1) := hb1
  clear q
  have HS : Hid (SeqAt w1.heap.size a len cap zs 0 (w1.alloc (.cells #[.slice a len cap, .int .i64 0] 26))) := SeqAt.make (Ha.out.below hb1) _
  clear hb1
  go_wp2_with fail
  obtain ⟨W3, hW3⟩ : ∃ W3, W3 = (w1.alloc (.cells #[.slice a len cap, .int .i64 0] 26)).alloc (.cells #[.int .i64 1, .int .i64 2, .int .i64 3] 3) := ⟨_, rfl⟩
  rw [← hW3]
  have F3 : Hid (SeqAt w1.heap.size a len cap zs 0 W3 ∧ ColsAt (w1.heap.size + 1) [1, 2, 3] W3 ∧ Below w.heap.size w W3 ∧ w1.heap.size < W3.heap.size) := by
    have c1 := cols_newP (w1.alloc (.cells #[.slice a len cap, .int .i64 0] 26)) [1, 2, 3] 3
    rw [World.size_alloc] at c1
    rw [hW3]
    exact ⟨HS.out.on one_box, c1, B1.out.trans ((one_box.trans (one_box.mono (by simp))).mono B1.out.size), by simp; omega⟩
  clear hW3 HS
  obtain ⟨S, hS⟩ : ∃ S, S = w1.heap.size := ⟨_, rfl⟩
  have HSW : Hid (w.heap.size ≤ S) := by show w.heap.size ≤ S; rw [hS]; exact B1.out.size
  rw [← hS] at F3
  rw [← hS]
  clear hS B1
  have q4 := makeWide S a len cap zs 0 (S + 1) 3 3 [1, 2, 3] 12 W3 F3.out.1 (by decide) (by decide) F3.out.2.1 (by omega) (by decide) (by simp) kinds123L
  refine q4.mono ?_
  rintro e w4 ⟨vz, zl, rfl, ⟨p4, iz, ez, lz, nz, hp4, seq4, but4⟩, _⟩
  have F4 : Hid (IsZ zl ∧ EOk zl ∧ zl.length ≤ 12 ∧ EntsNew W3.heap.size zl vz w4 ∧ p4 ≤ 200 ∧ SeqAt S a len cap zs p4 w4 ∧ But S W3 w4) := ⟨iz, ez, lz, nz, by omega, seq4, but4⟩
  clear q4 iz ez lz nz hp4 seq4 but4
  have q5 : Calls Tryd.prog 9 #[.pointer (some ⟨S, 0, none⟩), .slice (some ⟨S + 1, 0, none⟩) 3 3, .int .i64 2] w4 (PdMade S a len cap zs [1, 2, 3] 2 p4 w4) :=
    makePred S a len cap zs p4 (S + 1) 0 3 [1, 2, 3] 2 (by omega) _ F4.out.2.2.2.2.2.1 (by have := F4.out.2.2.2.2.1; omega) ((F3.out.2.1.but F4.out.2.2.2.2.2.2 (by omega)).ints 3 rfl (by simp [maxLen])) (by omega) (by simp) (by simp) kin123L
  go_wp2_with fail
  refine q5.mono ?_
  rintro e w5 ⟨P, s5, p5, rfl, mk5, pl5, hp5, seq5, but5⟩
  obtain ⟨as5, cs5, hs5⟩ := pl5.form
  subst hs5
  unfold pv
  have h160 : (10 : Nat) * 4 ^ 2 = 160 := by decide
  have hp360 : p5 ≤ 360 := by have := F4.out.2.2.2.2.1; omega
  obtain ⟨W5, hW5⟩ : ∃ W, W = w5.alloc (.cells #[.int .i64 P.k, .int .i64 P.c, .int .i64 P.o, .int .i64 P.d, .int .i64 P.v.1, .int .i64 P.v.2.1, .string P.v.2.2, .slice as5 P.l.length cs5] 33) := ⟨_, rfl⟩
  have F5 : Hid (EntsNew W3.heap.size zl vz W5 ∧ PdL (fun k => S < k) 2 W5 (.slice as5 P.l.length cs5) P.l ∧ SeqAt S a len cap zs p5 W5 ∧ But S W3 W5 ∧ PdBox w5.heap.size P (.slice as5 P.l.length cs5) W5 ∧ S < w5.heap.size ∧ p5 ≤ 360) := by
    have f := F4.out
    have f3 := F3.out
    have hz : S < w5.heap.size := by have := f.2.2.2.2.2.2.size; have := but5.size; omega
    have hb : But S W3 W5 := by rw [hW5]; exact (f.2.2.2.2.2.2.trans but5).trans (But.of_below one_box)
    refine ⟨?_, ?_, ?_, hb, ?_, hz, hp360⟩
    · rw [hW5]; exact (f.2.2.2.1.but but5 f3.2.2.2).on one_box
    · rw [hW5]; exact (pl5.mono (fun k hk _ => by have := f.2.2.2.2.2.2.size; omega)).on one_box
    · rw [hW5]; exact seq5.on one_box
    · rw [hW5]; exact PdBox.new w5 P _
  clear q5 mk5 pl5 hp5 seq5 but5 h160 hp360
  have q6 : Calls Tryd.prog 9 #[.pointer (some ⟨S, 0, none⟩), .slice (some ⟨S + 1, 0, none⟩) 3 3, .int .i64 2] W5 (PdMade S a len cap zs [1, 2, 3] 2 p5 W5) :=
    makePred S a len cap zs p5 (S + 1) 0 3 [1, 2, 3] 2 (by omega) _ F5.out.2.2.1 (by have := F5.out.2.2.2.2.2.2; omega) ((F3.out.2.1.but F5.out.2.2.2.1 (by omega)).ints 3 rfl (by simp [maxLen])) (by omega) (by simp) (by simp) kin123L
  rw [hW5] at q6
  go_wp2_with fail
  refine q6.mono ?_
  rw [← hW5]
  rintro e w6 ⟨Q, s6, p6, rfl, mk6, pl6, hp6, seq6, but6⟩
  obtain ⟨as6, cs6, hs6⟩ := pl6.form
  subst hs6
  unfold pv
  obtain ⟨W6, hW6⟩ : ∃ W, W = w6.alloc (.cells #[.int .i64 Q.k, .int .i64 Q.c, .int .i64 Q.o, .int .i64 Q.d, .int .i64 Q.v.1, .int .i64 Q.v.2.1, .string Q.v.2.2, .slice as6 Q.l.length cs6] 33) := ⟨_, rfl⟩
  have F6 : Hid (EntsIs W6 vz zl ∧ PdL (fun _ => True) 2 W6 (.slice as5 P.l.length cs5) P.l ∧ PdL (fun _ => True) 2 W6 (.slice as6 Q.l.length cs6) Q.l ∧ PdBox w5.heap.size P (.slice as5 P.l.length cs5) W6 ∧ PdBox w6.heap.size Q (.slice as6 Q.l.length cs6) W6 ∧ Below w.heap.size w W6) := by
    have f := F5.out
    have f3 := F3.out
    have hz : S < W5.heap.size := by have := f.2.2.2.1.size; omega
    have hb : But S W3 W6 := by rw [hW6]; exact (f.2.2.2.1.trans but6).trans (But.of_below one_box)
    refine ⟨?_, ?_, ?_, ?_, ?_, f3.2.2.1.trans (hb.below HSW.out f3.2.2.1.size)⟩
    · rw [hW6]; exact ((f.1.but but6 f3.2.2.2).on one_box).ents
    · rw [hW6]; exact ((f.2.1.but but6 (by omega)).on one_box).any
    · rw [hW6]; exact (pl6.on one_box).any
    · rw [hW6]; exact (f.2.2.2.2.1.but but6 (by omega)).on one_box
    · rw [hW6]; exact PdBox.new w6 Q _
  have HZ : Hid (IsZ zl ∧ EOk zl ∧ zl.length ≤ 12) := ⟨F4.out.1, F4.out.2.1, F4.out.2.2.1⟩
  have hW6' := hW6
  clear q6 mk6 pl6 hp6 seq6 but6 F5 F4 F3 HSW hW5
  obtain ⟨⟨x0, x1, x2, x3, x4, x5, x6, x7⟩, _, _⟩ := F6.out.2.2.2.1
  obtain ⟨⟨y0, y1, y2, y3, y4, y5, y6, y7⟩, _, _⟩ := F6.out.2.2.2.2.1
  simp only [Nat.zero_add] at x1 x2 x3 x4 x5 x6 x7 y1 y2 y3 y4 y5 y6 y7
  have HF1 : Hid (∀ V, Below W6.heap.size W6 V → Calls Tryd.prog 16 #[.agg #[.int .i64 Q.k, .int .i64 Q.c, .int .i64 Q.o, .int .i64 Q.d, .int .i64 Q.v.1, .int .i64 Q.v.2.1, .string Q.v.2.2, .slice as6 Q.l.length cs6], vz] V fun e w' => ∃ v, e = .returned v ∧ ZHas V.heap.size (fltP Q zl) v w' ∧ Below V.heap.size V w') := fun V hV => lnFilter 2 _ Q (.slice as6 Q.l.length cs6) vz zl V (by have := HZ.out.2.2; omega) HZ.out.2.1 (F6.out.2.2.1.on hV) (F6.out.1.on hV)
  have HF2 : Hid (∀ V va, Below W6.heap.size W6 V → EntsIs V va (fltP Q zl) → Calls Tryd.prog 16 #[.agg #[.int .i64 P.k, .int .i64 P.c, .int .i64 P.o, .int .i64 P.d, .int .i64 P.v.1, .int .i64 P.v.2.1, .string P.v.2.2, .slice as5 P.l.length cs5], va] V fun e w' => ∃ v, e = .returned v ∧ ZHas V.heap.size (fltP P (fltP Q zl)) v w' ∧ Below V.heap.size V w') := fun V va hV he => lnFilter 2 _ P (.slice as5 P.l.length cs5) va (fltP Q zl) V (by have := HZ.out.2.2; have := flt_len Q zl; omega) (flt_ok HZ.out.2.1) (F6.out.2.1.on hV) he
  have g0 := Ex.cell x0
  have g1 := Ex.cell x1
  have g2 := Ex.cell x2
  have g3 := Ex.cell x3
  have g4 := Ex.cell x4
  have g5 := Ex.cell x5
  have g6 := Ex.cell x6
  have g7 := Ex.cell x7
  have k0 := Ex.cell y0
  have k1 := Ex.cell y1
  have k2 := Ex.cell y2
  have k3 := Ex.cell y3
  have k4 := Ex.cell y4
  have k5 := Ex.cell y5
  have k6 := Ex.cell y6
  have k7 := Ex.cell y7
  have ne := Ex.ne W6
  have B0 : Hid (Below W6.heap.size W6 W6.drew) := (Below.refl _ _).drew
  clear x0 x1 x2 x3 x4 x5 x6 x7 y0 y1 y2 y3 y4 y5 y6 y7 hW6'
  go_wp2_with fail
  rw [← hW6]
  clear hW6
  refine wp_region_ord_at (Ex W6) (regOf Tryd.f6.body 11) ((0, true) :: (1, true) :: (2, true) :: (3, false) :: (4, false) :: (5, true) :: []) (by kernel_rfl) (by kernel_rfl) lf_ord11 B0.out ?_
  generalize W6.drew = v0 at *
  repeat (refine ord_quiet rfl ?_; go_big_quiet_step (fail); refine wpQuiet_nil ?_)
  refine ord_call rfl (by rfl) 16 rfl (enters_of Tryd.func16 (by kernel_rfl) rfl) [.agg #[.int .i64 Q.k, .int .i64 Q.c, .int .i64 Q.o, .int .i64 Q.d, .int .i64 Q.v.1, .int .i64 Q.v.2.1, .string Q.v.2.2, .slice as6 Q.l.length cs6], vz] (by rfl) _ (HF1.out v0 B0.out) ?_
  rintro e v1 ⟨u1, rfl, hu1, hb0⟩
  have B1 : Hid (Below W6.heap.size W6 v1) := B0.out.trans (hb0.mono B0.out.size)
  refine ⟨_, rfl, Ex.of B1.out, ?_⟩
  simp only [Act.put, List.setIfInBounds_toArray, List.set_cons_zero, List.set_cons_succ]
  refine ord_call rfl (by rfl) 16 rfl (enters_of Tryd.func16 (by kernel_rfl) rfl) [.agg #[.int .i64 P.k, .int .i64 P.c, .int .i64 P.o, .int .i64 P.d, .int .i64 P.v.1, .int .i64 P.v.2.1, .string P.v.2.2, .slice as5 P.l.length cs5], u1] (by rfl) _ (HF2.out v1 u1 B1.out hu1.ents) ?_
  rintro e v2 ⟨u2, rfl, hu2, hb1⟩
  have B2 : Hid (Below W6.heap.size W6 v2) := B1.out.trans (hb1.mono B1.out.size)
  refine ⟨_, rfl, Ex.of B2.out, ?_⟩
  simp only [Act.put, List.setIfInBounds_toArray, List.set_cons_zero, List.set_cons_succ]
  repeat (refine ord_quiet rfl ?_; go_big_quiet_step (fail); refine wpQuiet_nil ?_)
  refine ord_end ?_
  have E2 : Hid (EntsIs v2 u2 (fltP P (fltP Q zl))) := hu2.ents
  clear hu1 hb0 hu2 hb1 HF1 HF2 ne B0 B1 g0 k0 g1 k1 g2 k2 g3 k3 g4 k4 g5 k5 g6 k6 g7 k7
  obtain ⟨⟨x0, x1, x2, x3, x4, x5, x6, x7⟩, _, _⟩ := F6.out.2.2.2.1.on B2.out
  obtain ⟨⟨y0, y1, y2, y3, y4, y5, y6, y7⟩, _, _⟩ := F6.out.2.2.2.2.1.on B2.out
  simp only [Nat.zero_add] at x1 x2 x3 x4 x5 x6 x7 y1 y2 y3 y4 y5 y6 y7
  have q3 := lnFilter 3 _ ⟨4, 0, 0, 0, nul, [P, Q]⟩ (.slice (some ⟨v2.heap.size, 0, none⟩) 2 2) vz zl _ (by have := HZ.out.2.2; omega) HZ.out.2.1 (two_lL (F6.out.2.1.on B2.out) (F6.out.2.2.1.on B2.out)) ((F6.out.1.on B2.out).on one_box)
  unfold pv at q3
  go_wp2_with fail
  refine q3.mono ?_
  rintro e w9 ⟨u3, rfl, hu3, hb3⟩
  have B9 : Hid (Below W6.heap.size W6 w9) := B2.out.trans ((one_box.trans (hb3.mono (by simp))).mono B2.out.size)
  have E9 : Hid (EntsIs w9 u2 (fltP P (fltP Q zl)) ∧ EntsIs w9 u3 (fltP P (fltP Q zl))) := by
    refine ⟨(E2.out.on one_box).on hb3, ?_⟩
    rw [flt_flt]; exact hu3.ents
  clear q3 hu3 hb3 E2 x0 x1 x2 x3 x4 x5 x6 x7 y0 y1 y2 y3 y4 y5 y6 y7
  have HA : Hid (IsZ (fltP P (fltP Q zl)) ∧ ∀ e ∈ fltP P (fltP Q zl), hd P e.1 = true ∧ hd Q e.1 = true ∧ gt e.1 zl = e.2) := by
    refine ⟨flt_isZ (flt_isZ HZ.out.1), fun e h1 => ?_⟩
    obtain ⟨h2, h3⟩ := flt_mem h1
    obtain ⟨h4, h5⟩ := flt_mem h2
    exact ⟨h3, h5, by rw [gt_wt HZ.out.1.1, wt_mem HZ.out.1.1 h4]⟩
  generalize fltP P (fltP Q zl) = A at *
  obtain ⟨aA, cA, hA⟩ := E9.out.1.form
  have lA := E9.out.1.le
  unfold maxLen at lA
  subst hA
  go_wp2_with fail
  go_loopw [11] (fun i wr => ∃ j : Nat, j ≤ A.length ∧ i = .int .i64 j ∧ Hid (Below w9.heap.size w9 wr)) (fun i _ => A.length - (intOf i).toNat)
  case atStart => exact ⟨0, by omega, rfl, Below.refl _ _⟩
  case round =>
    obtain ⟨j, hj, rfl, hT⟩ := hrel
    have BR : Hid (Below W6.heap.size W6 wr) := B9.out.trans (hT.out.mono B9.out.size)
    by_cases hlt : j < A.length
    · obtain ⟨b, o, a', cap', hbo, z1, z2, hrow⟩ := (E9.out.1.on hT.out).at j hlt
      obtain ⟨e1, e2, e3⟩ := HA.out.2 _ (List.getElem_mem hlt)
      have I0 : (0 : Int) ≤ (j : Int) := by omega
      have I1 : (j : Int) < (A.length : Int) := by omega
      have HH1 : Hid (∀ V, Below wr.heap.size wr V → Calls Tryd.prog 20 #[.agg #[.int .i64 P.k, .int .i64 P.c, .int .i64 P.o, .int .i64 P.d, .int .i64 P.v.1, .int .i64 P.v.2.1, .string P.v.2.2, .slice as5 P.l.length cs5], .slice a' A[j].1.length cap'] V fun e w' => e = .returned (.bool true) ∧ Below V.heap.size V w') := fun V hV => by
        have := refHolds 2 _ P (.slice as5 P.l.length cs5) _ A[j].1 V ((F6.out.2.1.on BR.out).on hV) (hrow.on hV)
        rw [e1] at this; exact this
      have HH2 : Hid (∀ V, Below wr.heap.size wr V → Calls Tryd.prog 20 #[.agg #[.int .i64 Q.k, .int .i64 Q.c, .int .i64 Q.o, .int .i64 Q.d, .int .i64 Q.v.1, .int .i64 Q.v.2.1, .string Q.v.2.2, .slice as6 Q.l.length cs6], .slice a' A[j].1.length cap'] V fun e w' => e = .returned (.bool true) ∧ Below V.heap.size V w') := fun V hV => by
        have := refHolds 2 _ Q (.slice as6 Q.l.length cs6) _ A[j].1 V ((F6.out.2.2.1.on BR.out).on hV) (hrow.on hV)
        rw [e2] at this; exact this
      have HG : Hid (∀ V, Below wr.heap.size wr V → Calls Tryd.prog 21 #[vz, .slice a' A[j].1.length cap'] V fun e w' => e = .returned (.int .i64 A[j].2) ∧ Below V.heap.size V w') := fun V hV => by
        have := refGet zl A[j].1 vz _ V ((F6.out.1.on BR.out).on hV) (hrow.on hV)
        rw [e3] at this; exact this
      obtain ⟨⟨x0, x1, x2, x3, x4, x5, x6, x7⟩, _, _⟩ := F6.out.2.2.2.1.on BR.out
      obtain ⟨⟨y0, y1, y2, y3, y4, y5, y6, y7⟩, _, _⟩ := F6.out.2.2.2.2.1.on BR.out
      simp only [Nat.zero_add] at x1 x2 x3 x4 x5 x6 x7 y1 y2 y3 y4 y5 y6 y7
      have g0 := Ex.cell x0
      have g1 := Ex.cell x1
      have g2 := Ex.cell x2
      have g3 := Ex.cell x3
      have g4 := Ex.cell x4
      have g5 := Ex.cell x5
      have g6 := Ex.cell x6
      have g7 := Ex.cell x7
      have k0 := Ex.cell y0
      have k1 := Ex.cell y1
      have k2 := Ex.cell y2
      have k3 := Ex.cell y3
      have k4 := Ex.cell y4
      have k5 := Ex.cell y5
      have k6 := Ex.cell y6
      have k7 := Ex.cell y7
      have gz1 := Ex.cell z1
      have gz2 := Ex.cell z2
      have ne := Ex.ne wr
      have B0 : Hid (Below wr.heap.size wr wr.drew) := (Below.refl _ _).drew
      subst hbo
      clear e1 e2 e3 hrow z1 z2 x0 x1 x2 x3 x4 x5 x6 x7 y0 y1 y2 y3 y4 y5 y6 y7
      generalize A[j].1.length = nm at *
      generalize A[j].2 = xn at *
      go_wp2_with fail
      refine wp_region_ord_at (Ex wr) (regOf Tryd.f6.body 16) ((0, true) :: (1, true) :: (2, true) :: (3, true) :: (4, true) :: (5, true) :: (6, false) :: (7, true) :: (8, true) :: (9, true) :: (10, true) :: (11, true) :: (12, true) :: (13, true) :: (14, true) :: (15, false) :: (16, true) :: (17, true) :: (18, true) :: (19, true) :: (20, true) :: (21, true) :: (22, true) :: (23, true) :: (24, true) :: (26, true) :: (27, true) :: (28, true) :: (29, true) :: (30, true) :: (25, false) :: (31, true) :: (32, true) :: []) (by kernel_rfl) (by kernel_rfl) lf_ord16 B0.out ?_
      generalize wr.drew = v0 at *
      repeat (refine ord_quiet rfl ?_; go_big_quiet_step (fail); refine wpQuiet_nil ?_)
      refine ord_call rfl (by rfl) 20 rfl (enters_of Tryd.func20 (by kernel_rfl) rfl) [.agg #[.int .i64 P.k, .int .i64 P.c, .int .i64 P.o, .int .i64 P.d, .int .i64 P.v.1, .int .i64 P.v.2.1, .string P.v.2.2, .slice as5 P.l.length cs5], .slice a' nm cap'] (by rfl) _ (HH1.out v0 B0.out) ?_
      rintro e v1 ⟨rfl, hb0⟩
      have B1 : Hid (Below wr.heap.size wr v1) := B0.out.trans (hb0.mono B0.out.size)
      clear hb0
      refine ⟨_, rfl, Ex.of B1.out, ?_⟩
      simp only [Act.put, List.setIfInBounds_toArray, List.set_cons_zero, List.set_cons_succ]
      repeat (refine ord_quiet rfl ?_; go_big_quiet_step (fail); refine wpQuiet_nil ?_)
      refine ord_call rfl (by rfl) 20 rfl (enters_of Tryd.func20 (by kernel_rfl) rfl) [.agg #[.int .i64 Q.k, .int .i64 Q.c, .int .i64 Q.o, .int .i64 Q.d, .int .i64 Q.v.1, .int .i64 Q.v.2.1, .string Q.v.2.2, .slice as6 Q.l.length cs6], .slice a' nm cap'] (by rfl) _ (HH2.out v1 B1.out) ?_
      rintro e v2 ⟨rfl, hb1⟩
      have B2 : Hid (Below wr.heap.size wr v2) := B1.out.trans (hb1.mono B1.out.size)
      clear hb1
      refine ⟨_, rfl, Ex.of B2.out, ?_⟩
      simp only [Act.put, List.setIfInBounds_toArray, List.set_cons_zero, List.set_cons_succ]
      repeat (refine ord_quiet rfl ?_; go_big_quiet_step (fail); refine wpQuiet_nil ?_)
      refine ord_call rfl (by rfl) 21 rfl (enters_of Tryd.func21 (by kernel_rfl) rfl) [vz, .slice a' nm cap'] (by rfl) _ (HG.out v2 B2.out) ?_
      rintro e v3 ⟨rfl, hb2⟩
      have B3 : Hid (Below wr.heap.size wr v3) := B2.out.trans (hb2.mono B2.out.size)
      clear hb2
      refine ⟨_, rfl, Ex.of B3.out, ?_⟩
      simp only [Act.put, List.setIfInBounds_toArray, List.set_cons_zero, List.set_cons_succ]
      repeat (refine ord_quiet rfl ?_; go_big_quiet_step (fail); refine wpQuiet_nil ?_)
      refine ord_end ?_
      have TN : Hid (Below w9.heap.size w9 v3) := hT.out.trans (B3.out.mono hT.out.size)
      clear HH1 HH2 HG ne gz1 gz2 g0 k0 g1 k1 g2 k2 g3 k3 g4 k4 g5 k5 g6 k6 g7 k7 B0 B1 B2 B3
      go_wp2_with fail
      go_roundw
      case rel => exact ⟨j + 1, by omega, by go_num, TN.out⟩
      case measure => simp [intOf]; omega
    · obtain rfl : j = A.length := by omega
      have I1 : ¬ (A.length : Int) < (A.length : Int) := by omega
      have qs := sameEntries A A _ _ wr (E9.out.1.on hT.out) (E9.out.2.on hT.out)
      have es : sEs A A = true := by unfold sEs; simp
      rw [es] at qs
      clear es
      go_wp2_with fail
      refine qs.mono ?_
      rintro e w10 ⟨rfl, hb10⟩
      have qc := refCheckSet A _ w10 ((E9.out.1.on hT.out).on hb10)
      rw [isZ_yes HA.out.1] at qc
      have B10 : Hid (Below W6.heap.size W6 w10) := BR.out.trans (hb10.mono BR.out.size)
      clear qs hb10
      go_wp2_with fail
      refine qc.mono ?_
      rintro e w11 ⟨rfl, hb11⟩
      have B11 : Hid (Below w.heap.size w w11) := F6.out.2.2.2.2.2.trans ((B10.out.trans (hb11.mono B10.out.size)).mono F6.out.2.2.2.2.2.size)
      clear qc hb11
      go_wp2_with fail
      go_ret
      exact ⟨rfl, B11.out⟩
theorem linearFilters_walk (a : Option Addr) (len cap : Nat) (zs : List Int) (w : World) (he : ∃ eA eO, ArOvAt eA eO w) (ha : IsRow .i64 w a len cap zs) :
    Calls Tryd.prog 6 #[.slice a len cap] w fun e w' => e = .returned (.bool true) ∧ Below w.heap.size w w' := by
  obtain ⟨eA, eO, he⟩ := he
  by_cases h : 150 < (len : Int)
  · exact lf_long a len cap eA eO w he h
  · exact lf_main a len cap zs eA eO h w he ha
end Go.Proofs.YtaccinophamgmaaDoor
