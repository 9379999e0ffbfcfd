/- The walk of the law that filters, projections and sums are linear. -/
import Derived.Test.YtaccinophamgmaaDoorLnCalls
import Derived.Test.YtaccinophamgmaaDoorLnSums
import Derived.Test.YtaccinophamgmaaDoorPackAr
import Derived.Test.YtaccinophamgmaaDoorPackPdE
import Derived.Test.YtaccinophamgmaaDoorPackRow
namespace Go.Proofs.YtaccinophamgmaaDoor
open Go.RowKit Go.Sort
set_option maxRecDepth 100000
set_option linter.unusedVariables false

theorem ls_ord13 : ordOk (regOf Tryd.f4.body 13) ((0, true) :: (1, true) :: (3, true) :: (4, true) :: (2, false) :: (5, false) :: (6, false) :: (7, true) :: (8, true) :: (9, true) :: (10, true) :: (11, true) :: []) = true := by kernel_rfl
theorem ls_ord19 : ordOk (regOf Tryd.f4.body 19) ((0, true) :: (1, true) :: (3, true) :: (4, true) :: (2, false) :: (5, false) :: (6, false) :: (7, true) :: (8, true) :: (9, true) :: (10, true) :: (11, true) :: []) = true := by kernel_rfl
theorem kinds121 : ∀ (i : Nat) (h : i < ([1, 2, 1] : List Int).length), ([1, 2, 1] : List Int)[i] = 0 ∨ ([1, 2, 1] : List Int)[i] = 1 ∨ ([1, 2, 1] : List Int)[i] = 2 ∨ ([1, 2, 1] : List Int)[i] = 3 := by
  intro i hi
  have : i = 0 ∨ i = 1 ∨ i = 2 := by simp at hi; omega
  rcases this with rfl | rfl | rfl <;> simp
theorem kin121 : ∀ k ∈ ([1, 2, 1] : List Int), k = 1 ∨ k = 2 ∨ k = 3 := by simp
theorem col3 (n : Int) : 0 ≤ (wrap64 (n.tmod 3 + 3)).tmod 3 ∧ (wrap64 (n.tmod 3 + 3)).tmod 3 < 3 := by
  have h1 : -3 < n.tmod 3 ∧ n.tmod 3 < 3 := ⟨Int.lt_tmod_of_pos n (by decide), Int.tmod_lt_of_pos n (by decide)⟩
  have e : wrap64 (n.tmod 3 + 3) = n.tmod 3 + 3 := by unfold wrap64; omega
  rw [e]
  exact ⟨Int.tmod_nonneg _ (by omega), Int.tmod_lt_of_pos _ (by decide)⟩
theorem one_lL {n : Nat} {W : World} {P : Pd} {s : Value} (h : PdL (fun _ => True) n W s P.l) : PdL (fun _ => True) (n + 1) (W.alloc (.cells #[.int .i64 P.k, .int .i64 P.c, .int .i64 P.o, .int .i64 P.d, .int .i64 P.v.1, .int .i64 P.v.2.1, .string P.v.2.2, s] 33)) (.slice (some ⟨W.heap.size, 0, none⟩) 1 1) [P] := by
  refine .inr ⟨W.heap.size, 0, 1, rfl, Nat.le_refl _, by decide, by simp, trivial, fun i hi => ?_⟩
  have : i = 0 := by simp at hi; omega
  subst this
  refine ⟨s, ⟨?_, ?_, ?_, ?_, ?_, ?_, ?_, ?_⟩, h.on one_box⟩ <;> (rw [World.cell?_alloc_at _ _ _ _ rfl]; rfl)
/-- What the law has at hand. -/
def LsAt (b : Nat) (vx vy : Value) (x y : List Ent) (P : Pd) (s : Value) (eA eO : Addr) (V : World) : Prop :=
  EntsIs V vx x ∧ EntsIs V vy y ∧ PdL (fun _ => True) 2 V s P.l ∧ PdBox b P s V ∧ ArOvAt eA eO V
theorem LsAt.on {b : Nat} {vx vy : Value} {x y : List Ent} {P : Pd} {s : Value} {eA eO : Addr} {V V' : World} (h : LsAt b vx vy x y P s eA eO V) (hb : Below V.heap.size V V') : LsAt b vx vy x y P s eA eO V' :=
  ⟨h.1.on hb, h.2.1.on hb, h.2.2.1.on hb, h.2.2.2.1.on hb, h.2.2.2.2.1.on hb, h.2.2.2.2.2.on hb⟩
theorem lsFilter {B m : Nat} {z : List Ent} (hz : S3 B m 3 z) (hB : B ≤ 1000000) (hm : m ≤ 65536) (n : Nat) (p : Pd) (s va : Value) (w : World) (hp : PdL (fun _ => True) n w s p.l) (ha : EntsIs w va z) :
    Calls Tryd.prog 16 #[pv p s, va] w fun e w' => ∃ v, e = .returned v ∧ EntsIs w' v (fltP p z) ∧ Below w.heap.size w w' :=
  (lnFilter n _ p s va z w (Nat.le_trans hz.2.2.1 hm) (hz.ok hB (by decide)) hp ha).mono fun _ _ ⟨v, h1, h2, h3⟩ => ⟨v, h1, h2.ents, h3⟩
theorem lsUnion {B C m k n : Nat} {x y : List Ent} (hx : S3 B m n x) (hy : S3 C k n y) (hn : n ≤ 65536) (hB : B + C ≤ 1000000) (hm : m + k ≤ 65536) (va vb : Value) (eO : Addr) (w : World) (ho : OverAt eO w) (ha : EntsIs w va x) (hb : EntsIs w vb y) :
    Calls Tryd.prog 12 #[va, vb] w fun e w' => ∃ v, e = .returned (.tuple #[v, .nilIface]) ∧ EntsIs w' v (mkZ (x ++ y)) ∧ Below w.heap.size w w' :=
  (lnUnion x y va vb eO w ho (Nat.le_trans (Nat.add_le_add hx.2.2.1 hy.2.2.1) hm) (hx.ok (by omega) hn) (hy.ok (by omega) hn) hx.1.1 hy.1.1 ha hb).mono fun _ _ ⟨v, h1, h2, h3⟩ => ⟨v, by rw [h1, (hx.add hy hB).1]; rfl, h2.ents, h3⟩
theorem lsProject {B m : Nat} {z : List Ent} (hz : S3 B m 3 z) (ks : List Int) (hk : ∀ k ∈ ks, 0 ≤ k ∧ k < ((3 : Nat) : Int)) (hl : ks.length ≤ 65536) (hB0 : B ≤ 1000000) (hB : B * m ≤ 1000000) (hm : m ≤ 65536) (cv va : Value) (eA eO : Addr) (w : World) (he : ArOvAt eA eO w) (hc : IntsIs w cv ks) (ha : EntsIs w va z) :
    Calls Tryd.prog 10 #[cv, va] w fun e w' => ∃ v, e = .returned (.tuple #[v, .nilIface]) ∧ EntsIs w' v (prjZ ks z) ∧ Below w.heap.size w w' :=
  (lnProject ks cv va z eA eO w he.1 he.2 (Nat.le_trans hz.2.2.1 hm) (hz.ok hB0 (by decide)) hl (fun k h => inI_iff.2 (by have := hk k h; omega)) hc ha).mono fun _ _ ⟨v, h1, h2, h3⟩ => ⟨v, by rw [h1]; unfold prjE; rw [hz.cols hk, (hz.prj hk hB).1]; rfl, h2.ents, h3⟩
set_option maxHeartbeats 1000000 in
theorem ls_long (a : Option Addr) (len cap : Nat) (ca cb : Int) (eA eO : Addr) (w : World) (he : ArOvAt eA eO w) (h : 150 < (len : Int)) :
    Calls Tryd.prog 4 #[.slice a len cap, .int .i64 ca, .int .i64 cb] w fun e w' => e = .returned (.bool true) ∧ Below w.heap.size w w' := by
  have q := lawFirst11 eA eO w he.1 he.2
  clear he
  go_enter Tryd.func4, Tryd.ntmps4
  go_wp2_with fail
  refine q.mono ?_
  rintro e w1 ⟨rfl, hb1⟩
  go_wp2_with fail
  go_ret
  exact ⟨rfl, hb1⟩
set_option maxHeartbeats 8000000 in
theorem ls_main (a : Option Addr) (len cap : Nat) (zs : List Int) (ca cb : Int) (eA eO : Addr) (h : ¬ 150 < (len : Int)) (w : World) (he : ArOvAt eA eO w) (ha : IsRow .i64 w a len cap zs) :
    Calls Tryd.prog 4 #[.slice a len cap, .int .i64 ca, .int .i64 cb] w fun e w' => e = .returned (.bool true) ∧ Below w.heap.size w w' := by
  have Ha : Hid (IsRow .i64 w a len cap zs) := ha
  have HE : Hid (ArOvAt eA eO w) := he
  have q := lawFirst11 eA eO w he.1 he.2
  clear ha he
  go_enter Tryd.func4, Tryd.ntmps4
  go_wp2_with fail
  refine q.mono ?_
  rintro e w1 ⟨rfl, hb1⟩
  have B1 : Hid (Below w.heap.size w w1) := hb1
  clear q
  have HS : Hid (SeqAt w1.heap.size a len cap zs 0 (w1.alloc (.cells #[.slice a len cap, .int .i64 0] 26))) := SeqAt.make (Ha.out.below hb1) _
  clear hb1
  go_wp2_with fail
  obtain ⟨W3, hW3⟩ : ∃ W3, W3 = (w1.alloc (.cells #[.slice a len cap, .int .i64 0] 26)).alloc (.cells #[.int .i64 1, .int .i64 2, .int .i64 1] 3) := ⟨_, rfl⟩
  rw [← hW3]
  have F3 : Hid (SeqAt w1.heap.size a len cap zs 0 W3 ∧ ColsAt (w1.heap.size + 1) [1, 2, 1] W3 ∧ Below w.heap.size w W3 ∧ w1.heap.size < W3.heap.size) := by
    have c1 := cols_newP (w1.alloc (.cells #[.slice a len cap, .int .i64 0] 26)) [1, 2, 1] 3
    rw [World.size_alloc] at c1
    rw [hW3]
    exact ⟨HS.out.on one_box, c1, B1.out.trans ((one_box.trans (one_box.mono (by simp))).mono B1.out.size), by simp; omega⟩
  clear hW3 HS
  obtain ⟨S, hS⟩ : ∃ S, S = w1.heap.size := ⟨_, rfl⟩
  have HSW : Hid (w.heap.size ≤ S) := by show w.heap.size ≤ S; rw [hS]; exact B1.out.size
  rw [← hS] at F3
  rw [← hS]
  clear hS B1
  have q4 := makeSet S a len cap zs 0 (S + 1) 3 3 [1, 2, 1] 8 W3 F3.out.1 (by decide) (by decide) F3.out.2.1 (by omega) (by decide) (by simp) kinds121
  refine q4.mono ?_
  rintro e w4 ⟨vx, x, rfl, ⟨p4, ix, ex, lx, nx, hp4, seq4, but4⟩, bx, kx⟩
  have F4 : Hid (S3 800 8 3 x ∧ EntsNew W3.heap.size x vx w4 ∧ p4 ≤ 200 ∧ SeqAt S a len cap zs p4 w4 ∧ But S W3 w4) := ⟨⟨ix, fun r => by have := bx r; omega, lx, fun e he => (kx e he).1⟩, nx, by omega, seq4, but4⟩
  clear q4 ix ex lx nx hp4 seq4 but4 bx kx
  have q5 := makeSet S a len cap zs p4 (S + 1) 3 3 [1, 2, 1] 8 w4 F4.out.2.2.2.1 (by have := F4.out.2.2.1; omega) (by decide) (F3.out.2.1.but F4.out.2.2.2.2 (by omega)) (by omega) (by decide) (by simp) kinds121
  go_wp2_with fail
  refine q5.mono ?_
  rintro e w5 ⟨vy, y, rfl, ⟨p5, iy, ey, ly, ny, hp5, seq5, but5⟩, bY, ky⟩
  have F5 : Hid (S3 800 8 3 y ∧ EntsNew W3.heap.size x vx w5 ∧ EntsNew W3.heap.size y vy w5 ∧ p5 ≤ 400 ∧ SeqAt S a len cap zs p5 w5 ∧ But S W3 w5) := by
    have f := F4.out
    have f3 := F3.out
    have hz : W3.heap.size ≤ w4.heap.size := f.2.2.2.2.size
    exact ⟨⟨iy, fun r => by have := bY r; omega, ly, fun e he => (ky e he).1⟩, f.2.1.but but5 f3.2.2.2, ny.mono hz, by have := f.2.2.1; omega, seq5, f.2.2.2.2.trans but5⟩
  clear q5 iy ey ly ny hp5 seq5 but5 bY ky
  have q6 : Calls Tryd.prog 9 #[.pointer (some ⟨S, 0, none⟩), .slice (some ⟨S + 1, 0, none⟩) 3 3, .int .i64 2] w5 (PdMade S a len cap zs [1, 2, 1] 2 p5 w5) :=
    makePred S a len cap zs p5 (S + 1) 0 3 [1, 2, 1] 2 (by omega) _ F5.out.2.2.2.2.1 (by have := F5.out.2.2.2.1; omega) ((F3.out.2.1.but F5.out.2.2.2.2.2 (by omega)).ints 3 rfl (by simp [maxLen])) (by omega) (by simp) (by simp) kin121
  go_wp2_with fail
  refine q6.mono ?_
  rintro e w6 ⟨P, s6, p6, rfl, mk6, pl6, hp6, seq6, but6⟩
  obtain ⟨as6, cs6, hs6⟩ := pl6.form
  subst hs6
  unfold pv
  have F6 : Hid (EntsIs w6 vx x ∧ EntsIs w6 vy y ∧ PdL (fun _ => True) 2 w6 (.slice as6 P.l.length cs6) P.l ∧ Below w.heap.size w w6) := by
    have f := F5.out
    have f3 := F3.out
    exact ⟨(f.2.1.but but6 f3.2.2.2).ents, (f.2.2.1.but but6 f3.2.2.2).ents, pl6.any, f3.2.2.1.trans ((f.2.2.2.2.2.trans but6).below HSW.out f3.2.2.1.size)⟩
  have HX : Hid (S3 800 8 3 x ∧ S3 800 8 3 y) := ⟨F4.out.1, F5.out.1⟩
  clear q6 mk6 pl6 hp6 seq6 but6 F5 F4 F3 HSW
  go_wp2_with fail
  obtain ⟨W7, hW7⟩ : ∃ W, W = (w6.alloc (.cells #[.int .i64 P.k, .int .i64 P.c, .int .i64 P.o, .int .i64 P.d, .int .i64 P.v.1, .int .i64 P.v.2.1, .string P.v.2.2, .slice as6 P.l.length cs6] 33)).alloc (.cells #[.int .i64 ((wrap64 (ca.tmod 3 + 3)).tmod 3), .int .i64 ((wrap64 (cb.tmod 3 + 3)).tmod 3)] 3) := ⟨_, rfl⟩
  rw [← hW7]
  have HK : Hid (∀ k ∈ [(wrap64 (ca.tmod 3 + 3)).tmod 3, (wrap64 (cb.tmod 3 + 3)).tmod 3], 0 ≤ k ∧ k < ((3 : Nat) : Int)) := by
    intro k hk
    simp only [List.mem_cons, List.not_mem_nil, or_false] at hk
    rcases hk with rfl | rfl
    · exact col3 ca
    · exact col3 cb
  have F7 : Hid (LsAt w6.heap.size vx vy x y P (.slice as6 P.l.length cs6) eA eO W7 ∧ IntsIs W7 (.slice (some ⟨w6.heap.size + 1, 0, none⟩) 2 2) [(wrap64 (ca.tmod 3 + 3)).tmod 3, (wrap64 (cb.tmod 3 + 3)).tmod 3] ∧ Below w.heap.size w W7) := by
    have f := F6.out
    have c1 := cols_newP (w6.alloc (.cells #[.int .i64 P.k, .int .i64 P.c, .int .i64 P.o, .int .i64 P.d, .int .i64 P.v.1, .int .i64 P.v.2.1, .string P.v.2.2, .slice as6 P.l.length cs6] 33)) [(wrap64 (ca.tmod 3 + 3)).tmod 3, (wrap64 (cb.tmod 3 + 3)).tmod 3] 3
    rw [World.size_alloc] at c1
    have b7 : Below w6.heap.size w6 W7 := by rw [hW7]; exact one_box.trans (one_box.mono (by simp))
    have bx : PdBox w6.heap.size P (.slice as6 P.l.length cs6) W7 := by rw [hW7]; exact (PdBox.new w6 P _).on one_box
    have bb := f.2.2.2.trans (b7.mono f.2.2.2.size)
    refine ⟨⟨f.1.on b7, f.2.1.on b7, f.2.2.1.on b7, bx, HE.out.1.on bb, HE.out.2.on bb⟩, ?_, bb⟩
    rw [hW7]
    exact c1.ints 2 rfl (by simp [maxLen])
  have HKL : Hid ([(wrap64 (ca.tmod 3 + 3)).tmod 3, (wrap64 (cb.tmod 3 + 3)).tmod 3].length = 2) := rfl
  generalize [(wrap64 (ca.tmod 3 + 3)).tmod 3, (wrap64 (cb.tmod 3 + 3)).tmod 3] = ks at HK F7 HKL
  clear hW7 F6
  generalize w6.heap.size = bP at *
  have q7 := lsUnion HX.out.1 HX.out.2 (by decide) (by decide) (by decide) vx vy eO W7 F7.out.1.2.2.2.2.2 F7.out.1.1 F7.out.1.2.1
  refine q7.mono ?_
  rintro e w8 ⟨vxy, rfl, e8, b8⟩
  have F8 : Hid (LsAt bP vx vy x y P (.slice as6 P.l.length cs6) eA eO w8 ∧ IntsIs w8 (.slice (some ⟨bP + 1, 0, none⟩) 2 2) ks ∧ EntsIs w8 vxy (mkZ (x ++ y)) ∧ Below w.heap.size w w8) := ⟨F7.out.1.on b8, F7.out.2.1.on b8, e8, F7.out.2.2.trans (b8.mono F7.out.2.2.size)⟩
  have HF1 : Hid (∀ V, Below w8.heap.size w8 V → Calls Tryd.prog 16 #[.agg #[.int .i64 P.k, .int .i64 P.c, .int .i64 P.o, .int .i64 P.d, .int .i64 P.v.1, .int .i64 P.v.2.1, .string P.v.2.2, .slice as6 P.l.length cs6], vx] V fun e w' => ∃ v, e = .returned v ∧ EntsIs w' v (fltP P x) ∧ Below V.heap.size V w') := fun V hV => lsFilter HX.out.1 (by decide) (by decide) 2 P (.slice as6 P.l.length cs6) vx V (F8.out.1.2.2.1.on hV) (F8.out.1.1.on hV)
  have HF2 : Hid (∀ V, Below w8.heap.size w8 V → Calls Tryd.prog 16 #[.agg #[.int .i64 P.k, .int .i64 P.c, .int .i64 P.o, .int .i64 P.d, .int .i64 P.v.1, .int .i64 P.v.2.1, .string P.v.2.2, .slice as6 P.l.length cs6], vy] V fun e w' => ∃ v, e = .returned v ∧ EntsIs w' v (fltP P y) ∧ Below V.heap.size V w') := fun V hV => lsFilter HX.out.2 (by decide) (by decide) 2 P (.slice as6 P.l.length cs6) vy V (F8.out.1.2.2.1.on hV) (F8.out.1.2.1.on hV)
  have HU : Hid (∀ V va vb, Below w8.heap.size w8 V → EntsIs V va (fltP P x) → EntsIs V vb (fltP P y) → Calls Tryd.prog 12 #[va, vb] V fun e w' => ∃ v, e = .returned (.tuple #[v, .nilIface]) ∧ EntsIs w' v (mkZ (fltP P x ++ fltP P y)) ∧ Below V.heap.size V w') := fun V va vb hV h1 h2 => lsUnion (HX.out.1.flt P) (HX.out.2.flt P) (by decide) (by decide) (by decide) va vb eO V (F8.out.1.2.2.2.2.2.on hV) h1 h2
  obtain ⟨⟨x0, x1, x2, x3, x4, x5, x6, x7⟩, _, _⟩ := F8.out.1.2.2.2.1
  simp only [Nat.zero_add] at x1 x2 x3 x4 x5 x6 x7
  have g0 := Ex.cell x0
  have g1 := Ex.cell x1
  have g2 := Ex.cell x2
  have g3 := Ex.cell x3
  have g4 := Ex.cell x4
  have g5 := Ex.cell x5
  have g6 := Ex.cell x6
  have g7 := Ex.cell x7
  have ne := Ex.ne w8
  have B0 : Hid (Below w8.heap.size w8 w8.drew) := (Below.refl _ _).drew
  clear x0 x1 x2 x3 x4 x5 x6 x7 q7 e8 b8 F7
  go_wp2_with fail
  refine wp_region_ord_at (Ex w8) (regOf Tryd.f4.body 13) ((0, true) :: (1, true) :: (3, true) :: (4, true) :: (2, false) :: (5, false) :: (6, false) :: (7, true) :: (8, true) :: (9, true) :: (10, true) :: (11, true) :: []) (by kernel_rfl) (by kernel_rfl) ls_ord13 B0.out ?_
  generalize w8.drew = v0 at *
  repeat (refine ord_quiet rfl ?_; go_big_quiet_step (fail); refine wpQuiet_nil ?_)
  refine ord_call rfl (by rfl) 16 rfl (enters_of Tryd.func16 (by kernel_rfl) rfl) [.agg #[.int .i64 P.k, .int .i64 P.c, .int .i64 P.o, .int .i64 P.d, .int .i64 P.v.1, .int .i64 P.v.2.1, .string P.v.2.2, .slice as6 P.l.length cs6], vx] (by rfl) _ (HF1.out v0 B0.out) ?_
  rintro e v1 ⟨u1, rfl, hu1, hb0⟩
  have B1 : Hid (Below w8.heap.size w8 v1) := B0.out.trans (hb0.mono B0.out.size)
  clear hb0
  refine ⟨_, rfl, Ex.of B1.out, ?_⟩
  simp only [Act.put, List.setIfInBounds_toArray, List.set_cons_zero, List.set_cons_succ]
  repeat (refine ord_quiet rfl ?_; go_big_quiet_step (fail); refine wpQuiet_nil ?_)
  refine ord_call rfl (by rfl) 16 rfl (enters_of Tryd.func16 (by kernel_rfl) rfl) [.agg #[.int .i64 P.k, .int .i64 P.c, .int .i64 P.o, .int .i64 P.d, .int .i64 P.v.1, .int .i64 P.v.2.1, .string P.v.2.2, .slice as6 P.l.length cs6], vy] (by rfl) _ (HF2.out v1 B1.out) ?_
  rintro e v2 ⟨u2, rfl, hu2, hb1⟩
  have B2 : Hid (Below w8.heap.size w8 v2) := B1.out.trans (hb1.mono B1.out.size)
  
  refine ⟨_, rfl, Ex.of B2.out, ?_⟩
  simp only [Act.put, List.setIfInBounds_toArray, List.set_cons_zero, List.set_cons_succ]
  repeat (refine ord_quiet rfl ?_; go_big_quiet_step (fail); refine wpQuiet_nil ?_)
  refine ord_call rfl (by rfl) 12 rfl (enters_of Tryd.func12 (by kernel_rfl) rfl) [u1, u2] (by rfl) _ (HU.out v2 u1 u2 B2.out (hu1.on hb1) hu2) ?_
  rintro e v3 ⟨u3, rfl, hu3, hb2⟩
  have B3 : Hid (Below w8.heap.size w8 v3) := B2.out.trans (hb2.mono B2.out.size)
  refine ⟨_, rfl, Ex.of B3.out, ?_⟩
  simp only [Act.put, List.setIfInBounds_toArray, List.set_cons_zero, List.set_cons_succ]
  repeat (refine ord_quiet rfl ?_; go_big_quiet_step (fail); refine wpQuiet_nil ?_)
  refine ord_end ?_
  have F9 : Hid (LsAt bP vx vy x y P (.slice as6 P.l.length cs6) eA eO v3 ∧ IntsIs v3 (.slice (some ⟨bP + 1, 0, none⟩) 2 2) ks ∧ EntsIs v3 vxy (mkZ (x ++ y)) ∧ EntsIs v3 u3 (mkZ (fltP P x ++ fltP P y)) ∧ Below w.heap.size w v3) := ⟨F8.out.1.on B3.out, F8.out.2.1.on B3.out, F8.out.2.2.1.on B3.out, hu3, F8.out.2.2.2.trans (B3.out.mono F8.out.2.2.2.size)⟩
  clear hu1 hu2 hu3 hb1 hb2 HF1 HF2 HU ne B0 B1 B2 B3 F8 g0 g1 g2 g3 g4 g5 g6 g7
  go_wp2_with fail
  have HXY : Hid (S3 1600 16 3 (mkZ (x ++ y))) := (HX.out.1.add HX.out.2 (by decide)).2.1
  have hkl : ks.length ≤ 65536 := by rw [HKL.out]; decide
  have q10 := lsProject HXY.out ks HK.out hkl (by decide) (by decide) (by decide) (.slice (some ⟨bP + 1, 0, none⟩) 2 2) vxy eA eO v3 F9.out.1.2.2.2.2 F9.out.2.1 F9.out.2.2.1
  refine q10.mono ?_
  rintro e w10 ⟨vc, rfl, ec, b10⟩
  have F10 : Hid (LsAt bP vx vy x y P (.slice as6 P.l.length cs6) eA eO w10 ∧ IntsIs w10 (.slice (some ⟨bP + 1, 0, none⟩) 2 2) ks ∧ EntsIs w10 vxy (mkZ (x ++ y)) ∧ EntsIs w10 u3 (mkZ (fltP P x ++ fltP P y)) ∧ EntsIs w10 vc (prjZ ks (mkZ (x ++ y))) ∧ Below w.heap.size w w10) := ⟨F9.out.1.on b10, F9.out.2.1.on b10, F9.out.2.2.1.on b10, F9.out.2.2.2.1.on b10, ec, F9.out.2.2.2.2.trans (b10.mono F9.out.2.2.2.2.size)⟩
  clear q10 ec b10 F9
  have q11 := lsProject HX.out.1 ks HK.out hkl (by decide) (by decide) (by decide) (.slice (some ⟨bP + 1, 0, none⟩) 2 2) vx eA eO w10 F10.out.1.2.2.2.2 F10.out.2.1 F10.out.1.1
  go_wp2_with fail
  refine q11.mono ?_
  rintro e w11 ⟨vd, rfl, ed, b11⟩
  have F11 : Hid (LsAt bP vx vy x y P (.slice as6 P.l.length cs6) eA eO w11 ∧ IntsIs w11 (.slice (some ⟨bP + 1, 0, none⟩) 2 2) ks ∧ EntsIs w11 vxy (mkZ (x ++ y)) ∧ EntsIs w11 u3 (mkZ (fltP P x ++ fltP P y)) ∧ EntsIs w11 vc (prjZ ks (mkZ (x ++ y))) ∧ EntsIs w11 vd (prjZ ks x) ∧ Below w.heap.size w w11) := ⟨F10.out.1.on b11, F10.out.2.1.on b11, F10.out.2.2.1.on b11, F10.out.2.2.2.1.on b11, F10.out.2.2.2.2.1.on b11, ed, F10.out.2.2.2.2.2.trans (b11.mono F10.out.2.2.2.2.2.size)⟩
  clear q11 ed b11 F10
  have q12 := lsProject HX.out.2 ks HK.out hkl (by decide) (by decide) (by decide) (.slice (some ⟨bP + 1, 0, none⟩) 2 2) vy eA eO w11 F11.out.1.2.2.2.2 F11.out.2.1 F11.out.1.2.1
  go_wp2_with fail
  refine q12.mono ?_
  rintro e w12 ⟨vu, rfl, eu, b12⟩
  have F12 : Hid (LsAt bP vx vy x y P (.slice as6 P.l.length cs6) eA eO w12 ∧ EntsIs w12 vxy (mkZ (x ++ y)) ∧ EntsIs w12 u3 (mkZ (fltP P x ++ fltP P y)) ∧ EntsIs w12 vc (prjZ ks (mkZ (x ++ y))) ∧ EntsIs w12 vd (prjZ ks x) ∧ EntsIs w12 vu (prjZ ks y) ∧ Below w.heap.size w w12) := ⟨F11.out.1.on b12, F11.out.2.2.1.on b12, F11.out.2.2.2.1.on b12, F11.out.2.2.2.2.1.on b12, F11.out.2.2.2.2.2.1.on b12, eu, F11.out.2.2.2.2.2.2.trans (b12.mono F11.out.2.2.2.2.2.2.size)⟩
  clear q12 eu b12 F11
  have q13 := lsUnion (HX.out.1.prj HK.out (by decide)).2.2.1 (HX.out.2.prj HK.out (by decide)).2.2.1 hkl (by decide) (by decide) vd vu eO w12 F12.out.1.2.2.2.2.2 F12.out.2.2.2.2.1 F12.out.2.2.2.2.2.1
  go_wp2_with fail
  refine q13.mono ?_
  rintro e w13 ⟨vv, rfl, ev, b13⟩
  have F13 : Hid (LsAt bP vx vy x y P (.slice as6 P.l.length cs6) eA eO w13 ∧ EntsIs w13 vxy (mkZ (x ++ y)) ∧ EntsIs w13 u3 (mkZ (fltP P x ++ fltP P y)) ∧ EntsIs w13 vc (prjZ ks (mkZ (x ++ y))) ∧ EntsIs w13 vv (mkZ (prjZ ks x ++ prjZ ks y)) ∧ Below w.heap.size w w13) := ⟨F12.out.1.on b13, F12.out.2.1.on b13, F12.out.2.2.1.on b13, F12.out.2.2.2.1.on b13, ev, F12.out.2.2.2.2.2.2.trans (b13.mono F12.out.2.2.2.2.2.2.size)⟩
  clear q13 ev b13 F12
  obtain ⟨⟨x0, x1, x2, x3, x4, x5, x6, x7⟩, _, _⟩ := F13.out.1.2.2.2.1
  simp only [Nat.zero_add] at x1 x2 x3 x4 x5 x6 x7
  go_wp2_with fail
  obtain ⟨W14, hW14⟩ : ∃ W, W = (w13.alloc (.cells #[.int .i64 P.k, .int .i64 P.c, .int .i64 P.o, .int .i64 P.d, .int .i64 P.v.1, .int .i64 P.v.2.1, .string P.v.2.2, .slice as6 P.l.length cs6] 33)).alloc (.cells #[.int .i64 6, .int .i64 0, .int .i64 0, .int .i64 0, .int .i64 0, .int .i64 0, .string ⟨#[]⟩, .slice (some ⟨w13.heap.size, 0, none⟩) 1 1] 33) := ⟨_, rfl⟩
  rw [← hW14]
  have F14 : Hid (LsAt bP vx vy x y P (.slice as6 P.l.length cs6) eA eO W14 ∧ EntsIs W14 vxy (mkZ (x ++ y)) ∧ EntsIs W14 u3 (mkZ (fltP P x ++ fltP P y)) ∧ EntsIs W14 vc (prjZ ks (mkZ (x ++ y))) ∧ EntsIs W14 vv (mkZ (prjZ ks x ++ prjZ ks y)) ∧ Below w.heap.size w W14 ∧ PdL (fun _ => True) 3 W14 (.slice (some ⟨w13.heap.size, 0, none⟩) 1 1) [P] ∧ PdBox (w13.heap.size + 1) ⟨6, 0, 0, 0, nul, [P]⟩ (.slice (some ⟨w13.heap.size, 0, none⟩) 1 1) W14) := by
    have f := F13.out
    have b14 : Below w13.heap.size w13 W14 := by rw [hW14]; exact one_box.trans (one_box.mono (by simp))
    refine ⟨f.1.on b14, f.2.1.on b14, f.2.2.1.on b14, f.2.2.2.1.on b14, f.2.2.2.2.1.on b14, f.2.2.2.2.2.trans (b14.mono f.2.2.2.2.2.size), ?_, ?_⟩
    · rw [hW14]; exact (one_lL f.1.2.2.1).on one_box
    · have c := PdBox.new (w13.alloc (.cells #[.int .i64 P.k, .int .i64 P.c, .int .i64 P.o, .int .i64 P.d, .int .i64 P.v.1, .int .i64 P.v.2.1, .string P.v.2.2, .slice as6 P.l.length cs6] 33)) ⟨6, 0, 0, 0, nul, [P]⟩ (.slice (some ⟨w13.heap.size, 0, none⟩) 1 1)
      rw [World.size_alloc] at c
      rw [hW14]; exact c
  clear hW14 F13 x0 x1 x2 x3 x4 x5 x6 x7
  generalize w13.heap.size = bN at *
  have HF3 : Hid (∀ V, Below W14.heap.size W14 V → Calls Tryd.prog 16 #[.agg #[.int .i64 P.k, .int .i64 P.c, .int .i64 P.o, .int .i64 P.d, .int .i64 P.v.1, .int .i64 P.v.2.1, .string P.v.2.2, .slice as6 P.l.length cs6], vx] V fun e w' => ∃ v, e = .returned v ∧ EntsIs w' v (fltP P x) ∧ Below V.heap.size V w') := fun V hV => lsFilter HX.out.1 (by decide) (by decide) 2 P (.slice as6 P.l.length cs6) vx V (F14.out.1.2.2.1.on hV) (F14.out.1.1.on hV)
  have HF4 : Hid (∀ V, Below W14.heap.size W14 V → Calls Tryd.prog 16 #[.agg #[.int .i64 6, .int .i64 0, .int .i64 0, .int .i64 0, .int .i64 0, .int .i64 0, .string ⟨#[]⟩, (.slice (some ⟨bN, 0, none⟩) 1 1)], vx] V fun e w' => ∃ v, e = .returned v ∧ EntsIs w' v (fltP ⟨6, 0, 0, 0, nul, [P]⟩ x) ∧ Below V.heap.size V w') := fun V hV => lsFilter HX.out.1 (by decide) (by decide) 3 ⟨6, 0, 0, 0, nul, [P]⟩ (.slice (some ⟨bN, 0, none⟩) 1 1) vx V (F14.out.2.2.2.2.2.2.1.on hV) (F14.out.1.1.on hV)
  have HU : Hid (∀ V va vb, Below W14.heap.size W14 V → EntsIs V va (fltP P x) → EntsIs V vb (fltP ⟨6, 0, 0, 0, nul, [P]⟩ x) → Calls Tryd.prog 12 #[va, vb] V fun e w' => ∃ v, e = .returned (.tuple #[v, .nilIface]) ∧ EntsIs w' v x ∧ Below V.heap.size V w') := fun V va vb hV h1 h2 => by
    have q := lsUnion (HX.out.1.flt P) (HX.out.1.flt ⟨6, 0, 0, 0, nul, [P]⟩) (by decide) (by decide) (by decide) va vb eO V (F14.out.1.2.2.2.2.2.on hV) h1 h2
    rw [flt_not HX.out.1 (by decide) P] at q
    exact q
  obtain ⟨⟨x0, x1, x2, x3, x4, x5, x6, x7⟩, _, _⟩ := F14.out.1.2.2.2.1
  obtain ⟨⟨y0, y1, y2, y3, y4, y5, y6, y7⟩, _, _⟩ := F14.out.2.2.2.2.2.2.2
  simp only [Nat.zero_add] at x1 x2 x3 x4 x5 x6 x7
  simp only [Nat.zero_add] at y0 y1 y2 y3 y4 y5 y6 y7
  have g0 := Ex.cell x0
  have g1 := Ex.cell x1
  have g2 := Ex.cell x2
  have g3 := Ex.cell x3
  have g4 := Ex.cell x4
  have g5 := Ex.cell x5
  have g6 := Ex.cell x6
  have g7 := Ex.cell x7
  have k0 := Ex.cell y0
  have k1 := Ex.cell y1
  have k2 := Ex.cell y2
  have k3 := Ex.cell y3
  have k4 := Ex.cell y4
  have k5 := Ex.cell y5
  have k6 := Ex.cell y6
  have k7 := Ex.cell y7
  have ne := Ex.ne W14
  have B0 : Hid (Below W14.heap.size W14 W14.drew) := (Below.refl _ _).drew
  clear x0 x1 x2 x3 x4 x5 x6 x7 y0 y1 y2 y3 y4 y5 y6 y7
  refine wp_region_ord_at (Ex W14) (regOf Tryd.f4.body 19) ((0, true) :: (1, true) :: (3, true) :: (4, true) :: (2, false) :: (5, false) :: (6, false) :: (7, true) :: (8, true) :: (9, true) :: (10, true) :: (11, true) :: []) (by kernel_rfl) (by kernel_rfl) ls_ord19 B0.out ?_
  generalize W14.drew = v0 at *
  repeat (refine ord_quiet rfl ?_; go_big_quiet_step (fail); refine wpQuiet_nil ?_)
  refine ord_call rfl (by rfl) 16 rfl (enters_of Tryd.func16 (by kernel_rfl) rfl) [.agg #[.int .i64 P.k, .int .i64 P.c, .int .i64 P.o, .int .i64 P.d, .int .i64 P.v.1, .int .i64 P.v.2.1, .string P.v.2.2, .slice as6 P.l.length cs6], vx] (by rfl) _ (HF3.out v0 B0.out) ?_
  rintro e v1 ⟨u4, rfl, hu4, hb0⟩
  have B1 : Hid (Below W14.heap.size W14 v1) := B0.out.trans (hb0.mono B0.out.size)
  clear hb0
  refine ⟨_, rfl, Ex.of B1.out, ?_⟩
  simp only [Act.put, List.setIfInBounds_toArray, List.set_cons_zero, List.set_cons_succ]
  repeat (refine ord_quiet rfl ?_; go_big_quiet_step (fail); refine wpQuiet_nil ?_)
  refine ord_call rfl (by rfl) 16 rfl (enters_of Tryd.func16 (by kernel_rfl) rfl) [.agg #[.int .i64 6, .int .i64 0, .int .i64 0, .int .i64 0, .int .i64 0, .int .i64 0, .string ⟨#[]⟩, (.slice (some ⟨bN, 0, none⟩) 1 1)], vx] (by rfl) _ (HF4.out v1 B1.out) ?_
  rintro e v2 ⟨u5, rfl, hu5, hb1⟩
  have B2 : Hid (Below W14.heap.size W14 v2) := B1.out.trans (hb1.mono B1.out.size)
  
  refine ⟨_, rfl, Ex.of B2.out, ?_⟩
  simp only [Act.put, List.setIfInBounds_toArray, List.set_cons_zero, List.set_cons_succ]
  repeat (refine ord_quiet rfl ?_; go_big_quiet_step (fail); refine wpQuiet_nil ?_)
  refine ord_call rfl (by rfl) 12 rfl (enters_of Tryd.func12 (by kernel_rfl) rfl) [u4, u5] (by rfl) _ (HU.out v2 u4 u5 B2.out (hu4.on hb1) hu5) ?_
  rintro e v3 ⟨u6, rfl, hu6, hb2⟩
  have B3 : Hid (Below W14.heap.size W14 v3) := B2.out.trans (hb2.mono B2.out.size)
  refine ⟨_, rfl, Ex.of B3.out, ?_⟩
  simp only [Act.put, List.setIfInBounds_toArray, List.set_cons_zero, List.set_cons_succ]
  repeat (refine ord_quiet rfl ?_; go_big_quiet_step (fail); refine wpQuiet_nil ?_)
  refine ord_end ?_
  have F15 : Hid (LsAt bP vx vy x y P (.slice as6 P.l.length cs6) eA eO v3 ∧ EntsIs v3 vxy (mkZ (x ++ y)) ∧ EntsIs v3 u3 (mkZ (fltP P x ++ fltP P y)) ∧ EntsIs v3 vc (prjZ ks (mkZ (x ++ y))) ∧ EntsIs v3 vv (mkZ (prjZ ks x ++ prjZ ks y)) ∧ EntsIs v3 u6 x ∧ Below w.heap.size w v3) := ⟨F14.out.1.on B3.out, F14.out.2.1.on B3.out, F14.out.2.2.1.on B3.out, F14.out.2.2.2.1.on B3.out, F14.out.2.2.2.2.1.on B3.out, hu6, F14.out.2.2.2.2.2.1.trans (B3.out.mono F14.out.2.2.2.2.2.1.size)⟩
  clear hu4 hu5 hu6 hb1 hb2 HF3 HF4 HU ne B0 B1 B2 B3 F14 g0 k0 g1 k1 g2 k2 g3 k3 g4 k4 g5 k5 g6 k6 g7 k7
  obtain ⟨⟨x0, x1, x2, x3, x4, x5, x6, x7⟩, _, _⟩ := F15.out.1.2.2.2.1
  simp only [Nat.zero_add] at x1 x2 x3 x4 x5 x6 x7
  have q20 := lsFilter HXY.out (by decide) (by decide) 2 P (.slice as6 P.l.length cs6) vxy v3 F15.out.1.2.2.1 F15.out.2.1
  unfold pv at q20
  go_wp2_with fail
  refine q20.mono ?_
  rintro e w20 ⟨u7, rfl, e7, b20⟩
  have F20 : Hid (EntsIs w20 vx x ∧ EntsIs w20 u7 (fltP P (mkZ (x ++ y))) ∧ EntsIs w20 u3 (mkZ (fltP P x ++ fltP P y)) ∧ EntsIs w20 vc (prjZ ks (mkZ (x ++ y))) ∧ EntsIs w20 vv (mkZ (prjZ ks x ++ prjZ ks y)) ∧ EntsIs w20 u6 x ∧ Below w.heap.size w w20) := ⟨F15.out.1.1.on b20, e7, F15.out.2.2.1.on b20, F15.out.2.2.2.1.on b20, F15.out.2.2.2.2.1.on b20, F15.out.2.2.2.2.2.1.on b20, F15.out.2.2.2.2.2.2.trans (b20.mono F15.out.2.2.2.2.2.2.size)⟩
  clear q20 e7 b20 F15 x0 x1 x2 x3 x4 x5 x6 x7
  have q21 := sameEntries _ _ _ _ w20 F20.out.2.1 F20.out.2.2.1
  rw [flt_sum HX.out.1 HX.out.2 (by decide) P] at q21
  have es : sEs (mkZ (fltP P x ++ fltP P y)) (mkZ (fltP P x ++ fltP P y)) = true := by unfold sEs; simp
  rw [es] at q21
  clear es
  go_wp2_with fail
  refine q21.mono ?_
  rintro e w21 ⟨rfl, b21⟩
  have q22 := sameEntries _ _ _ _ w21 (F20.out.2.2.2.1.on b21) (F20.out.2.2.2.2.1.on b21)
  rw [(prj_sum HX.out.1 HX.out.2 HK.out (by decide) (by decide) (by decide)).2] at q22
  have es : sEs (mkZ (prjZ ks x ++ prjZ ks y)) (mkZ (prjZ ks x ++ prjZ ks y)) = true := by unfold sEs; simp
  rw [es] at q22
  clear es
  go_wp2_with fail
  refine q22.mono ?_
  rintro e w22 ⟨rfl, b22⟩
  have B22 : Hid (Below w20.heap.size w20 w22) := b21.trans (b22.mono b21.size)
  have q23 := sameEntries _ _ _ _ w22 (F20.out.2.2.2.2.2.1.on B22.out) (F20.out.1.on B22.out)
  have es : sEs x x = true := by unfold sEs; simp
  rw [es] at q23
  clear es q21 q22 b21 b22
  go_wp2_with fail
  refine q23.mono ?_
  rintro e w23 ⟨rfl, b23⟩
  have B23 : Hid (Below w.heap.size w w23) := F20.out.2.2.2.2.2.2.trans ((B22.out.trans (b23.mono B22.out.size)).mono F20.out.2.2.2.2.2.2.size)
  clear q23 b23
  go_wp2_with fail
  go_ret
  exact ⟨rfl, B23.out⟩
theorem linearSums_walk (a : Option Addr) (len cap : Nat) (zs : List Int) (ca : Int) (_ : (Lit.int .i64 ca).wf = true) (cb : Int) (_ : (Lit.int .i64 cb).wf = true) (w : World) (he : ∃ eA eO, ArOvAt eA eO w) (ha : IsRow .i64 w a len cap zs) :
    Calls Tryd.prog 4 #[.slice a len cap, .int .i64 ca, .int .i64 cb] w fun e w' => e = .returned (.bool true) ∧ Below w.heap.size w w' := by
  obtain ⟨eA, eO, he⟩ := he
  by_cases h : 150 < (len : Int)
  · exact ls_long a len cap ca cb eA eO w he h
  · exact ls_main a len cap zs ca cb eA eO h w he ha
end Go.Proofs.YtaccinophamgmaaDoor
