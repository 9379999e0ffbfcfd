/- The walk of the law that not of a predicate holds just where it does not, and how values stand to each other. -/
import Derived.Test.YtiphnbpkliglcaaPdMake
import Derived.Test.YtiphnbpkliglcaaPdFirst
import Derived.Test.YtiphnbpkliglcaaPdNew
import Derived.Test.YtiphnbpkliglcaaOrd
namespace Go.Proofs.Ytiphnbpkliglcaa
open Go.RowKit Go.Sort
set_option maxRecDepth 100000
set_option linter.unusedVariables false

/-- The law's seven answers, as far as k. -/
def OpsAt (A : Nat) (f : Nat → Bool) (k : Nat) (w : World) : Prop := (∀ i, i < 7 → w.cell? ⟨A, i, none⟩ = some (.bool (decide (1 ≤ i) && decide (i < k) && f i))) ∧ (∀ i, w.frozen? ⟨A, i, none⟩ = false) ∧ A < w.heap.size
theorem OpsAt.new (w : World) (f : Nat → Bool) (t : TypeId) : OpsAt w.heap.size f 1 (w.alloc (.cells #[.bool false, .bool false, .bool false, .bool false, .bool false, .bool false, .bool false] t)) := by
  refine ⟨fun i hi => ?_, fun i => by simp [go_sem], by simp⟩
  rw [World.cell?_alloc_at _ _ _ _ rfl]
  have : i = 0 ∨ i = 1 ∨ i = 2 ∨ i = 3 ∨ i = 4 ∨ i = 5 ∨ i = 6 := by omega
  rcases this with rfl | rfl | rfl | rfl | rfl | rfl | rfl <;> rfl
theorem OpsAt.on {A k : Nat} {f : Nat → Bool} {w w' : World} (h : OpsAt A f k w) (hb : Below w.heap.size w w') : OpsAt A f k w' :=
  ⟨fun i hi => by rw [hb.cell (p := ⟨A, i, none⟩) h.2.2]; exact h.1 i hi, fun i => by rw [hb.frozen (p := ⟨A, i, none⟩) h.2.2]; exact h.2.1 i, Nat.lt_of_lt_of_le h.2.2 hb.size⟩
theorem OpsAt.set {A k : Nat} {f : Nat → Bool} {w : World} (h : OpsAt A f k w) (h1 : 1 ≤ k) (h7 : k < 7) : OpsAt A f (k + 1) (w.setCell ⟨A, k, none⟩ (.bool (f k))) := by
  refine ⟨fun i hi => ?_, fun i => by rw [World.frozen?_setCell]; exact h.2.1 i, by simpa [World.setCell] using h.2.2⟩
  by_cases e : i = k
  · subst e
    have := World.cell?_setCell_same w ⟨A, i, none⟩ (.bool (f i)) (h.1 i hi)
    rw [this]
    simp [h1]
  · rw [World.cell?_setCell_other _ _ _ _ (fun x => by have := congrArg Addr.off x; simp at this; exact e this.symm), h.1 i hi]
    have : decide (i < k + 1) = decide (i < k) := by
      by_cases e2 : i < k
      · simp [e2]; omega
      · simp [e2]; omega
    rw [this]
/-- How many of less, alike, more hold, as far as k. -/
def cntO (f : Nat → Bool) (k : Nat) : Int := (if 1 < k ∧ f 1 = true then 1 else 0) + (if 3 < k ∧ f 3 = true then 1 else 0) + (if 5 < k ∧ f 5 = true then 1 else 0)
/-- How values stand to each other: nothing, less, alike, or more. -/
theorem opp_ways (x v : Val) (hx : x.1 = 0 ∨ x.1 = 1) (hv : v.1 = 0 ∨ v.1 = 1) :
    ((x.1 = 0 ∨ v.1 = 0) ∧ ∀ o, ag x o v = false) ∨ (x.1 = 1 ∧ v.1 = 1 ∧ ((ag x 1 v = false ∧ ag x 2 v = true ∧ ag x 3 v = true ∧ ag x 4 v = true ∧ ag x 5 v = false ∧ ag x 6 v = false) ∨ (ag x 1 v = true ∧ ag x 2 v = false ∧ ag x 3 v = false ∧ ag x 4 v = true ∧ ag x 5 v = false ∧ ag x 6 v = true) ∨ (ag x 1 v = false ∧ ag x 2 v = true ∧ ag x 3 v = false ∧ ag x 4 v = false ∧ ag x 5 v = true ∧ ag x 6 v = true))) := by
  by_cases h0 : x.1 = 0 ∨ v.1 = 0
  · refine .inl ⟨h0, fun o => ?_⟩
    unfold ag
    rw [if_neg (by omega)]
  · refine .inr ⟨by omega, by omega, ?_⟩
    have e : ∀ o, ag x o v = agO o (cVal x v) := fun o => by unfold ag; rw [if_pos (by omega)]
    have hc := cVal_sq x v
    simp only [e]
    generalize cVal x v = c at *
    have : c = -1 ∨ c = 0 ∨ c = 1 := by omega
    rcases this with rfl | rfl | rfl
    · exact .inl (by decide)
    · exact .inr (.inl (by decide))
    · exact .inr (.inr (by decide))
set_option maxHeartbeats 1000000 in
theorem pdopp_long (a : Option Addr) (len cap : Nat) (w : World) (h : 100 < (len : Int)) :
    Calls Try.prog 3 #[.slice a len cap] w fun e w' => e = .returned (.bool true) ∧ Below w.heap.size w w' := by
  go_enter Try.func3, Try.ntmps3
  go_wp2_with fail
  refine (lawFirst10 w).mono ?_
  rintro e w1 ⟨rfl, hb1⟩
  go_wp2_with fail
  go_ret
  exact ⟨rfl, hb1⟩
theorem kinds121 : ∀ (i : Nat) (h : i < ([1, 2, 1] : List Int).length), ([1, 2, 1] : List Int)[i] = 0 ∨ ([1, 2, 1] : List Int)[i] = 1 ∨ ([1, 2, 1] : List Int)[i] = 2 ∨ ([1, 2, 1] : List Int)[i] = 3 := by
  intro i hi
  have : i = 0 ∨ i = 1 ∨ i = 2 := by simp at hi; omega
  rcases this with rfl | rfl | rfl <;> simp
theorem not_l {n : Nat} {W : World} {P : Pd} {s : Value} (h : PdL (fun _ => True) n W s P.l) : PdL (fun _ => True) (n + 1) (W.alloc (.cells #[.int .i64 P.k, .int .i64 P.c, .int .i64 P.o, .int .i64 P.d, .int .i64 P.v.1, .int .i64 P.v.2.1, .string P.v.2.2, s] 31)) (.slice (some ⟨W.heap.size, 0, none⟩) 1 1) [P] := by
  refine .inr ⟨W.heap.size, 0, 1, rfl, Nat.le_refl _, by decide, by simp, trivial, fun i hi => ?_⟩
  obtain rfl : i = 0 := by simp at hi; omega
  exact ⟨s, PdAt.box W P s 31, h.on one_box⟩
theorem two_l {n : Nat} {W : World} {P Q : Pd} {s t : Value} (h : PdL (fun _ => True) n W s P.l) (h' : PdL (fun _ => True) n W t Q.l) : PdL (fun _ => True) (n + 1) (W.alloc (.cells #[.int .i64 P.k, .int .i64 P.c, .int .i64 P.o, .int .i64 P.d, .int .i64 P.v.1, .int .i64 P.v.2.1, .string P.v.2.2, s, .int .i64 Q.k, .int .i64 Q.c, .int .i64 Q.o, .int .i64 Q.d, .int .i64 Q.v.1, .int .i64 Q.v.2.1, .string Q.v.2.2, t] 31)) (.slice (some ⟨W.heap.size, 0, none⟩) 2 2) [P, Q] := by
  refine .inr ⟨W.heap.size, 0, 2, rfl, Nat.le_refl _, by decide, by simp, trivial, fun i hi => ?_⟩
  have : i = 0 ∨ i = 1 := by simp at hi; omega
  rcases this with rfl | rfl
  · refine ⟨s, ⟨?_, ?_, ?_, ?_, ?_, ?_, ?_, ?_⟩, h.on one_box⟩ <;> (rw [World.cell?_alloc_at _ _ _ _ rfl]; rfl)
  · refine ⟨t, ⟨?_, ?_, ?_, ?_, ?_, ?_, ?_, ?_⟩, h'.on one_box⟩ <;> (rw [World.cell?_alloc_at _ _ _ _ rfl]; rfl)
theorem hb_alloc {w w' : World} {o : Obj} (h : Hid (Below w.heap.size w w')) : Hid (Below w.heap.size w (w'.alloc o)) := Below.alloc h h.out.size o
theorem colR_zero {l : List Val} (h : 0 < l.length) : colR l 0 = l[0] := by unfold colR; rw [if_pos (by decide)]; simp [List.getD_eq_getElem?_getD, h]
def fO (r1 r2 r3 r4 r5 r6 : Bool) (i : Nat) : Bool := if i = 1 then r1 else if i = 2 then r2 else if i = 3 then r3 else if i = 4 then r4 else if i = 5 then r5 else if i = 6 then r6 else false
theorem cntO_bd (f : Nat → Bool) (k : Nat) : 0 ≤ cntO f k ∧ cntO f k ≤ 3 := by
  unfold cntO
  split <;> split <;> split <;> omega
theorem opp_ord : ordOk (regOf Try.f3.body 23) ((0, true) :: (1, true) :: (2, true) :: (5, true) :: (7, true) :: (8, true) :: (3, false) :: (4, true) :: (6, false) :: (9, true) :: (10, true) :: (11, true) :: (12, true) :: (13, true) :: (16, true) :: (18, true) :: (14, false) :: (15, true) :: (17, false) :: (19, true) :: (20, true) :: (21, true) :: (22, true) :: (23, true) :: (24, true) :: (25, true) :: (26, true) :: (29, true) :: (31, true) :: (27, false) :: (28, true) :: (30, false) :: (32, true) :: (33, true) :: (34, true) :: (35, true) :: (36, true) :: (37, true) :: (38, true) :: (39, true) :: (40, true) :: (41, true) :: (42, true) :: (43, true) :: (44, true) :: (45, true) :: (46, true) :: (47, true) :: (48, true) :: (49, true) :: (50, true) :: (51, true) :: (52, true) :: (53, true) :: (54, true) :: (55, true) :: (56, true) :: (57, true) :: (58, true) :: (59, true) :: (60, true) :: (61, true) :: (62, true) :: (63, true) :: (64, true) :: (65, true) :: (66, true) :: (67, true) :: (68, true) :: (69, true) :: (70, true) :: (71, true) :: (72, true) :: (73, true) :: (74, true) :: (75, true) :: (76, true) :: (77, true) :: (78, true) :: (79, true) :: (81, true) :: (82, true) :: (83, true) :: (84, true) :: (85, true) :: (80, false) :: (86, true) :: (87, true) :: (88, true) :: []) = true := by kernel_rfl
set_option maxHeartbeats 8000000 in
theorem pdopp_main (a : Option Addr) (len cap : Nat) (zs : List Int) (h : (len : Int) ≤ 100) (w : World) (ha : IsRow .i64 w a len cap zs) :
    Calls Try.prog 3 #[.slice a len cap] w fun e w' => e = .returned (.bool true) ∧ Below w.heap.size w w' := by
  have Ha : Hid (IsRow .i64 w a len cap zs) := ha
  clear ha
  go_enter Try.func3, Try.ntmps3
  go_wp2_with fail
  refine (lawFirst10 w).mono ?_
  rintro e w1 ⟨rfl, hb1⟩
  have B1 : Hid (Below w.heap.size w w1) := hb1
  have HS : Hid (SeqAt w1.heap.size a len cap zs 0 (w1.alloc (.cells #[.slice a len cap, .int .i64 0] 26))) := SeqAt.make (Ha.out.below hb1) _
  clear hb1
  go_wp2_with fail
  obtain ⟨W3, hW3⟩ : ∃ W3, W3 = (w1.alloc (.cells #[.slice a len cap, .int .i64 0] 26)).alloc (.cells #[.int .i64 1, .int .i64 2, .int .i64 1] 3) := ⟨_, rfl⟩
  rw [← hW3]
  have F3 : Hid (SeqAt w1.heap.size a len cap zs 0 W3 ∧ ColsAt (w1.heap.size + 1) [1, 2, 1] W3 ∧ Below w.heap.size w W3 ∧ w1.heap.size < W3.heap.size) := by
    have c1 := cols_newP (w1.alloc (.cells #[.slice a len cap, .int .i64 0] 26)) [1, 2, 1] 3
    have hs1 : (w1.alloc (.cells #[.slice a len cap, .int .i64 0] 26)).heap.size = w1.heap.size + 1 := by simp
    rw [hs1] at c1
    rw [hW3]
    exact ⟨HS.out.on one_box, c1, B1.out.trans ((one_box.trans (one_box.mono (by simp))).mono B1.out.size), by simp; omega⟩
  clear hW3 HS
  obtain ⟨S, hS⟩ : ∃ S, S = w1.heap.size := ⟨_, rfl⟩
  have HSW : Hid (w.heap.size ≤ S) := by show w.heap.size ≤ S; rw [hS]; exact B1.out.size
  rw [← hS] at F3
  rw [← hS]
  clear hS B1
  have q4 : Calls Try.prog 6 #[.pointer (some ⟨S, 0, none⟩), .slice (some ⟨S + 1, 0, none⟩) 3 3, .int .i64 2] W3 (PdMade S a len cap zs [1, 2, 1] 2 0 W3) :=
    makePred S a len cap zs 0 (S + 1) 0 3 [1, 2, 1] 2 (by omega) _ F3.out.1 (by omega) (F3.out.2.1.ints 3 rfl (by simp [maxLen])) (by omega) (by simp) (by simp) (by simp)
  refine q4.mono ?_
  rintro e w4 ⟨P, s4, p4, rfl, mk4, pl4, hp4, seq4, but4⟩
  obtain ⟨as4, cs4, hs4⟩ := pl4.form
  subst hs4
  unfold pv
  have h160 : (10 : Nat) * 4 ^ 2 = 160 := by decide
  have hp160 : p4 ≤ 160 := by omega
  have F4 : Hid (PdL (fun k => S < k) 2 w4 (.slice as4 P.l.length cs4) P.l ∧ p4 ≤ 160 ∧ SeqAt S a len cap zs p4 w4 ∧ But S W3 w4) := ⟨pl4.mono (fun k hk _ => by have := F3.out.2.2.2; omega), hp160, seq4, but4⟩
  clear q4 mk4 pl4 hp4 seq4 but4
  obtain ⟨W4, hW4⟩ : ∃ W4, W4 = w4.alloc (.cells #[.int .i64 P.k, .int .i64 P.c, .int .i64 P.o, .int .i64 P.d, .int .i64 P.v.1, .int .i64 P.v.2.1, .string P.v.2.2, .slice as4 P.l.length cs4] 31) := ⟨_, rfl⟩
  have G4 : Hid (PdL (fun k => S < k) 2 W4 (.slice as4 P.l.length cs4) P.l ∧ SeqAt S a len cap zs p4 W4 ∧ But S W3 W4 ∧ PdBox w4.heap.size P (.slice as4 P.l.length cs4) W4 ∧ S < w4.heap.size) := by
    rw [hW4]
    exact ⟨F4.out.1.on one_box, F4.out.2.2.1.on one_box, F4.out.2.2.2.trans (But.of_below one_box), PdBox.new w4 P _, by have := F4.out.2.2.2.size; have := F3.out.2.2.2; omega⟩
  have q5 : Calls Try.prog 6 #[.pointer (some ⟨S, 0, none⟩), .slice (some ⟨S + 1, 0, none⟩) 3 3, .int .i64 2] W4 (PdMade S a len cap zs [1, 2, 1] 2 p4 W4) :=
    makePred S a len cap zs p4 (S + 1) 0 3 [1, 2, 1] 2 (by omega) _ G4.out.2.1 (by have := F4.out.2.1; omega) ((F3.out.2.1.but G4.out.2.2.1 (by omega)).ints 3 rfl (by simp [maxLen])) (by omega) (by simp) (by simp) (by simp)
  rw [hW4] at q5
  go_wp2_with fail
  refine q5.mono ?_
  rw [← hW4]
  rintro e w5 ⟨Q, s5, p5, rfl, mk5, pl5, hp5, seq5, but5⟩
  obtain ⟨as5, cs5, hs5⟩ := pl5.form
  subst hs5
  unfold pv
  have hp320 : p5 ≤ 320 := by have := F4.out.2.1; omega
  obtain ⟨W5, hW5⟩ : ∃ W5, W5 = w5.alloc (.cells #[.int .i64 Q.k, .int .i64 Q.c, .int .i64 Q.o, .int .i64 Q.d, .int .i64 Q.v.1, .int .i64 Q.v.2.1, .string Q.v.2.2, .slice as5 Q.l.length cs5] 31) := ⟨_, rfl⟩
  have G5 : Hid (PdL (fun k => S < k) 2 W5 (.slice as4 P.l.length cs4) P.l ∧ PdL (fun k => S < k) 2 W5 (.slice as5 Q.l.length cs5) Q.l ∧ SeqAt S a len cap zs p5 W5 ∧ But S W3 W5 ∧ PdBox w4.heap.size P (.slice as4 P.l.length cs4) W5 ∧ PdBox w5.heap.size Q (.slice as5 Q.l.length cs5) W5 ∧ S < w4.heap.size ∧ S < w5.heap.size ∧ p5 ≤ 320 ∧ ColsAt (S + 1) [1, 2, 1] W5) := by
    have g := G4.out
    have hz : S < W4.heap.size := by have := g.2.2.1.size; have := F3.out.2.2.2; omega
    have hb : But S W3 W5 := by rw [hW5]; exact (g.2.2.1.trans but5).trans (But.of_below one_box)
    refine ⟨?_, ?_, ?_, hb, ?_, ?_, g.2.2.2.2, by have := but5.size; omega, hp320, F3.out.2.1.but hb (by omega)⟩
    · rw [hW5]; exact (g.1.but but5 (by omega)).on one_box
    · rw [hW5]; exact (pl5.on one_box).mono (fun k hk _ => by omega)
    · rw [hW5]; exact seq5.on one_box
    · rw [hW5]; exact (g.2.2.2.1.but but5 (by omega)).on one_box
    · rw [hW5]; exact PdBox.new w5 Q _
  have q6 := makeRow S a len cap zs p5 (S + 1) 3 3 [1, 2, 1] W5 G5.out.2.2.1 (by omega) G5.out.2.2.2.2.2.2.2.2.2 (by omega) (by simp) kinds121
  clear q5 mk5 pl5 hp5 seq5 but5 hp320 hp160 h160 G4 F4 hW4
  rw [hW5] at q6
  go_wp2_with fail
  refine q6.mono ?_
  rw [← hW5]
  rintro e w6 ⟨v6, rfl, l6, p6, hl6, ok6, own6, hp6, seq6, but6, _⟩
  have F6 : Hid (l6.length = 3 ∧ OkR [1, 2, 1] l6 ∧ w6.ownsRow W5.heap.size 28 3 v6 3 (rc l6) ∧ SeqAt S a len cap zs p6 w6 ∧ But S W5 w6 ∧ p6 ≤ 340) := ⟨hl6, ok6, own6, seq6, but6, by have := G5.out.2.2.2.2.2.2.2.2.1; omega⟩
  clear q6 hl6 ok6 own6 hp6 seq6 but6 hW5
  have q7 := makeValue S a len cap zs p6 1 (by omega) w6 F6.out.2.2.2.1 (by have := F6.out.2.2.2.2.2; omega)
  go_wp2_with fail
  refine q7.mono ?_
  rintro e w7 ⟨vk, vn, vs, p7, rfl, okv7, _, _, but7, _⟩
  obtain ⟨W8, hW8⟩ : ∃ W8, W8 = w7.alloc (.cells #[.int .i64 vk, .int .i64 vn, .string vs] 28) := ⟨_, rfl⟩
  obtain ⟨a6, c6, hv6⟩ := own_formP F6.out.2.2.1
  have F8 : Hid (PdL (fun k => S < k) 2 W8 (.slice as4 P.l.length cs4) P.l ∧ PdL (fun k => S < k) 2 W8 (.slice as5 Q.l.length cs5) Q.l ∧ PdBox w4.heap.size P (.slice as4 P.l.length cs4) W8 ∧ PdBox w5.heap.size Q (.slice as5 Q.l.length cs5) W8 ∧ RowIs W8 (.slice a6 3 c6) l6 ∧ (W8.cell? ⟨w7.heap.size, 0, none⟩ = some (.int .i64 vk) ∧ W8.cell? ⟨w7.heap.size, 1, none⟩ = some (.int .i64 vn) ∧ W8.cell? ⟨w7.heap.size, 2, none⟩ = some (.string vs)) ∧ Below w.heap.size w W8 ∧ (vk = 0 ∨ vk = 1) ∧ l6.length = 3 ∧ ((colR l6 0).1 = 0 ∨ (colR l6 0).1 = 1)) := by
    have g := G5.out
    have f := F6.out
    have hs3 := F3.out.2.2.2
    have hs5 : S < W5.heap.size := by have := g.2.2.2.1.size; omega
    have b57 : But S W5 w7 := f.2.2.2.2.1.trans but7
    have b58 : But S W5 W8 := by rw [hW8]; exact b57.trans (But.of_below one_box)
    refine ⟨g.1.but b58 (by omega), g.2.1.but b58 (by omega), g.2.2.2.2.1.but b58 (by omega), g.2.2.2.2.2.1.but b58 (by omega), ?_, ?_, ?_, ?_, f.1, ?_⟩
    · have o7 : W8.ownsRow W5.heap.size 28 3 (.slice a6 3 c6) 3 (rc l6) := by
        rw [hW8, ← hv6]; exact own_onP (own_but f.2.2.1 but7 hs5) one_box
      exact RowIs.of_own (base := W5.heap.size) (by rw [f.1]; exact o7)
    · rw [hW8]
      refine ⟨?_, ?_, ?_⟩ <;> (rw [World.cell?_alloc_at _ _ _ _ rfl]; rfl)
    · have b38 : But S W3 W8 := g.2.2.2.1.trans b58
      exact F3.out.2.2.1.trans (b38.below HSW.out F3.out.2.2.1.size)
    · have := okv7.2.2.2.2; omega
    · have h0 : 0 < l6.length := by rw [f.1]; decide
      have := f.2.1 0 h0 (by simp)
      have e : colR l6 0 = l6[0] := by unfold colR; rw [if_pos (by decide)]; simp [List.getD_eq_getElem?_getD, h0]
      rw [e]
      have := this.2.2.2.2
      simp at this
      omega
  subst hv6
  clear q7 okv7 but7 F6 G5 F3 HSW
  have qa := predHolds 2 _ P (.slice as4 P.l.length cs4) (.slice a6 3 c6) l6 W8 F8.out.1 F8.out.2.2.2.2.1
  unfold pv at qa
  obtain ⟨⟨x0, x1, x2, x3, x4, x5, x6, x7⟩, _, _⟩ := F8.out.2.2.1
  simp only [Nat.zero_add] at x1 x2 x3 x4 x5 x6 x7
  rw [hW8] at qa x0 x1 x2 x3 x4 x5 x6 x7
  go_wp2_with fail
  refine qa.mono ?_
  rw [← hW8]
  rintro e w9 ⟨rfl, hb9⟩
  have qb := predHolds 2 _ Q (.slice as5 Q.l.length cs5) (.slice a6 3 c6) l6 w9 (F8.out.2.1.on hb9) (F8.out.2.2.2.2.1.on hb9)
  unfold pv at qb
  obtain ⟨⟨y0, y1, y2, y3, y4, y5, y6, y7⟩, _, _⟩ := F8.out.2.2.2.1.on hb9
  simp only [Nat.zero_add] at y1 y2 y3 y4 y5 y6 y7
  have B9 : Hid (Below W8.heap.size W8 w9) := hb9
  clear qa hb9 x0 x1 x2 x3 x4 x5 x6 x7
  go_wp2_with fail
  refine qb.mono ?_
  rintro e w10 ⟨rfl, hb10⟩
  have F10 : Hid (PdL (fun k => S < k) 2 w10 (.slice as4 P.l.length cs4) P.l ∧ PdL (fun k => S < k) 2 w10 (.slice as5 Q.l.length cs5) Q.l ∧ PdBox w4.heap.size P (.slice as4 P.l.length cs4) w10 ∧ PdBox w5.heap.size Q (.slice as5 Q.l.length cs5) w10 ∧ RowIs w10 (.slice a6 3 c6) l6 ∧ (w10.cell? ⟨w7.heap.size, 0, none⟩ = some (.int .i64 vk) ∧ w10.cell? ⟨w7.heap.size, 1, none⟩ = some (.int .i64 vn) ∧ w10.cell? ⟨w7.heap.size, 2, none⟩ = some (.string vs)) ∧ Below w.heap.size w w10) := by
    have b := B9.out.trans (hb10.mono B9.out.size)
    have f := F8.out
    exact ⟨f.1.on b, f.2.1.on b, f.2.2.1.on b, f.2.2.2.1.on b, f.2.2.2.2.1.on b, ⟨cell_on f.2.2.2.2.2.1.1 b, cell_on f.2.2.2.2.2.1.2.1 b, cell_on f.2.2.2.2.2.1.2.2 b⟩, f.2.2.2.2.2.2.1.trans (b.mono f.2.2.2.2.2.2.1.size)⟩
  have HOP : Hid _ := opp_ways (colR l6 0) (vk, vn, vs) F8.out.2.2.2.2.2.2.2.2.2 F8.out.2.2.2.2.2.2.2.1
  have HQ : Hid (∀ (o : Int) (W : World), Below w10.heap.size w10 W → Calls Try.prog 9 #[.agg #[.int .i64 1, .int .i64 0, .int .i64 o, .int .i64 0, .int .i64 vk, .int .i64 vn, .string vs, .slice none 0 0], .slice a6 3 c6] W fun e w' => e = .returned (.bool (ag (colR l6 0) o (vk, vn, vs))) ∧ Below W.heap.size W w') := fun o W hW => by
    have := predHolds 0 (fun _ => True) ⟨1, 0, o, 0, (vk, vn, vs), []⟩ (.slice none 0 0) (.slice a6 3 c6) l6 W (PdL.nil _ _ _ _ _) (F10.out.2.2.2.2.1.on hW)
    rw [hd_eq] at this
    exact this
  have Q1 : Hid _ := HQ.out 1
  have Q2 : Hid _ := HQ.out 2
  have Q3 : Hid _ := HQ.out 3
  have Q4 : Hid _ := HQ.out 4
  have Q5 : Hid _ := HQ.out 5
  have Q6 : Hid _ := HQ.out 6
  have HN : Hid (l6.length = 3 ∧ ((colR l6 0).1 = 0 ∨ (colR l6 0).1 = 1)) := ⟨F8.out.2.2.2.2.2.2.2.2.1, F8.out.2.2.2.2.2.2.2.2.2⟩
  have HW2 : Hid (((colR l6 0).1 = 0 ∨ vk = 0) ∧ ag (colR l6 0) 1 (vk, vn, vs) = false ∧ ag (colR l6 0) 2 (vk, vn, vs) = false ∧ ag (colR l6 0) 3 (vk, vn, vs) = false ∧ ag (colR l6 0) 4 (vk, vn, vs) = false ∧ ag (colR l6 0) 5 (vk, vn, vs) = false ∧ ag (colR l6 0) 6 (vk, vn, vs) = false ∨ ((colR l6 0).1 = 1 ∧ vk = 1) ∧ ((ag (colR l6 0) 1 (vk, vn, vs) = false ∧ ag (colR l6 0) 2 (vk, vn, vs) = true ∧ ag (colR l6 0) 3 (vk, vn, vs) = true ∧ ag (colR l6 0) 4 (vk, vn, vs) = true ∧ ag (colR l6 0) 5 (vk, vn, vs) = false ∧ ag (colR l6 0) 6 (vk, vn, vs) = false) ∨ (ag (colR l6 0) 1 (vk, vn, vs) = true ∧ ag (colR l6 0) 2 (vk, vn, vs) = false ∧ ag (colR l6 0) 3 (vk, vn, vs) = false ∧ ag (colR l6 0) 4 (vk, vn, vs) = true ∧ ag (colR l6 0) 5 (vk, vn, vs) = false ∧ ag (colR l6 0) 6 (vk, vn, vs) = true) ∨ (ag (colR l6 0) 1 (vk, vn, vs) = false ∧ ag (colR l6 0) 2 (vk, vn, vs) = true ∧ ag (colR l6 0) 3 (vk, vn, vs) = false ∧ ag (colR l6 0) 4 (vk, vn, vs) = false ∧ ag (colR l6 0) 5 (vk, vn, vs) = true ∧ ag (colR l6 0) 6 (vk, vn, vs) = true))) := by
    rcases HOP.out with ⟨h1, h2⟩ | ⟨h1, h2, h3⟩
    · exact .inl ⟨h1, h2 1, h2 2, h2 3, h2 4, h2 5, h2 6⟩
    · exact .inr ⟨⟨h1, h2⟩, h3⟩
  clear HOP HQ qb hb10 F8 B9 hW8 y0 y1 y2 y3 y4 y5 y6 y7
  generalize ag (colR l6 0) 1 (vk, vn, vs) = r1 at *
  generalize ag (colR l6 0) 2 (vk, vn, vs) = r2 at *
  generalize ag (colR l6 0) 3 (vk, vn, vs) = r3 at *
  generalize ag (colR l6 0) 4 (vk, vn, vs) = r4 at *
  generalize ag (colR l6 0) 5 (vk, vn, vs) = r5 at *
  generalize ag (colR l6 0) 6 (vk, vn, vs) = r6 at *
  have O0 : Hid (OpsAt w10.heap.size (fO r1 r2 r3 r4 r5 r6) 1 (w10.alloc (.cells #[.bool false, .bool false, .bool false, .bool false, .bool false, .bool false, .bool false] 38))) := OpsAt.new w10 _ _
  generalize hba : hd P l6 = ba at *
  generalize hbb : hd Q l6 = bb at *
  have HBA : Hid (hd P l6 = ba ∧ hd Q l6 = bb) := ⟨hba, hbb⟩
  clear hba hbb
  go_wp2_with fail
  go_loopw [12, 14] (fun sn so wr => ∃ k : Nat, 1 ≤ k ∧ k ≤ 7 ∧ sn = .int .i64 (cntO (fO r1 r2 r3 r4 r5 r6) k) ∧ so = .int .i64 k ∧ Hid (OpsAt w10.heap.size (fO r1 r2 r3 r4 r5 r6) k wr ∧ Below w10.heap.size w10 wr)) (fun _ so _ => 7 - (intOf so).toNat)
  case atStart => exact ⟨1, by omega, by omega, by rfl, rfl, O0.out, one_box⟩
  case round =>
    clear O0
    obtain ⟨k, k1, k7, rfl, rfl, hK⟩ := hrel
    obtain ⟨cb0, cb1⟩ := cntO_bd (fO r1 r2 r3 r4 r5 r6) k
    obtain ⟨v0, v1, v2⟩ := F10.out.2.2.2.2.2.1
    have v0 := cell_on v0 hK.out.2
    have v1 := cell_on v1 hK.out.2
    have v2 := cell_on v2 hK.out.2
    have kk : k = 1 ∨ k = 2 ∨ k = 3 ∨ k = 4 ∨ k = 5 ∨ k = 6 ∨ k = 7 := by omega
    clear k1 k7
    rcases kk with rfl | rfl | rfl | rfl | rfl | rfl | rfl
    · generalize hcc : cntO (fO r1 r2 r3 r4 r5 r6) 1 = cc at *
      have HC : Hid (cntO (fO r1 r2 r3 r4 r5 r6) 1 = cc) := hcc
      clear hcc
      go_wp2_with fail
      refine (Q1.out _ hK.out.2).mono ?_
      rintro e w12 ⟨rfl, hb12⟩
      have hO := hK.out.1.on hb12
      have z := hO.1 1 (by omega)
      have zf := hO.2.1 1
      have HK : Hid (OpsAt w10.heap.size (fO r1 r2 r3 r4 r5 r6) (1 + 1) (w12.setCell ⟨w10.heap.size, 1, none⟩ (.bool r1)) ∧ Below w10.heap.size w10 (w12.setCell ⟨w10.heap.size, 1, none⟩ (.bool r1))) := ⟨hO.set (by omega) (by omega), (hK.out.2.trans (hb12.mono hK.out.2.size)).setCell (p := ⟨w10.heap.size, 1, none⟩) (Nat.le_refl _) _⟩
      clear hO hb12 hK v0 v1 v2
      cases r1
      all_goals
        go_wp2_with fail
        go_roundw
        case rel => exact ⟨1 + 1, by omega, by omega, by rw [← HC.out]; simp [cntO, fO], rfl, HK.out⟩
        case measure => simp [intOf]
    · generalize hcc : cntO (fO r1 r2 r3 r4 r5 r6) 2 = cc at *
      have HC : Hid (cntO (fO r1 r2 r3 r4 r5 r6) 2 = cc) := hcc
      clear hcc
      go_wp2_with fail
      refine (Q2.out _ hK.out.2).mono ?_
      rintro e w12 ⟨rfl, hb12⟩
      have hO := hK.out.1.on hb12
      have z := hO.1 2 (by omega)
      have zf := hO.2.1 2
      have HK : Hid (OpsAt w10.heap.size (fO r1 r2 r3 r4 r5 r6) (2 + 1) (w12.setCell ⟨w10.heap.size, 2, none⟩ (.bool r2)) ∧ Below w10.heap.size w10 (w12.setCell ⟨w10.heap.size, 2, none⟩ (.bool r2))) := ⟨hO.set (by omega) (by omega), (hK.out.2.trans (hb12.mono hK.out.2.size)).setCell (p := ⟨w10.heap.size, 2, none⟩) (Nat.le_refl _) _⟩
      clear hO hb12 hK v0 v1 v2
      cases r2
      all_goals
        go_wp2_with fail
        go_roundw
        case rel => exact ⟨2 + 1, by omega, by omega, by rw [← HC.out]; simp [cntO, fO], rfl, HK.out⟩
        case measure => simp [intOf]
    · generalize hcc : cntO (fO r1 r2 r3 r4 r5 r6) 3 = cc at *
      have HC : Hid (cntO (fO r1 r2 r3 r4 r5 r6) 3 = cc) := hcc
      clear hcc
      go_wp2_with fail
      refine (Q3.out _ hK.out.2).mono ?_
      rintro e w12 ⟨rfl, hb12⟩
      have hO := hK.out.1.on hb12
      have z := hO.1 3 (by omega)
      have zf := hO.2.1 3
      have HK : Hid (OpsAt w10.heap.size (fO r1 r2 r3 r4 r5 r6) (3 + 1) (w12.setCell ⟨w10.heap.size, 3, none⟩ (.bool r3)) ∧ Below w10.heap.size w10 (w12.setCell ⟨w10.heap.size, 3, none⟩ (.bool r3))) := ⟨hO.set (by omega) (by omega), (hK.out.2.trans (hb12.mono hK.out.2.size)).setCell (p := ⟨w10.heap.size, 3, none⟩) (Nat.le_refl _) _⟩
      clear hO hb12 hK v0 v1 v2
      cases r3
      all_goals
        go_wp2_with fail
        go_roundw
        case rel => exact ⟨3 + 1, by omega, by omega, by rw [← HC.out]; simp [cntO, fO], rfl, HK.out⟩
        case measure => simp [intOf]
    · generalize hcc : cntO (fO r1 r2 r3 r4 r5 r6) 4 = cc at *
      have HC : Hid (cntO (fO r1 r2 r3 r4 r5 r6) 4 = cc) := hcc
      clear hcc
      go_wp2_with fail
      refine (Q4.out _ hK.out.2).mono ?_
      rintro e w12 ⟨rfl, hb12⟩
      have hO := hK.out.1.on hb12
      have z := hO.1 4 (by omega)
      have zf := hO.2.1 4
      have HK : Hid (OpsAt w10.heap.size (fO r1 r2 r3 r4 r5 r6) (4 + 1) (w12.setCell ⟨w10.heap.size, 4, none⟩ (.bool r4)) ∧ Below w10.heap.size w10 (w12.setCell ⟨w10.heap.size, 4, none⟩ (.bool r4))) := ⟨hO.set (by omega) (by omega), (hK.out.2.trans (hb12.mono hK.out.2.size)).setCell (p := ⟨w10.heap.size, 4, none⟩) (Nat.le_refl _) _⟩
      clear hO hb12 hK v0 v1 v2
      cases r4
      all_goals
        go_wp2_with fail
        go_roundw
        case rel => exact ⟨4 + 1, by omega, by omega, by rw [← HC.out]; simp [cntO, fO], rfl, HK.out⟩
        case measure => simp [intOf]
    · generalize hcc : cntO (fO r1 r2 r3 r4 r5 r6) 5 = cc at *
      have HC : Hid (cntO (fO r1 r2 r3 r4 r5 r6) 5 = cc) := hcc
      clear hcc
      go_wp2_with fail
      refine (Q5.out _ hK.out.2).mono ?_
      rintro e w12 ⟨rfl, hb12⟩
      have hO := hK.out.1.on hb12
      have z := hO.1 5 (by omega)
      have zf := hO.2.1 5
      have HK : Hid (OpsAt w10.heap.size (fO r1 r2 r3 r4 r5 r6) (5 + 1) (w12.setCell ⟨w10.heap.size, 5, none⟩ (.bool r5)) ∧ Below w10.heap.size w10 (w12.setCell ⟨w10.heap.size, 5, none⟩ (.bool r5))) := ⟨hO.set (by omega) (by omega), (hK.out.2.trans (hb12.mono hK.out.2.size)).setCell (p := ⟨w10.heap.size, 5, none⟩) (Nat.le_refl _) _⟩
      clear hO hb12 hK v0 v1 v2
      cases r5
      all_goals
        go_wp2_with fail
        go_roundw
        case rel => exact ⟨5 + 1, by omega, by omega, by rw [← HC.out]; simp [cntO, fO], rfl, HK.out⟩
        case measure => simp [intOf]
    · generalize hcc : cntO (fO r1 r2 r3 r4 r5 r6) 6 = cc at *
      have HC : Hid (cntO (fO r1 r2 r3 r4 r5 r6) 6 = cc) := hcc
      clear hcc
      go_wp2_with fail
      refine (Q6.out _ hK.out.2).mono ?_
      rintro e w12 ⟨rfl, hb12⟩
      have hO := hK.out.1.on hb12
      have z := hO.1 6 (by omega)
      have zf := hO.2.1 6
      have HK : Hid (OpsAt w10.heap.size (fO r1 r2 r3 r4 r5 r6) (6 + 1) (w12.setCell ⟨w10.heap.size, 6, none⟩ (.bool r6)) ∧ Below w10.heap.size w10 (w12.setCell ⟨w10.heap.size, 6, none⟩ (.bool r6))) := ⟨hO.set (by omega) (by omega), (hK.out.2.trans (hb12.mono hK.out.2.size)).setCell (p := ⟨w10.heap.size, 6, none⟩) (Nat.le_refl _) _⟩
      clear hO hb12 hK v0 v1 v2
      cases r6
      all_goals
        go_wp2_with fail
        go_roundw
        case rel => exact ⟨6 + 1, by omega, by omega, by rw [← HC.out]; simp [cntO, fO], rfl, HK.out⟩
        case measure => simp [intOf]
    · have hl0 : 0 < l6.length := by rw [HN.out.1]; decide
      obtain ⟨b6, o6, ha6, xr, _, _, _⟩ := (F10.out.2.2.2.2.1.on hK.out.2).at 0 hl0
      have hc0 := colR_zero hl0
      rw [← hc0] at xr
      simp only [Nat.zero_mul, Nat.add_zero] at xr
      have HX : Hid (∀ W, Below wr.heap.size wr W → PdBox w4.heap.size P (.slice as4 P.l.length cs4) W ∧ PdBox w5.heap.size Q (.slice as5 Q.l.length cs5) W ∧ W.cell? ⟨b6, o6, none⟩ = some (.int .i64 (colR l6 0).1) ∧ OpsAt w10.heap.size (fO r1 r2 r3 r4 r5 r6) 7 W) := fun W hW => by
        have b := hK.out.2.trans (hW.mono hK.out.2.size)
        exact ⟨F10.out.2.2.1.on b, F10.out.2.2.2.1.on b, cell_on xr hW, hK.out.1.on hW⟩
      have HB : Hid (Below w.heap.size w wr) := F10.out.2.2.2.2.2.2.trans (hK.out.2.mono F10.out.2.2.2.2.2.2.size)
      have HR : Hid (∀ W, Below wr.heap.size wr W → RowIs W (.slice a6 3 c6) l6 ∧ PdL (fun _ => True) 2 W (.slice as4 P.l.length cs4) P.l ∧ PdL (fun _ => True) 2 W (.slice as5 Q.l.length cs5) Q.l) := fun W hW => by
        have b := hK.out.2.trans (hW.mono hK.out.2.size)
        exact ⟨F10.out.2.2.2.2.1.on b, (F10.out.1.on b).any, (F10.out.2.1.on b).any⟩
      have QN : Hid (∀ W, Hid (Below wr.heap.size wr W) → Calls Try.prog 9 #[.agg #[.int .i64 6, .int .i64 0, .int .i64 0, .int .i64 0, .int .i64 0, .int .i64 0, .string ⟨#[]⟩, .slice (some ⟨W.heap.size, 0, none⟩) 1 1], .slice a6 3 c6] (W.alloc (.cells #[.int .i64 P.k, .int .i64 P.c, .int .i64 P.o, .int .i64 P.d, .int .i64 P.v.1, .int .i64 P.v.2.1, .string P.v.2.2, .slice as4 P.l.length cs4] 31)) fun e w' => e = .returned (.bool (!ba)) ∧ Hid (Below wr.heap.size wr w')) := fun W hW => by
        obtain ⟨g1, g2, g3⟩ := HR.out W hW.out
        have := predHolds 3 _ ⟨6, 0, 0, 0, nul, [P]⟩ _ (.slice a6 3 c6) l6 _ (not_l g2) (g1.on one_box)
        rw [hd_eq] at this
        simp only [List.map_cons, List.map_nil, HBA.out.1] at this
        exact this.mono (fun e w' h => ⟨h.1, hW.out.trans ((one_box.trans (h.2.mono (by simp))).mono hW.out.size)⟩)
      have QA : Hid (∀ W, Hid (Below wr.heap.size wr W) → Calls Try.prog 9 #[.agg #[.int .i64 4, .int .i64 0, .int .i64 0, .int .i64 0, .int .i64 0, .int .i64 0, .string ⟨#[]⟩, .slice (some ⟨W.heap.size, 0, none⟩) 2 2], .slice a6 3 c6] (W.alloc (.cells #[.int .i64 P.k, .int .i64 P.c, .int .i64 P.o, .int .i64 P.d, .int .i64 P.v.1, .int .i64 P.v.2.1, .string P.v.2.2, .slice as4 P.l.length cs4, .int .i64 Q.k, .int .i64 Q.c, .int .i64 Q.o, .int .i64 Q.d, .int .i64 Q.v.1, .int .i64 Q.v.2.1, .string Q.v.2.2, .slice as5 Q.l.length cs5] 31)) fun e w' => e = .returned (.bool (ba && bb)) ∧ Hid (Below wr.heap.size wr w')) := fun W hW => by
        obtain ⟨g1, g2, g3⟩ := HR.out W hW.out
        have := predHolds 3 _ ⟨4, 0, 0, 0, nul, [P, Q]⟩ _ (.slice a6 3 c6) l6 _ (two_l g2 g3) (g1.on one_box)
        rw [hd_eq] at this
        simp only [List.map_cons, List.map_nil, HBA.out.1, HBA.out.2] at this
        exact this.mono (fun e w' h => ⟨by rw [h.1]; simp, hW.out.trans ((one_box.trans (h.2.mono (by simp))).mono hW.out.size)⟩)
      have QO : Hid (∀ W, Hid (Below wr.heap.size wr W) → Calls Try.prog 9 #[.agg #[.int .i64 5, .int .i64 0, .int .i64 0, .int .i64 0, .int .i64 0, .int .i64 0, .string ⟨#[]⟩, .slice (some ⟨W.heap.size, 0, none⟩) 2 2], .slice a6 3 c6] (W.alloc (.cells #[.int .i64 P.k, .int .i64 P.c, .int .i64 P.o, .int .i64 P.d, .int .i64 P.v.1, .int .i64 P.v.2.1, .string P.v.2.2, .slice as4 P.l.length cs4, .int .i64 Q.k, .int .i64 Q.c, .int .i64 Q.o, .int .i64 Q.d, .int .i64 Q.v.1, .int .i64 Q.v.2.1, .string Q.v.2.2, .slice as5 Q.l.length cs5] 31)) fun e w' => e = .returned (.bool (ba || bb)) ∧ Hid (Below wr.heap.size wr w')) := fun W hW => by
        obtain ⟨g1, g2, g3⟩ := HR.out W hW.out
        have := predHolds 3 _ ⟨5, 0, 0, 0, nul, [P, Q]⟩ _ (.slice a6 3 c6) l6 _ (two_l g2 g3) (g1.on one_box)
        rw [hd_eq] at this
        simp only [List.map_cons, List.map_nil, HBA.out.1, HBA.out.2] at this
        exact this.mono (fun e w' h => ⟨by rw [h.1]; simp, hW.out.trans ((one_box.trans (h.2.mono (by simp))).mono hW.out.size)⟩)
      have QZ : Hid (∀ W, Hid (Below wr.heap.size wr W) → Calls Try.prog 9 #[.agg #[.int .i64 3, .int .i64 0, .int .i64 0, .int .i64 0, .int .i64 0, .int .i64 0, .string ⟨#[]⟩, .slice none 0 0], .slice a6 3 c6] W fun e w' => e = .returned (.bool (decide ((colR l6 0).1 = 0))) ∧ Hid (Below wr.heap.size wr w')) := fun W hW => by
        have := predHolds 0 (fun _ => True) ⟨3, 0, 0, 0, nul, []⟩ (.slice none 0 0) (.slice a6 3 c6) l6 W (PdL.nil _ _ _ _ _) (HR.out W hW.out).1
        rw [hd_eq] at this
        exact this.mono (fun e w' h => ⟨h.1, hW.out.trans (h.2.mono hW.out.size)⟩)
      have HNK := HN.out.2
      have hcn : cntO (fO r1 r2 r3 r4 r5 r6) 7 = (if r1 = true then 1 else 0) + (if r3 = true then 1 else 0) + (if r5 = true then 1 else 0) := by simp [cntO, fO]
      rw [hcn]
      clear hcn hc0 cb0 cb1 F10 hK v1 v2 Q1 Q2 Q3 Q4 Q5 Q6
      subst ha6
      generalize (colR l6 0).1 = kx at *
      obtain ⟨r1', hr1⟩ : ∃ r, r = r1 := ⟨_, rfl⟩
      have D : (kx = 0 ∧ r1 = false ∧ r2 = false ∧ r3 = false ∧ r4 = false ∧ r5 = false ∧ r6 = false) ∨ (kx = 1 ∧ vk = 0 ∧ r1 = false ∧ r2 = false ∧ r3 = false ∧ r4 = false ∧ r5 = false ∧ r6 = false) ∨ (kx = 1 ∧ vk = 1 ∧ r1 = false ∧ r2 = true ∧ r3 = true ∧ r4 = true ∧ r5 = false ∧ r6 = false) ∨ (kx = 1 ∧ vk = 1 ∧ r1 = true ∧ r2 = false ∧ r3 = false ∧ r4 = true ∧ r5 = false ∧ r6 = true) ∨ (kx = 1 ∧ vk = 1 ∧ r1 = false ∧ r2 = true ∧ r3 = false ∧ r4 = false ∧ r5 = true ∧ r6 = true) := by
        rcases HW2.out with ⟨h1, h2⟩ | ⟨⟨h1, h2⟩, h3 | h3 | h3⟩
        · by_cases e : kx = 0
          · exact .inl ⟨e, h2⟩
          · exact .inr (.inl ⟨by omega, by omega, h2⟩)
        · exact .inr (.inr (.inl ⟨h1, h2, h3⟩))
        · exact .inr (.inr (.inr (.inl ⟨h1, h2, h3⟩)))
        · exact .inr (.inr (.inr (.inr ⟨h1, h2, h3⟩)))
      clear HW2 HN HNK hr1 r1'
      rcases D with ⟨rfl, rfl, rfl, rfl, rfl, rfl, rfl⟩ | ⟨rfl, rfl, rfl, rfl, rfl, rfl, rfl, rfl⟩ | ⟨rfl, rfl, rfl, rfl, rfl, rfl, rfl, rfl⟩ | ⟨rfl, rfl, rfl, rfl, rfl, rfl, rfl, rfl⟩ | ⟨rfl, rfl, rfl, rfl, rfl, rfl, rfl, rfl⟩
      · obtain ⟨⟨⟨x0, x1, x2, x3, x4, x5, x6, x7⟩, _, _⟩, ⟨⟨z0, z1, z2, z3, z4, z5, z6, z7⟩, _, _⟩, xr, hO⟩ := HX.out wr (Below.refl _ _)
        simp only [Nat.zero_add] at x1 x2 x3 x4 x5 x6 x7 z1 z2 z3 z4 z5 z6 z7
        have g0 := Ex.cell x0
        have g1 := Ex.cell x1
        have g2 := Ex.cell x2
        have g3 := Ex.cell x3
        have g4 := Ex.cell x4
        have g5 := Ex.cell x5
        have g6 := Ex.cell x6
        have g7 := Ex.cell x7
        have k0 := Ex.cell z0
        have k1 := Ex.cell z1
        have k2 := Ex.cell z2
        have k3 := Ex.cell z3
        have k4 := Ex.cell z4
        have k5 := Ex.cell z5
        have k6 := Ex.cell z6
        have k7 := Ex.cell z7
        have gr := Ex.cell xr
        have y1 := Ex.cell (hO.1 1 (by omega))
        have y2 := Ex.cell (hO.1 2 (by omega))
        have y3 := Ex.cell (hO.1 3 (by omega))
        have y4 := Ex.cell (hO.1 4 (by omega))
        have y5 := Ex.cell (hO.1 5 (by omega))
        have y6 := Ex.cell (hO.1 6 (by omega))
        have ne := Ex.ne wr
        have B0 : Hid (Below wr.heap.size wr wr.drew) := (Below.refl _ _).drew
        clear x0 x1 x2 x3 x4 x5 x6 x7 z0 z1 z2 z3 z4 z5 z6 z7 hO HX HR
        replace y1 : ∀ p : Wd (Ex wr), p.v.cell? ⟨w10.heap.size, 1, none⟩ = some (.bool false) := y1
        replace y2 : ∀ p : Wd (Ex wr), p.v.cell? ⟨w10.heap.size, 2, none⟩ = some (.bool false) := y2
        replace y3 : ∀ p : Wd (Ex wr), p.v.cell? ⟨w10.heap.size, 3, none⟩ = some (.bool false) := y3
        replace y4 : ∀ p : Wd (Ex wr), p.v.cell? ⟨w10.heap.size, 4, none⟩ = some (.bool false) := y4
        replace y5 : ∀ p : Wd (Ex wr), p.v.cell? ⟨w10.heap.size, 5, none⟩ = some (.bool false) := y5
        replace y6 : ∀ p : Wd (Ex wr), p.v.cell? ⟨w10.heap.size, 6, none⟩ = some (.bool false) := y6
        cases ba
        all_goals
          go_wp2_with fail
          refine wp_region_ord_at (Ex wr) (regOf Try.f3.body 23) ((0, true) :: (1, true) :: (2, true) :: (5, true) :: (7, true) :: (8, true) :: (3, false) :: (4, true) :: (6, false) :: (9, true) :: (10, true) :: (11, true) :: (12, true) :: (13, true) :: (16, true) :: (18, true) :: (14, false) :: (15, true) :: (17, false) :: (19, true) :: (20, true) :: (21, true) :: (22, true) :: (23, true) :: (24, true) :: (25, true) :: (26, true) :: (29, true) :: (31, true) :: (27, false) :: (28, true) :: (30, false) :: (32, true) :: (33, true) :: (34, true) :: (35, true) :: (36, true) :: (37, true) :: (38, true) :: (39, true) :: (40, true) :: (41, true) :: (42, true) :: (43, true) :: (44, true) :: (45, true) :: (46, true) :: (47, true) :: (48, true) :: (49, true) :: (50, true) :: (51, true) :: (52, true) :: (53, true) :: (54, true) :: (55, true) :: (56, true) :: (57, true) :: (58, true) :: (59, true) :: (60, true) :: (61, true) :: (62, true) :: (63, true) :: (64, true) :: (65, true) :: (66, true) :: (67, true) :: (68, true) :: (69, true) :: (70, true) :: (71, true) :: (72, true) :: (73, true) :: (74, true) :: (75, true) :: (76, true) :: (77, true) :: (78, true) :: (79, true) :: (81, true) :: (82, true) :: (83, true) :: (84, true) :: (85, true) :: (80, false) :: (86, true) :: (87, true) :: (88, true) :: []) (by kernel_rfl) (by kernel_rfl) opp_ord B0.out ?_
          generalize wr.drew = v0 at *
          repeat (refine ord_quiet rfl ?_; go_big_quiet_step (fail); refine wpQuiet_nil ?_)
          refine ord_loud rfl ?_
          intro K hK
          go_simp
          refine hK _ _ (Ex.of (B0.out.trans (one_box.mono B0.out.size))) ?_
          clear hK
          repeat (refine ord_quiet rfl ?_; go_big_quiet_step (fail); refine wpQuiet_nil ?_)
          refine ord_call rfl (by rfl) 9 rfl (enters_of Try.func9 (by kernel_rfl) rfl) [.agg #[.int .i64 6, .int .i64 0, .int .i64 0, .int .i64 0, .int .i64 0, .int .i64 0, .string ⟨#[]⟩, .slice (some ⟨v0.heap.size, 0, none⟩) 1 1], .slice (some ⟨b6, o6, none⟩) 3 c6] (by rfl) _ (QN.out v0 B0) ?_
          rintro e v1 ⟨rfl, B1⟩
          refine ⟨_, rfl, Ex.of B1.out, ?_⟩
          simp only [Act.put, List.setIfInBounds_toArray, List.set_cons_zero, List.set_cons_succ, Bool.not_true, Bool.not_false]
          repeat (refine ord_quiet rfl ?_; go_big_quiet_step (fail); refine wpQuiet_nil ?_)
          refine ord_loud rfl ?_
          intro K hK
          go_simp
          refine hK _ _ (Ex.of (B1.out.trans (one_box.mono B1.out.size))) ?_
          clear hK
          repeat (refine ord_quiet rfl ?_; go_big_quiet_step (fail); refine wpQuiet_nil ?_)
          refine ord_call rfl (by rfl) 9 rfl (enters_of Try.func9 (by kernel_rfl) rfl) [.agg #[.int .i64 4, .int .i64 0, .int .i64 0, .int .i64 0, .int .i64 0, .int .i64 0, .string ⟨#[]⟩, .slice (some ⟨v1.heap.size, 0, none⟩) 2 2], .slice (some ⟨b6, o6, none⟩) 3 c6] (by rfl) _ (QA.out v1 B1) ?_
          rintro e v2 ⟨rfl, B2⟩
          refine ⟨_, rfl, Ex.of B2.out, ?_⟩
          simp only [Act.put, List.setIfInBounds_toArray, List.set_cons_zero, List.set_cons_succ, Bool.true_and, Bool.false_and]
          repeat (refine ord_quiet rfl ?_; go_big_quiet_step (fail); refine wpQuiet_nil ?_)
          refine ord_loud rfl ?_
          intro K hK
          go_simp
          refine hK _ _ (Ex.of (B2.out.trans (one_box.mono B2.out.size))) ?_
          clear hK
          repeat (refine ord_quiet rfl ?_; go_big_quiet_step (fail); refine wpQuiet_nil ?_)
          refine ord_call rfl (by rfl) 9 rfl (enters_of Try.func9 (by kernel_rfl) rfl) [.agg #[.int .i64 5, .int .i64 0, .int .i64 0, .int .i64 0, .int .i64 0, .int .i64 0, .string ⟨#[]⟩, .slice (some ⟨v2.heap.size, 0, none⟩) 2 2], .slice (some ⟨b6, o6, none⟩) 3 c6] (by rfl) _ (QO.out v2 B2) ?_
          rintro e v3 ⟨rfl, B3⟩
          refine ⟨_, rfl, Ex.of B3.out, ?_⟩
          simp only [Act.put, List.setIfInBounds_toArray, List.set_cons_zero, List.set_cons_succ, Bool.true_or, Bool.false_or]
          repeat (refine ord_quiet rfl ?_; go_big_quiet_step (fail); refine wpQuiet_nil ?_)
          refine ord_call rfl (by rfl) 9 rfl (enters_of Try.func9 (by kernel_rfl) rfl) [.agg #[.int .i64 3, .int .i64 0, .int .i64 0, .int .i64 0, .int .i64 0, .int .i64 0, .string ⟨#[]⟩, .slice none 0 0], .slice (some ⟨b6, o6, none⟩) 3 c6] (by rfl) _ (QZ.out v3 B3) ?_
          rintro e v4 ⟨rfl, B4⟩
          refine ⟨_, rfl, Ex.of B4.out, ?_⟩
          simp only [Act.put, List.setIfInBounds_toArray, List.set_cons_zero, List.set_cons_succ]
          repeat (refine ord_quiet rfl ?_; go_big_quiet_step (fail); refine wpQuiet_nil ?_)
          refine ord_end ?_
          go_wp2_with fail
          go_ret
          exact ⟨rfl, HB.out.trans (B4.out.mono HB.out.size)⟩
      · obtain ⟨⟨⟨x0, x1, x2, x3, x4, x5, x6, x7⟩, _, _⟩, ⟨⟨z0, z1, z2, z3, z4, z5, z6, z7⟩, _, _⟩, xr, hO⟩ := HX.out wr (Below.refl _ _)
        simp only [Nat.zero_add] at x1 x2 x3 x4 x5 x6 x7 z1 z2 z3 z4 z5 z6 z7
        have g0 := Ex.cell x0
        have g1 := Ex.cell x1
        have g2 := Ex.cell x2
        have g3 := Ex.cell x3
        have g4 := Ex.cell x4
        have g5 := Ex.cell x5
        have g6 := Ex.cell x6
        have g7 := Ex.cell x7
        have k0 := Ex.cell z0
        have k1 := Ex.cell z1
        have k2 := Ex.cell z2
        have k3 := Ex.cell z3
        have k4 := Ex.cell z4
        have k5 := Ex.cell z5
        have k6 := Ex.cell z6
        have k7 := Ex.cell z7
        have gr := Ex.cell xr
        have y1 := Ex.cell (hO.1 1 (by omega))
        have y2 := Ex.cell (hO.1 2 (by omega))
        have y3 := Ex.cell (hO.1 3 (by omega))
        have y4 := Ex.cell (hO.1 4 (by omega))
        have y5 := Ex.cell (hO.1 5 (by omega))
        have y6 := Ex.cell (hO.1 6 (by omega))
        have ne := Ex.ne wr
        have B0 : Hid (Below wr.heap.size wr wr.drew) := (Below.refl _ _).drew
        clear x0 x1 x2 x3 x4 x5 x6 x7 z0 z1 z2 z3 z4 z5 z6 z7 hO HX HR
        replace y1 : ∀ p : Wd (Ex wr), p.v.cell? ⟨w10.heap.size, 1, none⟩ = some (.bool false) := y1
        replace y2 : ∀ p : Wd (Ex wr), p.v.cell? ⟨w10.heap.size, 2, none⟩ = some (.bool false) := y2
        replace y3 : ∀ p : Wd (Ex wr), p.v.cell? ⟨w10.heap.size, 3, none⟩ = some (.bool false) := y3
        replace y4 : ∀ p : Wd (Ex wr), p.v.cell? ⟨w10.heap.size, 4, none⟩ = some (.bool false) := y4
        replace y5 : ∀ p : Wd (Ex wr), p.v.cell? ⟨w10.heap.size, 5, none⟩ = some (.bool false) := y5
        replace y6 : ∀ p : Wd (Ex wr), p.v.cell? ⟨w10.heap.size, 6, none⟩ = some (.bool false) := y6
        cases ba
        all_goals
          go_wp2_with fail
          refine wp_region_ord_at (Ex wr) (regOf Try.f3.body 23) ((0, true) :: (1, true) :: (2, true) :: (5, true) :: (7, true) :: (8, true) :: (3, false) :: (4, true) :: (6, false) :: (9, true) :: (10, true) :: (11, true) :: (12, true) :: (13, true) :: (16, true) :: (18, true) :: (14, false) :: (15, true) :: (17, false) :: (19, true) :: (20, true) :: (21, true) :: (22, true) :: (23, true) :: (24, true) :: (25, true) :: (26, true) :: (29, true) :: (31, true) :: (27, false) :: (28, true) :: (30, false) :: (32, true) :: (33, true) :: (34, true) :: (35, true) :: (36, true) :: (37, true) :: (38, true) :: (39, true) :: (40, true) :: (41, true) :: (42, true) :: (43, true) :: (44, true) :: (45, true) :: (46, true) :: (47, true) :: (48, true) :: (49, true) :: (50, true) :: (51, true) :: (52, true) :: (53, true) :: (54, true) :: (55, true) :: (56, true) :: (57, true) :: (58, true) :: (59, true) :: (60, true) :: (61, true) :: (62, true) :: (63, true) :: (64, true) :: (65, true) :: (66, true) :: (67, true) :: (68, true) :: (69, true) :: (70, true) :: (71, true) :: (72, true) :: (73, true) :: (74, true) :: (75, true) :: (76, true) :: (77, true) :: (78, true) :: (79, true) :: (81, true) :: (82, true) :: (83, true) :: (84, true) :: (85, true) :: (80, false) :: (86, true) :: (87, true) :: (88, true) :: []) (by kernel_rfl) (by kernel_rfl) opp_ord B0.out ?_
          generalize wr.drew = v0 at *
          repeat (refine ord_quiet rfl ?_; go_big_quiet_step (fail); refine wpQuiet_nil ?_)
          refine ord_loud rfl ?_
          intro K hK
          go_simp
          refine hK _ _ (Ex.of (B0.out.trans (one_box.mono B0.out.size))) ?_
          clear hK
          repeat (refine ord_quiet rfl ?_; go_big_quiet_step (fail); refine wpQuiet_nil ?_)
          refine ord_call rfl (by rfl) 9 rfl (enters_of Try.func9 (by kernel_rfl) rfl) [.agg #[.int .i64 6, .int .i64 0, .int .i64 0, .int .i64 0, .int .i64 0, .int .i64 0, .string ⟨#[]⟩, .slice (some ⟨v0.heap.size, 0, none⟩) 1 1], .slice (some ⟨b6, o6, none⟩) 3 c6] (by rfl) _ (QN.out v0 B0) ?_
          rintro e v1 ⟨rfl, B1⟩
          refine ⟨_, rfl, Ex.of B1.out, ?_⟩
          simp only [Act.put, List.setIfInBounds_toArray, List.set_cons_zero, List.set_cons_succ, Bool.not_true, Bool.not_false]
          repeat (refine ord_quiet rfl ?_; go_big_quiet_step (fail); refine wpQuiet_nil ?_)
          refine ord_loud rfl ?_
          intro K hK
          go_simp
          refine hK _ _ (Ex.of (B1.out.trans (one_box.mono B1.out.size))) ?_
          clear hK
          repeat (refine ord_quiet rfl ?_; go_big_quiet_step (fail); refine wpQuiet_nil ?_)
          refine ord_call rfl (by rfl) 9 rfl (enters_of Try.func9 (by kernel_rfl) rfl) [.agg #[.int .i64 4, .int .i64 0, .int .i64 0, .int .i64 0, .int .i64 0, .int .i64 0, .string ⟨#[]⟩, .slice (some ⟨v1.heap.size, 0, none⟩) 2 2], .slice (some ⟨b6, o6, none⟩) 3 c6] (by rfl) _ (QA.out v1 B1) ?_
          rintro e v2 ⟨rfl, B2⟩
          refine ⟨_, rfl, Ex.of B2.out, ?_⟩
          simp only [Act.put, List.setIfInBounds_toArray, List.set_cons_zero, List.set_cons_succ, Bool.true_and, Bool.false_and]
          repeat (refine ord_quiet rfl ?_; go_big_quiet_step (fail); refine wpQuiet_nil ?_)
          refine ord_loud rfl ?_
          intro K hK
          go_simp
          refine hK _ _ (Ex.of (B2.out.trans (one_box.mono B2.out.size))) ?_
          clear hK
          repeat (refine ord_quiet rfl ?_; go_big_quiet_step (fail); refine wpQuiet_nil ?_)
          refine ord_call rfl (by rfl) 9 rfl (enters_of Try.func9 (by kernel_rfl) rfl) [.agg #[.int .i64 5, .int .i64 0, .int .i64 0, .int .i64 0, .int .i64 0, .int .i64 0, .string ⟨#[]⟩, .slice (some ⟨v2.heap.size, 0, none⟩) 2 2], .slice (some ⟨b6, o6, none⟩) 3 c6] (by rfl) _ (QO.out v2 B2) ?_
          rintro e v3 ⟨rfl, B3⟩
          refine ⟨_, rfl, Ex.of B3.out, ?_⟩
          simp only [Act.put, List.setIfInBounds_toArray, List.set_cons_zero, List.set_cons_succ, Bool.true_or, Bool.false_or]
          repeat (refine ord_quiet rfl ?_; go_big_quiet_step (fail); refine wpQuiet_nil ?_)
          refine ord_call rfl (by rfl) 9 rfl (enters_of Try.func9 (by kernel_rfl) rfl) [.agg #[.int .i64 3, .int .i64 0, .int .i64 0, .int .i64 0, .int .i64 0, .int .i64 0, .string ⟨#[]⟩, .slice none 0 0], .slice (some ⟨b6, o6, none⟩) 3 c6] (by rfl) _ (QZ.out v3 B3) ?_
          rintro e v4 ⟨rfl, B4⟩
          refine ⟨_, rfl, Ex.of B4.out, ?_⟩
          simp only [Act.put, List.setIfInBounds_toArray, List.set_cons_zero, List.set_cons_succ]
          repeat (refine ord_quiet rfl ?_; go_big_quiet_step (fail); refine wpQuiet_nil ?_)
          refine ord_end ?_
          go_wp2_with fail
          go_ret
          exact ⟨rfl, HB.out.trans (B4.out.mono HB.out.size)⟩
      · obtain ⟨⟨⟨x0, x1, x2, x3, x4, x5, x6, x7⟩, _, _⟩, ⟨⟨z0, z1, z2, z3, z4, z5, z6, z7⟩, _, _⟩, xr, hO⟩ := HX.out wr (Below.refl _ _)
        simp only [Nat.zero_add] at x1 x2 x3 x4 x5 x6 x7 z1 z2 z3 z4 z5 z6 z7
        have g0 := Ex.cell x0
        have g1 := Ex.cell x1
        have g2 := Ex.cell x2
        have g3 := Ex.cell x3
        have g4 := Ex.cell x4
        have g5 := Ex.cell x5
        have g6 := Ex.cell x6
        have g7 := Ex.cell x7
        have k0 := Ex.cell z0
        have k1 := Ex.cell z1
        have k2 := Ex.cell z2
        have k3 := Ex.cell z3
        have k4 := Ex.cell z4
        have k5 := Ex.cell z5
        have k6 := Ex.cell z6
        have k7 := Ex.cell z7
        have gr := Ex.cell xr
        have y1 := Ex.cell (hO.1 1 (by omega))
        have y2 := Ex.cell (hO.1 2 (by omega))
        have y3 := Ex.cell (hO.1 3 (by omega))
        have y4 := Ex.cell (hO.1 4 (by omega))
        have y5 := Ex.cell (hO.1 5 (by omega))
        have y6 := Ex.cell (hO.1 6 (by omega))
        have ne := Ex.ne wr
        have B0 : Hid (Below wr.heap.size wr wr.drew) := (Below.refl _ _).drew
        clear x0 x1 x2 x3 x4 x5 x6 x7 z0 z1 z2 z3 z4 z5 z6 z7 hO HX HR
        replace y1 : ∀ p : Wd (Ex wr), p.v.cell? ⟨w10.heap.size, 1, none⟩ = some (.bool false) := y1
        replace y2 : ∀ p : Wd (Ex wr), p.v.cell? ⟨w10.heap.size, 2, none⟩ = some (.bool true) := y2
        replace y3 : ∀ p : Wd (Ex wr), p.v.cell? ⟨w10.heap.size, 3, none⟩ = some (.bool true) := y3
        replace y4 : ∀ p : Wd (Ex wr), p.v.cell? ⟨w10.heap.size, 4, none⟩ = some (.bool true) := y4
        replace y5 : ∀ p : Wd (Ex wr), p.v.cell? ⟨w10.heap.size, 5, none⟩ = some (.bool false) := y5
        replace y6 : ∀ p : Wd (Ex wr), p.v.cell? ⟨w10.heap.size, 6, none⟩ = some (.bool false) := y6
        cases ba
        all_goals
          go_wp2_with fail
          refine wp_region_ord_at (Ex wr) (regOf Try.f3.body 23) ((0, true) :: (1, true) :: (2, true) :: (5, true) :: (7, true) :: (8, true) :: (3, false) :: (4, true) :: (6, false) :: (9, true) :: (10, true) :: (11, true) :: (12, true) :: (13, true) :: (16, true) :: (18, true) :: (14, false) :: (15, true) :: (17, false) :: (19, true) :: (20, true) :: (21, true) :: (22, true) :: (23, true) :: (24, true) :: (25, true) :: (26, true) :: (29, true) :: (31, true) :: (27, false) :: (28, true) :: (30, false) :: (32, true) :: (33, true) :: (34, true) :: (35, true) :: (36, true) :: (37, true) :: (38, true) :: (39, true) :: (40, true) :: (41, true) :: (42, true) :: (43, true) :: (44, true) :: (45, true) :: (46, true) :: (47, true) :: (48, true) :: (49, true) :: (50, true) :: (51, true) :: (52, true) :: (53, true) :: (54, true) :: (55, true) :: (56, true) :: (57, true) :: (58, true) :: (59, true) :: (60, true) :: (61, true) :: (62, true) :: (63, true) :: (64, true) :: (65, true) :: (66, true) :: (67, true) :: (68, true) :: (69, true) :: (70, true) :: (71, true) :: (72, true) :: (73, true) :: (74, true) :: (75, true) :: (76, true) :: (77, true) :: (78, true) :: (79, true) :: (81, true) :: (82, true) :: (83, true) :: (84, true) :: (85, true) :: (80, false) :: (86, true) :: (87, true) :: (88, true) :: []) (by kernel_rfl) (by kernel_rfl) opp_ord B0.out ?_
          generalize wr.drew = v0 at *
          repeat (refine ord_quiet rfl ?_; go_big_quiet_step (fail); refine wpQuiet_nil ?_)
          refine ord_loud rfl ?_
          intro K hK
          go_simp
          refine hK _ _ (Ex.of (B0.out.trans (one_box.mono B0.out.size))) ?_
          clear hK
          repeat (refine ord_quiet rfl ?_; go_big_quiet_step (fail); refine wpQuiet_nil ?_)
          refine ord_call rfl (by rfl) 9 rfl (enters_of Try.func9 (by kernel_rfl) rfl) [.agg #[.int .i64 6, .int .i64 0, .int .i64 0, .int .i64 0, .int .i64 0, .int .i64 0, .string ⟨#[]⟩, .slice (some ⟨v0.heap.size, 0, none⟩) 1 1], .slice (some ⟨b6, o6, none⟩) 3 c6] (by rfl) _ (QN.out v0 B0) ?_
          rintro e v1 ⟨rfl, B1⟩
          refine ⟨_, rfl, Ex.of B1.out, ?_⟩
          simp only [Act.put, List.setIfInBounds_toArray, List.set_cons_zero, List.set_cons_succ, Bool.not_true, Bool.not_false]
          repeat (refine ord_quiet rfl ?_; go_big_quiet_step (fail); refine wpQuiet_nil ?_)
          refine ord_loud rfl ?_
          intro K hK
          go_simp
          refine hK _ _ (Ex.of (B1.out.trans (one_box.mono B1.out.size))) ?_
          clear hK
          repeat (refine ord_quiet rfl ?_; go_big_quiet_step (fail); refine wpQuiet_nil ?_)
          refine ord_call rfl (by rfl) 9 rfl (enters_of Try.func9 (by kernel_rfl) rfl) [.agg #[.int .i64 4, .int .i64 0, .int .i64 0, .int .i64 0, .int .i64 0, .int .i64 0, .string ⟨#[]⟩, .slice (some ⟨v1.heap.size, 0, none⟩) 2 2], .slice (some ⟨b6, o6, none⟩) 3 c6] (by rfl) _ (QA.out v1 B1) ?_
          rintro e v2 ⟨rfl, B2⟩
          refine ⟨_, rfl, Ex.of B2.out, ?_⟩
          simp only [Act.put, List.setIfInBounds_toArray, List.set_cons_zero, List.set_cons_succ, Bool.true_and, Bool.false_and]
          repeat (refine ord_quiet rfl ?_; go_big_quiet_step (fail); refine wpQuiet_nil ?_)
          refine ord_loud rfl ?_
          intro K hK
          go_simp
          refine hK _ _ (Ex.of (B2.out.trans (one_box.mono B2.out.size))) ?_
          clear hK
          repeat (refine ord_quiet rfl ?_; go_big_quiet_step (fail); refine wpQuiet_nil ?_)
          refine ord_call rfl (by rfl) 9 rfl (enters_of Try.func9 (by kernel_rfl) rfl) [.agg #[.int .i64 5, .int .i64 0, .int .i64 0, .int .i64 0, .int .i64 0, .int .i64 0, .string ⟨#[]⟩, .slice (some ⟨v2.heap.size, 0, none⟩) 2 2], .slice (some ⟨b6, o6, none⟩) 3 c6] (by rfl) _ (QO.out v2 B2) ?_
          rintro e v3 ⟨rfl, B3⟩
          refine ⟨_, rfl, Ex.of B3.out, ?_⟩
          simp only [Act.put, List.setIfInBounds_toArray, List.set_cons_zero, List.set_cons_succ, Bool.true_or, Bool.false_or]
          repeat (refine ord_quiet rfl ?_; go_big_quiet_step (fail); refine wpQuiet_nil ?_)
          refine ord_call rfl (by rfl) 9 rfl (enters_of Try.func9 (by kernel_rfl) rfl) [.agg #[.int .i64 3, .int .i64 0, .int .i64 0, .int .i64 0, .int .i64 0, .int .i64 0, .string ⟨#[]⟩, .slice none 0 0], .slice (some ⟨b6, o6, none⟩) 3 c6] (by rfl) _ (QZ.out v3 B3) ?_
          rintro e v4 ⟨rfl, B4⟩
          refine ⟨_, rfl, Ex.of B4.out, ?_⟩
          simp only [Act.put, List.setIfInBounds_toArray, List.set_cons_zero, List.set_cons_succ]
          repeat (refine ord_quiet rfl ?_; go_big_quiet_step (fail); refine wpQuiet_nil ?_)
          refine ord_end ?_
          go_wp2_with fail
          go_ret
          exact ⟨rfl, HB.out.trans (B4.out.mono HB.out.size)⟩
      · obtain ⟨⟨⟨x0, x1, x2, x3, x4, x5, x6, x7⟩, _, _⟩, ⟨⟨z0, z1, z2, z3, z4, z5, z6, z7⟩, _, _⟩, xr, hO⟩ := HX.out wr (Below.refl _ _)
        simp only [Nat.zero_add] at x1 x2 x3 x4 x5 x6 x7 z1 z2 z3 z4 z5 z6 z7
        have g0 := Ex.cell x0
        have g1 := Ex.cell x1
        have g2 := Ex.cell x2
        have g3 := Ex.cell x3
        have g4 := Ex.cell x4
        have g5 := Ex.cell x5
        have g6 := Ex.cell x6
        have g7 := Ex.cell x7
        have k0 := Ex.cell z0
        have k1 := Ex.cell z1
        have k2 := Ex.cell z2
        have k3 := Ex.cell z3
        have k4 := Ex.cell z4
        have k5 := Ex.cell z5
        have k6 := Ex.cell z6
        have k7 := Ex.cell z7
        have gr := Ex.cell xr
        have y1 := Ex.cell (hO.1 1 (by omega))
        have y2 := Ex.cell (hO.1 2 (by omega))
        have y3 := Ex.cell (hO.1 3 (by omega))
        have y4 := Ex.cell (hO.1 4 (by omega))
        have y5 := Ex.cell (hO.1 5 (by omega))
        have y6 := Ex.cell (hO.1 6 (by omega))
        have ne := Ex.ne wr
        have B0 : Hid (Below wr.heap.size wr wr.drew) := (Below.refl _ _).drew
        clear x0 x1 x2 x3 x4 x5 x6 x7 z0 z1 z2 z3 z4 z5 z6 z7 hO HX HR
        replace y1 : ∀ p : Wd (Ex wr), p.v.cell? ⟨w10.heap.size, 1, none⟩ = some (.bool true) := y1
        replace y2 : ∀ p : Wd (Ex wr), p.v.cell? ⟨w10.heap.size, 2, none⟩ = some (.bool false) := y2
        replace y3 : ∀ p : Wd (Ex wr), p.v.cell? ⟨w10.heap.size, 3, none⟩ = some (.bool false) := y3
        replace y4 : ∀ p : Wd (Ex wr), p.v.cell? ⟨w10.heap.size, 4, none⟩ = some (.bool true) := y4
        replace y5 : ∀ p : Wd (Ex wr), p.v.cell? ⟨w10.heap.size, 5, none⟩ = some (.bool false) := y5
        replace y6 : ∀ p : Wd (Ex wr), p.v.cell? ⟨w10.heap.size, 6, none⟩ = some (.bool true) := y6
        cases ba
        all_goals
          go_wp2_with fail
          refine wp_region_ord_at (Ex wr) (regOf Try.f3.body 23) ((0, true) :: (1, true) :: (2, true) :: (5, true) :: (7, true) :: (8, true) :: (3, false) :: (4, true) :: (6, false) :: (9, true) :: (10, true) :: (11, true) :: (12, true) :: (13, true) :: (16, true) :: (18, true) :: (14, false) :: (15, true) :: (17, false) :: (19, true) :: (20, true) :: (21, true) :: (22, true) :: (23, true) :: (24, true) :: (25, true) :: (26, true) :: (29, true) :: (31, true) :: (27, false) :: (28, true) :: (30, false) :: (32, true) :: (33, true) :: (34, true) :: (35, true) :: (36, true) :: (37, true) :: (38, true) :: (39, true) :: (40, true) :: (41, true) :: (42, true) :: (43, true) :: (44, true) :: (45, true) :: (46, true) :: (47, true) :: (48, true) :: (49, true) :: (50, true) :: (51, true) :: (52, true) :: (53, true) :: (54, true) :: (55, true) :: (56, true) :: (57, true) :: (58, true) :: (59, true) :: (60, true) :: (61, true) :: (62, true) :: (63, true) :: (64, true) :: (65, true) :: (66, true) :: (67, true) :: (68, true) :: (69, true) :: (70, true) :: (71, true) :: (72, true) :: (73, true) :: (74, true) :: (75, true) :: (76, true) :: (77, true) :: (78, true) :: (79, true) :: (81, true) :: (82, true) :: (83, true) :: (84, true) :: (85, true) :: (80, false) :: (86, true) :: (87, true) :: (88, true) :: []) (by kernel_rfl) (by kernel_rfl) opp_ord B0.out ?_
          generalize wr.drew = v0 at *
          repeat (refine ord_quiet rfl ?_; go_big_quiet_step (fail); refine wpQuiet_nil ?_)
          refine ord_loud rfl ?_
          intro K hK
          go_simp
          refine hK _ _ (Ex.of (B0.out.trans (one_box.mono B0.out.size))) ?_
          clear hK
          repeat (refine ord_quiet rfl ?_; go_big_quiet_step (fail); refine wpQuiet_nil ?_)
          refine ord_call rfl (by rfl) 9 rfl (enters_of Try.func9 (by kernel_rfl) rfl) [.agg #[.int .i64 6, .int .i64 0, .int .i64 0, .int .i64 0, .int .i64 0, .int .i64 0, .string ⟨#[]⟩, .slice (some ⟨v0.heap.size, 0, none⟩) 1 1], .slice (some ⟨b6, o6, none⟩) 3 c6] (by rfl) _ (QN.out v0 B0) ?_
          rintro e v1 ⟨rfl, B1⟩
          refine ⟨_, rfl, Ex.of B1.out, ?_⟩
          simp only [Act.put, List.setIfInBounds_toArray, List.set_cons_zero, List.set_cons_succ, Bool.not_true, Bool.not_false]
          repeat (refine ord_quiet rfl ?_; go_big_quiet_step (fail); refine wpQuiet_nil ?_)
          refine ord_loud rfl ?_
          intro K hK
          go_simp
          refine hK _ _ (Ex.of (B1.out.trans (one_box.mono B1.out.size))) ?_
          clear hK
          repeat (refine ord_quiet rfl ?_; go_big_quiet_step (fail); refine wpQuiet_nil ?_)
          refine ord_call rfl (by rfl) 9 rfl (enters_of Try.func9 (by kernel_rfl) rfl) [.agg #[.int .i64 4, .int .i64 0, .int .i64 0, .int .i64 0, .int .i64 0, .int .i64 0, .string ⟨#[]⟩, .slice (some ⟨v1.heap.size, 0, none⟩) 2 2], .slice (some ⟨b6, o6, none⟩) 3 c6] (by rfl) _ (QA.out v1 B1) ?_
          rintro e v2 ⟨rfl, B2⟩
          refine ⟨_, rfl, Ex.of B2.out, ?_⟩
          simp only [Act.put, List.setIfInBounds_toArray, List.set_cons_zero, List.set_cons_succ, Bool.true_and, Bool.false_and]
          repeat (refine ord_quiet rfl ?_; go_big_quiet_step (fail); refine wpQuiet_nil ?_)
          refine ord_loud rfl ?_
          intro K hK
          go_simp
          refine hK _ _ (Ex.of (B2.out.trans (one_box.mono B2.out.size))) ?_
          clear hK
          repeat (refine ord_quiet rfl ?_; go_big_quiet_step (fail); refine wpQuiet_nil ?_)
          refine ord_call rfl (by rfl) 9 rfl (enters_of Try.func9 (by kernel_rfl) rfl) [.agg #[.int .i64 5, .int .i64 0, .int .i64 0, .int .i64 0, .int .i64 0, .int .i64 0, .string ⟨#[]⟩, .slice (some ⟨v2.heap.size, 0, none⟩) 2 2], .slice (some ⟨b6, o6, none⟩) 3 c6] (by rfl) _ (QO.out v2 B2) ?_
          rintro e v3 ⟨rfl, B3⟩
          refine ⟨_, rfl, Ex.of B3.out, ?_⟩
          simp only [Act.put, List.setIfInBounds_toArray, List.set_cons_zero, List.set_cons_succ, Bool.true_or, Bool.false_or]
          repeat (refine ord_quiet rfl ?_; go_big_quiet_step (fail); refine wpQuiet_nil ?_)
          refine ord_call rfl (by rfl) 9 rfl (enters_of Try.func9 (by kernel_rfl) rfl) [.agg #[.int .i64 3, .int .i64 0, .int .i64 0, .int .i64 0, .int .i64 0, .int .i64 0, .string ⟨#[]⟩, .slice none 0 0], .slice (some ⟨b6, o6, none⟩) 3 c6] (by rfl) _ (QZ.out v3 B3) ?_
          rintro e v4 ⟨rfl, B4⟩
          refine ⟨_, rfl, Ex.of B4.out, ?_⟩
          simp only [Act.put, List.setIfInBounds_toArray, List.set_cons_zero, List.set_cons_succ]
          repeat (refine ord_quiet rfl ?_; go_big_quiet_step (fail); refine wpQuiet_nil ?_)
          refine ord_end ?_
          go_wp2_with fail
          go_ret
          exact ⟨rfl, HB.out.trans (B4.out.mono HB.out.size)⟩
      · obtain ⟨⟨⟨x0, x1, x2, x3, x4, x5, x6, x7⟩, _, _⟩, ⟨⟨z0, z1, z2, z3, z4, z5, z6, z7⟩, _, _⟩, xr, hO⟩ := HX.out wr (Below.refl _ _)
        simp only [Nat.zero_add] at x1 x2 x3 x4 x5 x6 x7 z1 z2 z3 z4 z5 z6 z7
        have g0 := Ex.cell x0
        have g1 := Ex.cell x1
        have g2 := Ex.cell x2
        have g3 := Ex.cell x3
        have g4 := Ex.cell x4
        have g5 := Ex.cell x5
        have g6 := Ex.cell x6
        have g7 := Ex.cell x7
        have k0 := Ex.cell z0
        have k1 := Ex.cell z1
        have k2 := Ex.cell z2
        have k3 := Ex.cell z3
        have k4 := Ex.cell z4
        have k5 := Ex.cell z5
        have k6 := Ex.cell z6
        have k7 := Ex.cell z7
        have gr := Ex.cell xr
        have y1 := Ex.cell (hO.1 1 (by omega))
        have y2 := Ex.cell (hO.1 2 (by omega))
        have y3 := Ex.cell (hO.1 3 (by omega))
        have y4 := Ex.cell (hO.1 4 (by omega))
        have y5 := Ex.cell (hO.1 5 (by omega))
        have y6 := Ex.cell (hO.1 6 (by omega))
        have ne := Ex.ne wr
        have B0 : Hid (Below wr.heap.size wr wr.drew) := (Below.refl _ _).drew
        clear x0 x1 x2 x3 x4 x5 x6 x7 z0 z1 z2 z3 z4 z5 z6 z7 hO HX HR
        replace y1 : ∀ p : Wd (Ex wr), p.v.cell? ⟨w10.heap.size, 1, none⟩ = some (.bool false) := y1
        replace y2 : ∀ p : Wd (Ex wr), p.v.cell? ⟨w10.heap.size, 2, none⟩ = some (.bool true) := y2
        replace y3 : ∀ p : Wd (Ex wr), p.v.cell? ⟨w10.heap.size, 3, none⟩ = some (.bool false) := y3
        replace y4 : ∀ p : Wd (Ex wr), p.v.cell? ⟨w10.heap.size, 4, none⟩ = some (.bool false) := y4
        replace y5 : ∀ p : Wd (Ex wr), p.v.cell? ⟨w10.heap.size, 5, none⟩ = some (.bool true) := y5
        replace y6 : ∀ p : Wd (Ex wr), p.v.cell? ⟨w10.heap.size, 6, none⟩ = some (.bool true) := y6
        cases ba
        all_goals
          go_wp2_with fail
          refine wp_region_ord_at (Ex wr) (regOf Try.f3.body 23) ((0, true) :: (1, true) :: (2, true) :: (5, true) :: (7, true) :: (8, true) :: (3, false) :: (4, true) :: (6, false) :: (9, true) :: (10, true) :: (11, true) :: (12, true) :: (13, true) :: (16, true) :: (18, true) :: (14, false) :: (15, true) :: (17, false) :: (19, true) :: (20, true) :: (21, true) :: (22, true) :: (23, true) :: (24, true) :: (25, true) :: (26, true) :: (29, true) :: (31, true) :: (27, false) :: (28, true) :: (30, false) :: (32, true) :: (33, true) :: (34, true) :: (35, true) :: (36, true) :: (37, true) :: (38, true) :: (39, true) :: (40, true) :: (41, true) :: (42, true) :: (43, true) :: (44, true) :: (45, true) :: (46, true) :: (47, true) :: (48, true) :: (49, true) :: (50, true) :: (51, true) :: (52, true) :: (53, true) :: (54, true) :: (55, true) :: (56, true) :: (57, true) :: (58, true) :: (59, true) :: (60, true) :: (61, true) :: (62, true) :: (63, true) :: (64, true) :: (65, true) :: (66, true) :: (67, true) :: (68, true) :: (69, true) :: (70, true) :: (71, true) :: (72, true) :: (73, true) :: (74, true) :: (75, true) :: (76, true) :: (77, true) :: (78, true) :: (79, true) :: (81, true) :: (82, true) :: (83, true) :: (84, true) :: (85, true) :: (80, false) :: (86, true) :: (87, true) :: (88, true) :: []) (by kernel_rfl) (by kernel_rfl) opp_ord B0.out ?_
          generalize wr.drew = v0 at *
          repeat (refine ord_quiet rfl ?_; go_big_quiet_step (fail); refine wpQuiet_nil ?_)
          refine ord_loud rfl ?_
          intro K hK
          go_simp
          refine hK _ _ (Ex.of (B0.out.trans (one_box.mono B0.out.size))) ?_
          clear hK
          repeat (refine ord_quiet rfl ?_; go_big_quiet_step (fail); refine wpQuiet_nil ?_)
          refine ord_call rfl (by rfl) 9 rfl (enters_of Try.func9 (by kernel_rfl) rfl) [.agg #[.int .i64 6, .int .i64 0, .int .i64 0, .int .i64 0, .int .i64 0, .int .i64 0, .string ⟨#[]⟩, .slice (some ⟨v0.heap.size, 0, none⟩) 1 1], .slice (some ⟨b6, o6, none⟩) 3 c6] (by rfl) _ (QN.out v0 B0) ?_
          rintro e v1 ⟨rfl, B1⟩
          refine ⟨_, rfl, Ex.of B1.out, ?_⟩
          simp only [Act.put, List.setIfInBounds_toArray, List.set_cons_zero, List.set_cons_succ, Bool.not_true, Bool.not_false]
          repeat (refine ord_quiet rfl ?_; go_big_quiet_step (fail); refine wpQuiet_nil ?_)
          refine ord_loud rfl ?_
          intro K hK
          go_simp
          refine hK _ _ (Ex.of (B1.out.trans (one_box.mono B1.out.size))) ?_
          clear hK
          repeat (refine ord_quiet rfl ?_; go_big_quiet_step (fail); refine wpQuiet_nil ?_)
          refine ord_call rfl (by rfl) 9 rfl (enters_of Try.func9 (by kernel_rfl) rfl) [.agg #[.int .i64 4, .int .i64 0, .int .i64 0, .int .i64 0, .int .i64 0, .int .i64 0, .string ⟨#[]⟩, .slice (some ⟨v1.heap.size, 0, none⟩) 2 2], .slice (some ⟨b6, o6, none⟩) 3 c6] (by rfl) _ (QA.out v1 B1) ?_
          rintro e v2 ⟨rfl, B2⟩
          refine ⟨_, rfl, Ex.of B2.out, ?_⟩
          simp only [Act.put, List.setIfInBounds_toArray, List.set_cons_zero, List.set_cons_succ, Bool.true_and, Bool.false_and]
          repeat (refine ord_quiet rfl ?_; go_big_quiet_step (fail); refine wpQuiet_nil ?_)
          refine ord_loud rfl ?_
          intro K hK
          go_simp
          refine hK _ _ (Ex.of (B2.out.trans (one_box.mono B2.out.size))) ?_
          clear hK
          repeat (refine ord_quiet rfl ?_; go_big_quiet_step (fail); refine wpQuiet_nil ?_)
          refine ord_call rfl (by rfl) 9 rfl (enters_of Try.func9 (by kernel_rfl) rfl) [.agg #[.int .i64 5, .int .i64 0, .int .i64 0, .int .i64 0, .int .i64 0, .int .i64 0, .string ⟨#[]⟩, .slice (some ⟨v2.heap.size, 0, none⟩) 2 2], .slice (some ⟨b6, o6, none⟩) 3 c6] (by rfl) _ (QO.out v2 B2) ?_
          rintro e v3 ⟨rfl, B3⟩
          refine ⟨_, rfl, Ex.of B3.out, ?_⟩
          simp only [Act.put, List.setIfInBounds_toArray, List.set_cons_zero, List.set_cons_succ, Bool.true_or, Bool.false_or]
          repeat (refine ord_quiet rfl ?_; go_big_quiet_step (fail); refine wpQuiet_nil ?_)
          refine ord_call rfl (by rfl) 9 rfl (enters_of Try.func9 (by kernel_rfl) rfl) [.agg #[.int .i64 3, .int .i64 0, .int .i64 0, .int .i64 0, .int .i64 0, .int .i64 0, .string ⟨#[]⟩, .slice none 0 0], .slice (some ⟨b6, o6, none⟩) 3 c6] (by rfl) _ (QZ.out v3 B3) ?_
          rintro e v4 ⟨rfl, B4⟩
          refine ⟨_, rfl, Ex.of B4.out, ?_⟩
          simp only [Act.put, List.setIfInBounds_toArray, List.set_cons_zero, List.set_cons_succ]
          repeat (refine ord_quiet rfl ?_; go_big_quiet_step (fail); refine wpQuiet_nil ?_)
          refine ord_end ?_
          go_wp2_with fail
          go_ret
          exact ⟨rfl, HB.out.trans (B4.out.mono HB.out.size)⟩
theorem predOpposites_walk (a : Option Addr) (len cap : Nat) (zs : List Int) (w : World) (ha : IsRow .i64 w a len cap zs) :
    Calls Try.prog 3 #[.slice a len cap] w fun e w' => e = .returned (.bool true) ∧ Below w.heap.size w w' := by
  by_cases h : (len : Int) ≤ 100
  · exact pdopp_main a len cap zs h w ha
  · exact pdopp_long a len cap w (by omega)
end Go.Proofs.Ytiphnbpkliglcaa
