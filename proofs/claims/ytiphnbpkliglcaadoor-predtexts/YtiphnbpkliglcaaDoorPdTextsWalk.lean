/- The walk of the law that predicates that hold differently are written differently. -/
import Derived.Test.YtiphnbpkliglcaaDoorPdWrite4
import Derived.Test.YtiphnbpkliglcaaDoorPdMake
import Derived.Test.YtiphnbpkliglcaaDoorPdFirst
import Derived.Test.YtiphnbpkliglcaaDoorPdNew
namespace Go.Proofs.YtiphnbpkliglcaaDoor
open Go.RowKit Go.Sort
set_option maxRecDepth 100000
set_option linter.unusedVariables false

theorem MkP.mono {ok ok' : Val → Prop} {ks : List Int} (h : ∀ v, ok v → ok' v) : ∀ {n : Nat} {p : Pd}, MkP ok ks n p → MkP ok' ks n p := by
  intro n
  induction n with
  | zero => intro p hp; exact ⟨hp.1, fun k => h _ (hp.2 k)⟩
  | succ n ih =>
    intro p hp
    rcases hp with hp | ⟨q, rfl, hq⟩ | ⟨k, l, rfl, hk, h2, h3, hl⟩
    · exact .inl ⟨hp.1, fun k => h _ (hp.2 k)⟩
    · exact .inr (.inl ⟨q, rfl, ih hq⟩)
    · exact .inr (.inr ⟨k, l, rfl, hk, h2, h3, fun q hq => ih (hl q hq)⟩)
theorem texts_unlike {ks : List Int} {n : Nat} {p q : Pd} (hp : MkP okM ks n p) (hq : MkP okM ks n q) (r : List Val) : hd p r = hd q r ∨ shP p ≠ shP q := by
  by_cases e : shP p = shP q
  · exact .inl (by rw [text_same (hp.mono fun v h => ⟨h.1, h.2.1⟩) (hq.mono fun v h => ⟨h.1, h.2.1⟩) e])
  · exact .inr e
theorem text_and (P Q : Pd) : (⟨(shP ⟨4, 0, 0, 0, nul, [P, Q]⟩).toArray⟩ : ByteArray) = ⟨#[40]⟩ ++ ⟨(shP P).toArray⟩ ++ ⟨#[41, 32, 97, 110, 100, 32, 40]⟩ ++ ⟨(shP Q).toArray⟩ ++ ⟨#[41]⟩ := by
  rw [shP_eq]
  apply ByteArray.ext
  simp [ByteArray.data_append, joinP, brk, restP, andB]
theorem text_not (P : Pd) : (⟨(shP ⟨6, 0, 0, 0, nul, [P]⟩).toArray⟩ : ByteArray) = ⟨#[110, 111, 116, 32, 40]⟩ ++ ⟨(shP P).toArray⟩ ++ ⟨#[41]⟩ := by
  rw [shP_not]
  apply ByteArray.ext
  simp [ByteArray.data_append]
theorem not_lT {n : Nat} {W : World} {P : Pd} {s : Value} (h : PdL (fun _ => True) n W s P.l) : PdL (fun _ => True) (n + 1) (W.alloc (.cells #[.int .i64 P.k, .int .i64 P.c, .int .i64 P.o, .int .i64 P.d, .int .i64 P.v.1, .int .i64 P.v.2.1, .string P.v.2.2, s] 28)) (.slice (some ⟨W.heap.size, 0, none⟩) 1 1) [P] := by
  refine .inr ⟨W.heap.size, 0, 1, rfl, Nat.le_refl _, by decide, by simp, trivial, fun i hi => ?_⟩
  obtain rfl : i = 0 := by simp at hi; omega
  exact ⟨s, PdAt.box W P s 28, h.on one_box⟩
theorem two_lT {n : Nat} {W : World} {P Q : Pd} {s t : Value} (h : PdL (fun _ => True) n W s P.l) (h' : PdL (fun _ => True) n W t Q.l) : PdL (fun _ => True) (n + 1) (W.alloc (.cells #[.int .i64 P.k, .int .i64 P.c, .int .i64 P.o, .int .i64 P.d, .int .i64 P.v.1, .int .i64 P.v.2.1, .string P.v.2.2, s, .int .i64 Q.k, .int .i64 Q.c, .int .i64 Q.o, .int .i64 Q.d, .int .i64 Q.v.1, .int .i64 Q.v.2.1, .string Q.v.2.2, t] 28)) (.slice (some ⟨W.heap.size, 0, none⟩) 2 2) [P, Q] := by
  refine .inr ⟨W.heap.size, 0, 2, rfl, Nat.le_refl _, by decide, by simp, trivial, fun i hi => ?_⟩
  have : i = 0 ∨ i = 1 := by simp at hi; omega
  rcases this with rfl | rfl
  · refine ⟨s, ⟨?_, ?_, ?_, ?_, ?_, ?_, ?_, ?_⟩, h.on one_box⟩ <;> (rw [World.cell?_alloc_at _ _ _ _ rfl]; rfl)
  · refine ⟨t, ⟨?_, ?_, ?_, ?_, ?_, ?_, ?_, ?_⟩, h'.on one_box⟩ <;> (rw [World.cell?_alloc_at _ _ _ _ rfl]; rfl)
theorem mk_and {ok : Val → Prop} {ks : List Int} {n : Nat} {P Q : Pd} (h : MkP ok ks n P) (h' : MkP ok ks n Q) : MkP ok ks (n + 1) ⟨4, 0, 0, 0, nul, [P, Q]⟩ := by
  refine .inr (.inr ⟨4, [P, Q], rfl, .inl rfl, by simp, by simp, fun q hq => ?_⟩)
  rcases List.mem_cons.1 hq with rfl | hq
  · exact h
  · obtain rfl : q = Q := by simpa using hq
    exact h'
theorem mk_not {ok : Val → Prop} {ks : List Int} {n : Nat} {P : Pd} (h : MkP ok ks n P) : MkP ok ks (n + 1) ⟨6, 0, 0, 0, nul, [P]⟩ := .inr (.inl ⟨P, rfl, h⟩)
theorem kinds123 : ∀ (i : Nat) (h : i < ([1, 2, 3] : List Int).length), ([1, 2, 3] : List Int)[i] = 0 ∨ ([1, 2, 3] : List Int)[i] = 1 ∨ ([1, 2, 3] : List Int)[i] = 2 ∨ ([1, 2, 3] : List Int)[i] = 3 := by
  intro i hi
  have : i = 0 ∨ i = 1 ∨ i = 2 := by simp at hi; omega
  rcases this with rfl | rfl | rfl <;> simp
theorem kin123 : ∀ k ∈ ([1, 2, 3] : List Int), k = 1 ∨ k = 2 ∨ k = 3 := by simp
set_option maxHeartbeats 1000000 in
theorem pdtexts_long0 (a a' a'' : Option Addr) (len cap len' cap' len'' cap'' : Nat) (w : World) (h : 80 < (len : Int)) :
    Calls Tryd.prog 4 #[.slice a len cap, .slice a' len' cap', .slice a'' len'' cap''] w fun e w' => e = .returned (.bool true) ∧ Below w.heap.size w w' := by
  go_enter Tryd.func4, Tryd.ntmps4
  go_wp2_with fail
  refine (lawFirst10 w).mono ?_
  rintro e w1 ⟨rfl, hb1⟩
  go_wp2_with fail
  go_ret
  exact ⟨rfl, hb1⟩
set_option maxHeartbeats 1000000 in
theorem pdtexts_long1 (a a' a'' : Option Addr) (len cap len' cap' len'' cap'' : Nat) (w : World) (h0 : ¬ 80 < (len : Int)) (h : 80 < (len' : Int)) :
    Calls Tryd.prog 4 #[.slice a len cap, .slice a' len' cap', .slice a'' len'' cap''] w fun e w' => e = .returned (.bool true) ∧ Below w.heap.size w w' := by
  go_enter Tryd.func4, Tryd.ntmps4
  go_wp2_with fail
  refine (lawFirst10 w).mono ?_
  rintro e w1 ⟨rfl, hb1⟩
  go_wp2_with fail
  go_ret
  exact ⟨rfl, hb1⟩
set_option maxHeartbeats 1000000 in
theorem pdtexts_long2 (a a' a'' : Option Addr) (len cap len' cap' len'' cap'' : Nat) (w : World) (h0 : ¬ 80 < (len : Int)) (h1 : ¬ 80 < (len' : Int)) (h : 40 < (len'' : Int)) :
    Calls Tryd.prog 4 #[.slice a len cap, .slice a' len' cap', .slice a'' len'' cap''] w fun e w' => e = .returned (.bool true) ∧ Below w.heap.size w w' := by
  go_enter Tryd.func4, Tryd.ntmps4
  go_wp2_with fail
  refine (lawFirst10 w).mono ?_
  rintro e w1 ⟨rfl, hb1⟩
  go_wp2_with fail
  go_ret
  exact ⟨rfl, hb1⟩
theorem texts_ord : ordOk (regOf Tryd.f4.body 11) ((0, true) :: (1, true) :: (2, true) :: (3, true) :: (5, true) :: (6, true) :: (4, false) :: (7, false) :: (8, true) :: (9, true) :: (10, true) :: (12, true) :: (11, false) :: (13, false) :: (14, true) :: (15, true) :: (16, true) :: (17, true) :: (18, true) :: (20, true) :: (24, true) :: (19, false) :: (21, false) :: (22, true) :: (23, true) :: (25, false) :: (26, true) :: (27, true) :: (28, true) :: (29, true) :: (30, true) :: (31, true) :: (35, true) :: (32, false) :: (33, true) :: (34, false) :: (36, false) :: (37, true) :: (38, true) :: (39, true) :: (40, true) :: (41, true) :: (42, true) :: (44, true) :: (47, true) :: (48, true) :: (43, false) :: (45, false) :: (46, true) :: (49, false) :: (50, true) :: (51, true) :: (52, true) :: []) = true := by kernel_rfl
set_option maxHeartbeats 8000000 in
theorem pdtexts_main (a a' a'' : Option Addr) (len cap len' cap' len'' cap'' : Nat) (zs zs' zs'' : List Int) (h0 : ¬ 80 < (len : Int)) (h1 : ¬ 80 < (len' : Int)) (h2 : ¬ 40 < (len'' : Int)) (w : World) (hr : Ready w) (ha : IsRow .i64 w a len cap zs) (ha' : IsRow .i64 w a' len' cap' zs') (ha'' : IsRow .i64 w a'' len'' cap'' zs'') :
    Calls Tryd.prog 4 #[.slice a len cap, .slice a' len' cap', .slice a'' len'' cap''] w fun e w' => e = .returned (.bool true) ∧ Below w.heap.size w w' := by
  have HA : Hid (IsRow .i64 w a len cap zs ∧ IsRow .i64 w a' len' cap' zs' ∧ IsRow .i64 w a'' len'' cap'' zs'') := ⟨ha, ha', ha''⟩
  have HR : Hid (Ready w) := hr
  clear ha ha' ha'' hr
  go_enter Tryd.func4, Tryd.ntmps4
  go_wp2_with fail
  refine (lawFirst10 w).mono ?_
  rintro e w1 ⟨rfl, hb1⟩
  have B1 : Hid (Below w.heap.size w w1) := hb1
  clear hb1
  obtain ⟨W2, hW2⟩ : ∃ W2, W2 = w1.alloc (.cells #[.int .i64 1, .int .i64 2, .int .i64 3] 3) := ⟨_, rfl⟩
  have B2 : Hid (Below w.heap.size w W2) := by show Below _ _ _; rw [hW2]; exact B1.out.trans (one_box.mono B1.out.size)
  obtain ⟨C, hC⟩ : ∃ C, C = w1.heap.size := ⟨_, rfl⟩
  have C2 : Hid (ColsAt C [1, 2, 3] W2) := by
    show ColsAt _ _ _
    rw [hW2, hC]; exact cols_newP w1 [1, 2, 3] 3
  have HC : Hid (w.heap.size ≤ C ∧ W2.heap.size = C + 1) := by
    show _ ∧ _
    rw [hW2, hC]; exact ⟨B1.out.size, by simp⟩
  obtain ⟨W3, hW3⟩ : ∃ W3, W3 = W2.alloc (.cells #[.slice a len cap, .int .i64 0] 37) := ⟨_, rfl⟩
  have F3 : Hid (SeqAt (C + 1) a len cap zs 0 W3 ∧ ColsAt C [1, 2, 3] W3 ∧ Below w.heap.size w W3 ∧ W3.heap.size = C + 2) := by
    have s := SeqAt.make (HA.out.1.below B2.out) 37
    rw [HC.out.2] at s
    rw [hW3]
    exact ⟨s, C2.out.on one_box, B2.out.trans (one_box.mono B2.out.size), by rw [World.size_alloc, HC.out.2]⟩
  have q4 : Calls Tryd.prog 8 #[.pointer (some ⟨C + 1, 0, none⟩), .slice (some ⟨C, 0, none⟩) 3 3, .int .i64 2] W3 (PdMade (C + 1) a len cap zs [1, 2, 3] 2 0 W3) :=
    makePred (C + 1) a len cap zs 0 C 0 3 [1, 2, 3] 2 (by omega) W3 F3.out.1 (by omega) (F3.out.2.1.ints 3 rfl (by simp [maxLen])) (by omega) (by simp) (by simp) kin123
  rw [hW3, hW2] at q4
  rw [hC] at q4
  clear B1 B2 C2
  go_wp2_with fail
  refine q4.mono ?_
  rw [← hW2, ← hW3, ← hC]
  clear hC
  rintro e w4 ⟨P, s4, p4, rfl, mk4, pl4, hp4, seq4, but4⟩
  obtain ⟨as4, cs4, hs4⟩ := pl4.form
  subst hs4
  unfold pv
  obtain ⟨W4, hW4⟩ : ∃ W4, W4 = w4.alloc (.cells #[.int .i64 P.k, .int .i64 P.c, .int .i64 P.o, .int .i64 P.d, .int .i64 P.v.1, .int .i64 P.v.2.1, .string P.v.2.2, .slice as4 P.l.length cs4] 28) := ⟨_, rfl⟩
  have HC1 : Hid (C + 2 ≤ w4.heap.size ∧ w.heap.size ≤ C) := ⟨by have := but4.size; rw [F3.out.2.2.2] at this; exact this, HC.out.1⟩
  have F4 : Hid (PdL (fun _ => True) 2 W4 (.slice as4 P.l.length cs4) P.l ∧ ColsAt C [1, 2, 3] W4 ∧ Below w.heap.size w W4 ∧ PdBox w4.heap.size P (.slice as4 P.l.length cs4) W4 ∧ W4.heap.size = w4.heap.size + 1 ∧ MkP okM [1, 2, 3] 2 P) := by
    have b : But (C + 1) W3 W4 := by rw [hW4]; exact but4.trans (But.of_below one_box)
    refine ⟨?_, F3.out.2.1.but b (by omega), F3.out.2.2.1.trans (b.below (by have := HC1.out; omega) F3.out.2.2.1.size), ?_, by rw [hW4]; simp, mk4⟩
    · rw [hW4]; exact pl4.any.on one_box
    · rw [hW4]; exact PdBox.new w4 P _
  clear q4 mk4 pl4 hp4 seq4 but4 hW3 hW2
  obtain ⟨W5, hW5⟩ : ∃ W5, W5 = W4.alloc (.cells #[.slice a' len' cap', .int .i64 0] 37) := ⟨_, rfl⟩
  have F5 : Hid (SeqAt (w4.heap.size + 1) a' len' cap' zs' 0 W5 ∧ ColsAt C [1, 2, 3] W5 ∧ Below w.heap.size w W5 ∧ W5.heap.size = w4.heap.size + 2 ∧ PdL (fun k => k < w4.heap.size + 1) 2 W5 (.slice as4 P.l.length cs4) P.l ∧ PdBox w4.heap.size P (.slice as4 P.l.length cs4) W5) := by
    have s := SeqAt.make (HA.out.2.1.below F4.out.2.2.1) 37
    rw [F4.out.2.2.2.2.1] at s
    rw [hW5]
    exact ⟨s, F4.out.2.1.on one_box, F4.out.2.2.1.trans (one_box.mono F4.out.2.2.1.size), by rw [World.size_alloc, F4.out.2.2.2.2.1], (F4.out.1.mono (fun b _ h => by rw [← F4.out.2.2.2.2.1]; exact h)).on one_box, F4.out.2.2.2.1.on one_box⟩
  have q5 : Calls Tryd.prog 8 #[.pointer (some ⟨w4.heap.size + 1, 0, none⟩), .slice (some ⟨C, 0, none⟩) 3 3, .int .i64 2] W5 (PdMade (w4.heap.size + 1) a' len' cap' zs' [1, 2, 3] 2 0 W5) :=
    makePred (w4.heap.size + 1) a' len' cap' zs' 0 C 0 3 [1, 2, 3] 2 (by omega) W5 F5.out.1 (by omega) (F5.out.2.1.ints 3 rfl (by simp [maxLen])) (by have := HC1.out; omega) (by simp) (by simp) kin123
  rw [hW5, hW4] at q5
  go_wp2_with fail
  refine q5.mono ?_
  rw [← hW4, ← hW5]
  rintro e w5 ⟨Q, s5, p5, rfl, mk5, pl5, hp5, seq5, but5⟩
  obtain ⟨as5, cs5, hs5⟩ := pl5.form
  subst hs5
  unfold pv
  obtain ⟨W6, hW6⟩ : ∃ W6, W6 = (w5.alloc (.cells #[.int .i64 Q.k, .int .i64 Q.c, .int .i64 Q.o, .int .i64 Q.d, .int .i64 Q.v.1, .int .i64 Q.v.2.1, .string Q.v.2.2, .slice as5 Q.l.length cs5] 28)).alloc (.cells #[.slice a'' len'' cap'', .int .i64 0] 37) := ⟨_, rfl⟩
  have HC2 : Hid (w4.heap.size + 2 ≤ w5.heap.size) := by show _ ≤ _; have := but5.size; rw [F5.out.2.2.2.1] at this; exact this
  have F6 : Hid (SeqAt (w5.heap.size + 1) a'' len'' cap'' zs'' 0 W6 ∧ ColsAt C [1, 2, 3] W6 ∧ Below w.heap.size w W6 ∧ W6.heap.size = w5.heap.size + 2 ∧ PdL (fun k => k < w5.heap.size + 1) 2 W6 (.slice as4 P.l.length cs4) P.l ∧ PdBox w4.heap.size P (.slice as4 P.l.length cs4) W6 ∧ PdL (fun k => k < w5.heap.size + 1) 2 W6 (.slice as5 Q.l.length cs5) Q.l ∧ PdBox w5.heap.size Q (.slice as5 Q.l.length cs5) W6 ∧ MkP okM [1, 2, 3] 2 Q) := by
    have b5 : But (w4.heap.size + 1) W5 (w5.alloc (.cells #[.int .i64 Q.k, .int .i64 Q.c, .int .i64 Q.o, .int .i64 Q.d, .int .i64 Q.v.1, .int .i64 Q.v.2.1, .string Q.v.2.2, .slice as5 Q.l.length cs5] 28)) := but5.trans (But.of_below one_box)
    have bb : Below w.heap.size w (w5.alloc (.cells #[.int .i64 Q.k, .int .i64 Q.c, .int .i64 Q.o, .int .i64 Q.d, .int .i64 Q.v.1, .int .i64 Q.v.2.1, .string Q.v.2.2, .slice as5 Q.l.length cs5] 28)) := F5.out.2.2.1.trans (b5.below (by have := HC1.out; omega) F5.out.2.2.1.size)
    have s := SeqAt.make (HA.out.2.2.below bb) 37
    rw [World.size_alloc] at s
    rw [hW6]
    have hz := HC2.out
    refine ⟨s, (F5.out.2.1.but b5 (by have := HC1.out; omega)).on one_box, bb.trans (one_box.mono bb.size), by simp, ?_, ?_, ?_, ?_, mk5⟩
    · exact ((F5.out.2.2.2.2.1.but b5 (by omega)).mono (fun b h _ => by omega)).on one_box
    · exact (F5.out.2.2.2.2.2.but b5 (by omega)).on one_box
    · have := (pl5.on (one_box (o := .cells #[.int .i64 Q.k, .int .i64 Q.c, .int .i64 Q.o, .int .i64 Q.d, .int .i64 Q.v.1, .int .i64 Q.v.2.1, .string Q.v.2.2, .slice as5 Q.l.length cs5] 28))).mono (F' := fun k => k < w5.heap.size + 1) (fun b _ h => by simpa using h)
      exact this.on one_box
    · exact (PdBox.new w5 Q _).on one_box
  have q6 := makeRow (w5.heap.size + 1) a'' len'' cap'' zs'' 0 C 3 3 [1, 2, 3] W6 F6.out.1 (by omega) F6.out.2.1 (by have := HC1.out; have := HC2.out; omega) (by simp) kinds123
  clear q5 mk5 pl5 hp5 seq5 but5 F5 hW5 hW4
  rw [hW6] at q6
  go_wp2_with fail
  refine q6.mono ?_
  rw [← hW6]
  rintro e w6 ⟨v6, rfl, l6, p6, hl6, ok6, own6, hp6, seq6, but6, _⟩
  obtain ⟨a6, c6, hv6⟩ := own_formP own6
  subst hv6
  obtain ⟨W7, hW7⟩ : ∃ W7, W7 = (w6.alloc (.cells #[.int .i64 P.k, .int .i64 P.c, .int .i64 P.o, .int .i64 P.d, .int .i64 P.v.1, .int .i64 P.v.2.1, .string P.v.2.2, .slice as4 P.l.length cs4, .int .i64 Q.k, .int .i64 Q.c, .int .i64 Q.o, .int .i64 Q.d, .int .i64 Q.v.1, .int .i64 Q.v.2.1, .string Q.v.2.2, .slice as5 Q.l.length cs5] 28)).alloc (.cells #[.int .i64 4, .int .i64 0, .int .i64 0, .int .i64 0, .int .i64 0, .int .i64 0, .string ⟨#[]⟩, .slice (some ⟨w6.heap.size, 0, none⟩) 2 2] 28) := ⟨_, rfl⟩
  have HC3 : Hid (w5.heap.size + 2 ≤ w6.heap.size) := by show _ ≤ _; have := but6.size; rw [F6.out.2.2.2.1] at this; exact this
  have F7 : Hid (RowIs W7 (.slice a6 3 c6) l6 ∧ PdL (fun _ => True) 2 W7 (.slice as4 P.l.length cs4) P.l ∧ PdL (fun _ => True) 2 W7 (.slice as5 Q.l.length cs5) Q.l ∧ PdL (fun _ => True) 3 W7 (.slice (some ⟨w6.heap.size, 0, none⟩) 2 2) [P, Q] ∧ PdBox w4.heap.size P (.slice as4 P.l.length cs4) W7 ∧ PdBox w5.heap.size Q (.slice as5 Q.l.length cs5) W7 ∧ PdBox (w6.heap.size + 1) ⟨4, 0, 0, 0, nul, [P, Q]⟩ (.slice (some ⟨w6.heap.size, 0, none⟩) 2 2) W7 ∧ Below w.heap.size w W7 ∧ l6.length = 3) := by
    have b7 : But (w5.heap.size + 1) W6 W7 := by rw [hW7]; exact but6.trans (But.of_below two_boxes)
    have hz := HC3.out
    have hz2 := HC2.out
    have hz1 := HC1.out
    have pP := F6.out.2.2.2.2.1.but but6 (by omega)
    have pQ := F6.out.2.2.2.2.2.2.1.but but6 (by omega)
    refine ⟨?_, (F6.out.2.2.2.2.1.but b7 (by omega)).any, (F6.out.2.2.2.2.2.2.1.but b7 (by omega)).any, ?_, F6.out.2.2.2.2.2.1.but b7 (by omega), F6.out.2.2.2.2.2.2.2.1.but b7 (by omega), ?_, F6.out.2.2.1.trans (b7.below (by omega) F6.out.2.2.1.size), hl6⟩
    · have o7 : W7.ownsRow W6.heap.size 25 3 (.slice a6 3 c6) 3 (rc l6) := by
        rw [hW7]; exact own_onP own6 two_boxes
      exact RowIs.of_own (base := W6.heap.size) (by rw [hl6]; exact o7)
    · rw [hW7]; exact (two_lT pP.any pQ.any).on one_box
    · rw [hW7]
      have := PdBox.new (w6.alloc (.cells #[.int .i64 P.k, .int .i64 P.c, .int .i64 P.o, .int .i64 P.d, .int .i64 P.v.1, .int .i64 P.v.2.1, .string P.v.2.2, .slice as4 P.l.length cs4, .int .i64 Q.k, .int .i64 Q.c, .int .i64 Q.o, .int .i64 Q.d, .int .i64 Q.v.1, .int .i64 Q.v.2.1, .string Q.v.2.2, .slice as5 Q.l.length cs5] 28)) ⟨4, 0, 0, 0, nul, [P, Q]⟩ (.slice (some ⟨w6.heap.size, 0, none⟩) 2 2)
      rw [World.size_alloc] at this
      exact this
  have MK : Hid (MkP okM [1, 2, 3] 2 P ∧ MkP okM [1, 2, 3] 2 Q) := ⟨F4.out.2.2.2.2.2, F6.out.2.2.2.2.2.2.2.2⟩
  have HX6 : Hid (PdBox w4.heap.size P (.slice as4 P.l.length cs4) w6 ∧ PdBox w5.heap.size Q (.slice as5 Q.l.length cs5) w6) := ⟨F6.out.2.2.2.2.2.1.but but6 (by have := HC2.out; omega), F6.out.2.2.2.2.2.2.2.1.but but6 (by omega)⟩
  clear q6 hl6 ok6 own6 hp6 seq6 but6 hW6 F6 F4 F3
  obtain ⟨⟨⟨x0, x1, x2, x3, x4, x5, x6, x7⟩, _, _⟩, ⟨⟨y0, y1, y2, y3, y4, y5, y6, y7⟩, _, _⟩⟩ := HX6.out
  simp only [Nat.zero_add] at x1 x2 x3 x4 x5 x6 x7 y1 y2 y3 y4 y5 y6 y7
  go_wp2_with fail
  rw [← hW7]
  clear x0 x1 x2 x3 x4 x5 x6 x7 y0 y1 y2 y3 y4 y5 y6 y7 HX6
  have HRW : Hid (∀ W, Below W7.heap.size W7 W → Ready W) := fun W hW => (HR.out.on F7.out.2.2.2.2.2.2.2.1).on hW
  have T1l : (shP P).length ≤ 2560 := shP_len (by decide) MK.out.1
  have T2l : (shP Q).length ≤ 2560 := shP_len (by decide) MK.out.2
  have MKB : Hid (MkP okM [1, 2, 3] 3 ⟨4, 0, 0, 0, nul, [P, Q]⟩) := mk_and MK.out.1 MK.out.2
  have MKN : Hid (MkP okM [1, 2, 3] 3 ⟨6, 0, 0, 0, nul, [P]⟩) := mk_not MK.out.1
  have HH1 : Hid (∀ W, Below W7.heap.size W7 W → Calls Tryd.prog 10 #[.agg #[.int .i64 P.k, .int .i64 P.c, .int .i64 P.o, .int .i64 P.d, .int .i64 P.v.1, .int .i64 P.v.2.1, .string P.v.2.2, .slice as4 P.l.length cs4], .slice a6 3 c6] W fun e w' => e = .returned (.bool (hd P l6)) ∧ Below W.heap.size W w') := fun W hW => predHolds 2 _ P (.slice as4 P.l.length cs4) (.slice a6 3 c6) l6 W (F7.out.2.1.on hW) (F7.out.1.on hW)
  have HH2 : Hid (∀ W, Below W7.heap.size W7 W → Calls Tryd.prog 10 #[.agg #[.int .i64 Q.k, .int .i64 Q.c, .int .i64 Q.o, .int .i64 Q.d, .int .i64 Q.v.1, .int .i64 Q.v.2.1, .string Q.v.2.2, .slice as5 Q.l.length cs5], .slice a6 3 c6] W fun e w' => e = .returned (.bool (hd Q l6)) ∧ Below W.heap.size W w') := fun W hW => predHolds 2 _ Q (.slice as5 Q.l.length cs5) (.slice a6 3 c6) l6 W (F7.out.2.2.1.on hW) (F7.out.1.on hW)
  have HS1 : Hid (∀ W, Below W7.heap.size W7 W → Calls Tryd.prog 11 #[.agg #[.int .i64 P.k, .int .i64 P.c, .int .i64 P.o, .int .i64 P.d, .int .i64 P.v.1, .int .i64 P.v.2.1, .string P.v.2.2, .slice as4 P.l.length cs4]] W fun e w' => e = .returned (.string ⟨(shP P).toArray⟩) ∧ Below W.heap.size W w') := fun W hW => predShow [1, 2, 3] (by decide) 2 (by decide) _ P _ W MK.out.1 (F7.out.2.1.on hW) (HRW.out W hW)
  have HS2 : Hid (∀ W, Below W7.heap.size W7 W → Calls Tryd.prog 11 #[.agg #[.int .i64 Q.k, .int .i64 Q.c, .int .i64 Q.o, .int .i64 Q.d, .int .i64 Q.v.1, .int .i64 Q.v.2.1, .string Q.v.2.2, .slice as5 Q.l.length cs5]] W fun e w' => e = .returned (.string ⟨(shP Q).toArray⟩) ∧ Below W.heap.size W w') := fun W hW => predShow [1, 2, 3] (by decide) 2 (by decide) _ Q _ W MK.out.2 (F7.out.2.2.1.on hW) (HRW.out W hW)
  have HSB : Hid (∀ W, Below W7.heap.size W7 W → Calls Tryd.prog 11 #[.agg #[.int .i64 4, .int .i64 0, .int .i64 0, .int .i64 0, .int .i64 0, .int .i64 0, .string ⟨#[]⟩, .slice (some ⟨w6.heap.size, 0, none⟩) 2 2]] W fun e w' => e = .returned (.string (⟨#[40]⟩ ++ ⟨(shP P).toArray⟩ ++ ⟨#[41, 32, 97, 110, 100, 32, 40]⟩ ++ ⟨(shP Q).toArray⟩ ++ ⟨#[41]⟩)) ∧ Below W.heap.size W w') := fun W hW => by
    rw [← text_and]
    exact predShow [1, 2, 3] (by decide) 3 (by decide) _ ⟨4, 0, 0, 0, nul, [P, Q]⟩ _ W MKB.out (F7.out.2.2.2.1.on hW) (HRW.out W hW)
  have HSN : Hid (∀ W, Below W7.heap.size W7 W → Calls Tryd.prog 11 #[.agg #[.int .i64 6, .int .i64 0, .int .i64 0, .int .i64 0, .int .i64 0, .int .i64 0, .string ⟨#[]⟩, .slice (some ⟨W.heap.size, 0, none⟩) 1 1]] (W.alloc (.cells #[.int .i64 P.k, .int .i64 P.c, .int .i64 P.o, .int .i64 P.d, .int .i64 P.v.1, .int .i64 P.v.2.1, .string P.v.2.2, .slice as4 P.l.length cs4] 28)) fun e w' => e = .returned (.string (⟨#[110, 111, 116, 32, 40]⟩ ++ ⟨(shP P).toArray⟩ ++ ⟨#[41]⟩)) ∧ Below W.heap.size W w') := fun W hW => by
    rw [← text_not]
    exact (predShow [1, 2, 3] (by decide) 3 (by decide) _ ⟨6, 0, 0, 0, nul, [P]⟩ _ _ MKN.out (not_lT (F7.out.2.1.on hW)) ((HRW.out W hW).on one_box)).mono fun e w' h => ⟨h.1, one_box.trans (h.2.mono (by simp))⟩
  have HSS : Hid (∀ W, Below W7.heap.size W7 W → Calls Tryd.prog 12 #[.agg #[.int .i64 P.k, .int .i64 P.c, .int .i64 P.o, .int .i64 P.d, .int .i64 P.v.1, .int .i64 P.v.2.1, .string P.v.2.2, .slice as4 P.l.length cs4], .agg #[.int .i64 Q.k, .int .i64 Q.c, .int .i64 Q.o, .int .i64 Q.d, .int .i64 Q.v.1, .int .i64 Q.v.2.1, .string Q.v.2.2, .slice as5 Q.l.length cs5]] W fun e w' => e = .returned (.bool (shP P == shP Q)) ∧ Below W.heap.size W w') := fun W hW => predSame [1, 2, 3] (by decide) 2 (by decide) _ P Q _ _ W MK.out.1 MK.out.2 (F7.out.2.1.on hW) (F7.out.2.2.1.on hW) (HRW.out W hW)
  have HE : Hid (hd P l6 = hd Q l6 ∨ shP P ≠ shP Q) := texts_unlike MK.out.1 MK.out.2 l6
  have HB7 : Hid (Below w.heap.size w W7) := F7.out.2.2.2.2.2.2.2.1
  generalize shP P = T1 at *
  generalize shP Q = T2 at *
  generalize hd P l6 = ba at *
  generalize hd Q l6 = bb at *
  have L1 : ¬ 9223372036854775807 < 1 + T1.length := by omega
  have L2 : ¬ 9223372036854775807 < 1 + T1.length + 7 := by omega
  have L3 : ¬ 9223372036854775807 < 1 + T1.length + 7 + T2.length := by omega
  have L4 : ¬ 9223372036854775807 < 1 + T1.length + 7 + T2.length + 1 := by omega
  have L5 : ¬ 9223372036854775807 < 5 + T1.length := by omega
  have L6 : ¬ 9223372036854775807 < 5 + T1.length + 1 := by omega
  obtain ⟨⟨x0, x1, x2, x3, x4, x5, x6, x7⟩, _, _⟩ := F7.out.2.2.2.2.1
  obtain ⟨⟨y0, y1, y2, y3, y4, y5, y6, y7⟩, _, _⟩ := F7.out.2.2.2.2.2.1
  obtain ⟨⟨z0, z1, z2, z3, z4, z5, z6, z7⟩, _, _⟩ := F7.out.2.2.2.2.2.2.1
  simp only [Nat.zero_add] at x1 x2 x3 x4 x5 x6 x7 y1 y2 y3 y4 y5 y6 y7 z1 z2 z3 z4 z5 z6 z7
  have g0 := Ex.cell x0
  have g1 := Ex.cell x1
  have g2 := Ex.cell x2
  have g3 := Ex.cell x3
  have g4 := Ex.cell x4
  have g5 := Ex.cell x5
  have g6 := Ex.cell x6
  have g7 := Ex.cell x7
  have k0 := Ex.cell y0
  have k1 := Ex.cell y1
  have k2 := Ex.cell y2
  have k3 := Ex.cell y3
  have k4 := Ex.cell y4
  have k5 := Ex.cell y5
  have k6 := Ex.cell y6
  have k7 := Ex.cell y7
  have m0 := Ex.cell z0
  have m1 := Ex.cell z1
  have m2 := Ex.cell z2
  have m3 := Ex.cell z3
  have m4 := Ex.cell z4
  have m5 := Ex.cell z5
  have m6 := Ex.cell z6
  have m7 := Ex.cell z7
  have ne := Ex.ne W7
  clear T1l T2l F7 MK MKB MKN HRW x0 x1 x2 x3 x4 x5 x6 x7 y0 y1 y2 y3 y4 y5 y6 y7 z0 z1 z2 z3 z4 z5 z6 z7 hW7
  cases ba <;> cases bb
  · clear HE
    go_wp2_with fail
    refine wp_region_ord_at (Ex W7) (regOf Tryd.f4.body 11) ((0, true) :: (1, true) :: (2, true) :: (3, true) :: (5, true) :: (6, true) :: (4, false) :: (7, false) :: (8, true) :: (9, true) :: (10, true) :: (12, true) :: (11, false) :: (13, false) :: (14, true) :: (15, true) :: (16, true) :: (17, true) :: (18, true) :: (20, true) :: (24, true) :: (19, false) :: (21, false) :: (22, true) :: (23, true) :: (25, false) :: (26, true) :: (27, true) :: (28, true) :: (29, true) :: (30, true) :: (31, true) :: (35, true) :: (32, false) :: (33, true) :: (34, false) :: (36, false) :: (37, true) :: (38, true) :: (39, true) :: (40, true) :: (41, true) :: (42, true) :: (44, true) :: (47, true) :: (48, true) :: (43, false) :: (45, false) :: (46, true) :: (49, false) :: (50, true) :: (51, true) :: (52, true) :: []) (by kernel_rfl) (by kernel_rfl) texts_ord ((Below.refl _ _).drew) ?_
    have B0 : Hid (Below W7.heap.size W7 W7.drew) := (Below.refl _ _).drew
    generalize W7.drew = v0 at *
    repeat (refine ord_quiet rfl ?_; go_big_quiet_step (fail); refine wpQuiet_nil ?_)
    refine ord_call rfl (by rfl) 10 rfl (enters_of Tryd.func10 (by kernel_rfl) rfl) [.agg #[.int .i64 P.k, .int .i64 P.c, .int .i64 P.o, .int .i64 P.d, .int .i64 P.v.1, .int .i64 P.v.2.1, .string P.v.2.2, .slice as4 P.l.length cs4], .slice a6 3 c6] (by rfl) _ (HH1.out v0 B0.out) ?_
    rintro e v1 ⟨rfl, hb0⟩
    have B1 : Hid (Below W7.heap.size W7 v1) := B0.out.trans (hb0.mono B0.out.size)
    clear hb0
    refine ⟨_, rfl, Ex.of B1.out, ?_⟩
    simp only [Act.put, List.setIfInBounds_toArray, List.set_cons_zero, List.set_cons_succ]
    repeat (refine ord_quiet rfl ?_; go_big_quiet_step (fail); refine wpQuiet_nil ?_)
    refine ord_call rfl (by rfl) 10 rfl (enters_of Tryd.func10 (by kernel_rfl) rfl) [.agg #[.int .i64 Q.k, .int .i64 Q.c, .int .i64 Q.o, .int .i64 Q.d, .int .i64 Q.v.1, .int .i64 Q.v.2.1, .string Q.v.2.2, .slice as5 Q.l.length cs5], .slice a6 3 c6] (by rfl) _ (HH2.out v1 B1.out) ?_
    rintro e v2 ⟨rfl, hb1⟩
    have B2 : Hid (Below W7.heap.size W7 v2) := B1.out.trans (hb1.mono B1.out.size)
    clear hb1
    refine ⟨_, rfl, Ex.of B2.out, ?_⟩
    simp only [Act.put, List.setIfInBounds_toArray, List.set_cons_zero, List.set_cons_succ]
    repeat (refine ord_quiet rfl ?_; go_big_quiet_step (fail); refine wpQuiet_nil ?_)
    refine ord_skip rfl (by rfl) (Ex.of B2.out) ?_
    simp only [Act.put, List.setIfInBounds_toArray, List.set_cons_zero, List.set_cons_succ]
    repeat (refine ord_quiet rfl ?_; go_big_quiet_step (fail); refine wpQuiet_nil ?_)
    refine ord_skip rfl (by rfl) (Ex.of B2.out) ?_
    simp only [Act.put, List.setIfInBounds_toArray, List.set_cons_zero, List.set_cons_succ]
    repeat (refine ord_quiet rfl ?_; go_big_quiet_step (fail); refine wpQuiet_nil ?_)
    refine ord_call rfl (by rfl) 11 rfl (enters_of Tryd.func11 (by kernel_rfl) rfl) [.agg #[.int .i64 4, .int .i64 0, .int .i64 0, .int .i64 0, .int .i64 0, .int .i64 0, .string ⟨#[]⟩, .slice (some ⟨w6.heap.size, 0, none⟩) 2 2]] (by rfl) _ (HSB.out v2 B2.out) ?_
    rintro e v3 ⟨rfl, hb2⟩
    have B3 : Hid (Below W7.heap.size W7 v3) := B2.out.trans (hb2.mono B2.out.size)
    clear hb2
    refine ⟨_, rfl, Ex.of B3.out, ?_⟩
    simp only [Act.put, List.setIfInBounds_toArray, List.set_cons_zero, List.set_cons_succ]
    repeat (refine ord_quiet rfl ?_; go_big_quiet_step (fail); refine wpQuiet_nil ?_)
    refine ord_call rfl (by rfl) 11 rfl (enters_of Tryd.func11 (by kernel_rfl) rfl) [.agg #[.int .i64 P.k, .int .i64 P.c, .int .i64 P.o, .int .i64 P.d, .int .i64 P.v.1, .int .i64 P.v.2.1, .string P.v.2.2, .slice as4 P.l.length cs4]] (by rfl) _ (HS1.out v3 B3.out) ?_
    rintro e v4 ⟨rfl, hb3⟩
    have B4 : Hid (Below W7.heap.size W7 v4) := B3.out.trans (hb3.mono B3.out.size)
    clear hb3
    refine ⟨_, rfl, Ex.of B4.out, ?_⟩
    simp only [Act.put, List.setIfInBounds_toArray, List.set_cons_zero, List.set_cons_succ]
    repeat (refine ord_quiet rfl ?_; go_big_quiet_step (fail); refine wpQuiet_nil ?_)
    refine ord_call rfl (by rfl) 11 rfl (enters_of Tryd.func11 (by kernel_rfl) rfl) [.agg #[.int .i64 Q.k, .int .i64 Q.c, .int .i64 Q.o, .int .i64 Q.d, .int .i64 Q.v.1, .int .i64 Q.v.2.1, .string Q.v.2.2, .slice as5 Q.l.length cs5]] (by rfl) _ (HS2.out v4 B4.out) ?_
    rintro e v5 ⟨rfl, hb4⟩
    have B5 : Hid (Below W7.heap.size W7 v5) := B4.out.trans (hb4.mono B4.out.size)
    clear hb4
    refine ⟨_, rfl, Ex.of B5.out, ?_⟩
    simp only [Act.put, List.setIfInBounds_toArray, List.set_cons_zero, List.set_cons_succ]
    repeat (refine ord_quiet rfl ?_; go_big_quiet_step (fail); refine wpQuiet_nil ?_)
    refine ord_loud rfl ?_
    intro K hK
    go_simp
    refine hK _ _ (Ex.of (B5.out.trans (one_box.mono B5.out.size))) ?_
    clear hK
    repeat (refine ord_quiet rfl ?_; go_big_quiet_step (fail); refine wpQuiet_nil ?_)
    refine ord_call rfl (by rfl) 11 rfl (enters_of Tryd.func11 (by kernel_rfl) rfl) [.agg #[.int .i64 6, .int .i64 0, .int .i64 0, .int .i64 0, .int .i64 0, .int .i64 0, .string ⟨#[]⟩, .slice (some ⟨v5.heap.size, 0, none⟩) 1 1]] (by rfl) _ (HSN.out v5 B5.out) ?_
    rintro e v6 ⟨rfl, hb5⟩
    have B6 : Hid (Below W7.heap.size W7 v6) := B5.out.trans (hb5.mono B5.out.size)
    clear hb5
    refine ⟨_, rfl, Ex.of B6.out, ?_⟩
    simp only [Act.put, List.setIfInBounds_toArray, List.set_cons_zero, List.set_cons_succ]
    repeat (refine ord_quiet rfl ?_; go_big_quiet_step (fail); refine wpQuiet_nil ?_)
    refine ord_call rfl (by rfl) 11 rfl (enters_of Tryd.func11 (by kernel_rfl) rfl) [.agg #[.int .i64 P.k, .int .i64 P.c, .int .i64 P.o, .int .i64 P.d, .int .i64 P.v.1, .int .i64 P.v.2.1, .string P.v.2.2, .slice as4 P.l.length cs4]] (by rfl) _ (HS1.out v6 B6.out) ?_
    rintro e v7 ⟨rfl, hb6⟩
    have B7 : Hid (Below W7.heap.size W7 v7) := B6.out.trans (hb6.mono B6.out.size)
    clear hb6
    refine ⟨_, rfl, Ex.of B7.out, ?_⟩
    simp only [Act.put, List.setIfInBounds_toArray, List.set_cons_zero, List.set_cons_succ]
    repeat (refine ord_quiet rfl ?_; go_big_quiet_step (fail); refine wpQuiet_nil ?_)
    refine ord_call rfl (by rfl) 11 rfl (enters_of Tryd.func11 (by kernel_rfl) rfl) [.agg #[.int .i64 P.k, .int .i64 P.c, .int .i64 P.o, .int .i64 P.d, .int .i64 P.v.1, .int .i64 P.v.2.1, .string P.v.2.2, .slice as4 P.l.length cs4]] (by rfl) _ (HS1.out v7 B7.out) ?_
    rintro e v8 ⟨rfl, hb7⟩
    have B8 : Hid (Below W7.heap.size W7 v8) := B7.out.trans (hb7.mono B7.out.size)
    clear hb7
    refine ⟨_, rfl, Ex.of B8.out, ?_⟩
    simp only [Act.put, List.setIfInBounds_toArray, List.set_cons_zero, List.set_cons_succ]
    repeat (refine ord_quiet rfl ?_; go_big_quiet_step (fail); refine wpQuiet_nil ?_)
    refine ord_call rfl (by rfl) 11 rfl (enters_of Tryd.func11 (by kernel_rfl) rfl) [.agg #[.int .i64 Q.k, .int .i64 Q.c, .int .i64 Q.o, .int .i64 Q.d, .int .i64 Q.v.1, .int .i64 Q.v.2.1, .string Q.v.2.2, .slice as5 Q.l.length cs5]] (by rfl) _ (HS2.out v8 B8.out) ?_
    rintro e v9 ⟨rfl, hb8⟩
    have B9 : Hid (Below W7.heap.size W7 v9) := B8.out.trans (hb8.mono B8.out.size)
    clear hb8
    refine ⟨_, rfl, Ex.of B9.out, ?_⟩
    simp only [Act.put, List.setIfInBounds_toArray, List.set_cons_zero, List.set_cons_succ]
    repeat (refine ord_quiet rfl ?_; go_big_quiet_step (fail); refine wpQuiet_nil ?_)
    refine ord_call rfl (by rfl) 12 rfl (enters_of Tryd.func12 (by kernel_rfl) rfl) [.agg #[.int .i64 P.k, .int .i64 P.c, .int .i64 P.o, .int .i64 P.d, .int .i64 P.v.1, .int .i64 P.v.2.1, .string P.v.2.2, .slice as4 P.l.length cs4], .agg #[.int .i64 Q.k, .int .i64 Q.c, .int .i64 Q.o, .int .i64 Q.d, .int .i64 Q.v.1, .int .i64 Q.v.2.1, .string Q.v.2.2, .slice as5 Q.l.length cs5]] (by rfl) _ (HSS.out v9 B9.out) ?_
    rintro e v10 ⟨rfl, hb9⟩
    have B10 : Hid (Below W7.heap.size W7 v10) := B9.out.trans (hb9.mono B9.out.size)
    clear hb9
    refine ⟨_, rfl, Ex.of B10.out, ?_⟩
    simp only [Act.put, List.setIfInBounds_toArray, List.set_cons_zero, List.set_cons_succ]
    repeat (refine ord_quiet rfl ?_; go_big_quiet_step (fail); refine wpQuiet_nil ?_)
    refine ord_end ?_
    go_wp2_with fail
    go_ret
    exact ⟨rfl, HB7.out.trans (B10.out.mono HB7.out.size)⟩
  · have en : (T1 == T2) = false := beq_false_of_ne (HE.out.resolve_left (by decide))
    have en' : ¬ T1 = T2 := HE.out.resolve_left (by decide)
    clear HE
    go_wp2_with fail
    refine wp_region_ord_at (Ex W7) (regOf Tryd.f4.body 11) ((0, true) :: (1, true) :: (2, true) :: (3, true) :: (5, true) :: (6, true) :: (4, false) :: (7, false) :: (8, true) :: (9, true) :: (10, true) :: (12, true) :: (11, false) :: (13, false) :: (14, true) :: (15, true) :: (16, true) :: (17, true) :: (18, true) :: (20, true) :: (24, true) :: (19, false) :: (21, false) :: (22, true) :: (23, true) :: (25, false) :: (26, true) :: (27, true) :: (28, true) :: (29, true) :: (30, true) :: (31, true) :: (35, true) :: (32, false) :: (33, true) :: (34, false) :: (36, false) :: (37, true) :: (38, true) :: (39, true) :: (40, true) :: (41, true) :: (42, true) :: (44, true) :: (47, true) :: (48, true) :: (43, false) :: (45, false) :: (46, true) :: (49, false) :: (50, true) :: (51, true) :: (52, true) :: []) (by kernel_rfl) (by kernel_rfl) texts_ord ((Below.refl _ _).drew) ?_
    have B0 : Hid (Below W7.heap.size W7 W7.drew) := (Below.refl _ _).drew
    generalize W7.drew = v0 at *
    repeat (refine ord_quiet rfl ?_; go_big_quiet_step (fail); refine wpQuiet_nil ?_)
    refine ord_call rfl (by rfl) 10 rfl (enters_of Tryd.func10 (by kernel_rfl) rfl) [.agg #[.int .i64 P.k, .int .i64 P.c, .int .i64 P.o, .int .i64 P.d, .int .i64 P.v.1, .int .i64 P.v.2.1, .string P.v.2.2, .slice as4 P.l.length cs4], .slice a6 3 c6] (by rfl) _ (HH1.out v0 B0.out) ?_
    rintro e v1 ⟨rfl, hb0⟩
    have B1 : Hid (Below W7.heap.size W7 v1) := B0.out.trans (hb0.mono B0.out.size)
    clear hb0
    refine ⟨_, rfl, Ex.of B1.out, ?_⟩
    simp only [Act.put, List.setIfInBounds_toArray, List.set_cons_zero, List.set_cons_succ]
    repeat (refine ord_quiet rfl ?_; go_big_quiet_step (fail); refine wpQuiet_nil ?_)
    refine ord_call rfl (by rfl) 10 rfl (enters_of Tryd.func10 (by kernel_rfl) rfl) [.agg #[.int .i64 Q.k, .int .i64 Q.c, .int .i64 Q.o, .int .i64 Q.d, .int .i64 Q.v.1, .int .i64 Q.v.2.1, .string Q.v.2.2, .slice as5 Q.l.length cs5], .slice a6 3 c6] (by rfl) _ (HH2.out v1 B1.out) ?_
    rintro e v2 ⟨rfl, hb1⟩
    have B2 : Hid (Below W7.heap.size W7 v2) := B1.out.trans (hb1.mono B1.out.size)
    clear hb1
    refine ⟨_, rfl, Ex.of B2.out, ?_⟩
    simp only [Act.put, List.setIfInBounds_toArray, List.set_cons_zero, List.set_cons_succ]
    repeat (refine ord_quiet rfl ?_; go_big_quiet_step (fail); refine wpQuiet_nil ?_)
    refine ord_call rfl (by rfl) 11 rfl (enters_of Tryd.func11 (by kernel_rfl) rfl) [.agg #[.int .i64 P.k, .int .i64 P.c, .int .i64 P.o, .int .i64 P.d, .int .i64 P.v.1, .int .i64 P.v.2.1, .string P.v.2.2, .slice as4 P.l.length cs4]] (by rfl) _ (HS1.out v2 B2.out) ?_
    rintro e v3 ⟨rfl, hb2⟩
    have B3 : Hid (Below W7.heap.size W7 v3) := B2.out.trans (hb2.mono B2.out.size)
    clear hb2
    refine ⟨_, rfl, Ex.of B3.out, ?_⟩
    simp only [Act.put, List.setIfInBounds_toArray, List.set_cons_zero, List.set_cons_succ]
    repeat (refine ord_quiet rfl ?_; go_big_quiet_step (fail); refine wpQuiet_nil ?_)
    refine ord_call rfl (by rfl) 11 rfl (enters_of Tryd.func11 (by kernel_rfl) rfl) [.agg #[.int .i64 Q.k, .int .i64 Q.c, .int .i64 Q.o, .int .i64 Q.d, .int .i64 Q.v.1, .int .i64 Q.v.2.1, .string Q.v.2.2, .slice as5 Q.l.length cs5]] (by rfl) _ (HS2.out v3 B3.out) ?_
    rintro e v4 ⟨rfl, hb3⟩
    have B4 : Hid (Below W7.heap.size W7 v4) := B3.out.trans (hb3.mono B3.out.size)
    clear hb3
    refine ⟨_, rfl, Ex.of B4.out, ?_⟩
    simp only [Act.put, List.setIfInBounds_toArray, List.set_cons_zero, List.set_cons_succ]
    repeat (refine ord_quiet rfl ?_; go_big_quiet_step (fail); refine wpQuiet_nil ?_)
    refine ord_call rfl (by rfl) 11 rfl (enters_of Tryd.func11 (by kernel_rfl) rfl) [.agg #[.int .i64 4, .int .i64 0, .int .i64 0, .int .i64 0, .int .i64 0, .int .i64 0, .string ⟨#[]⟩, .slice (some ⟨w6.heap.size, 0, none⟩) 2 2]] (by rfl) _ (HSB.out v4 B4.out) ?_
    rintro e v5 ⟨rfl, hb4⟩
    have B5 : Hid (Below W7.heap.size W7 v5) := B4.out.trans (hb4.mono B4.out.size)
    clear hb4
    refine ⟨_, rfl, Ex.of B5.out, ?_⟩
    simp only [Act.put, List.setIfInBounds_toArray, List.set_cons_zero, List.set_cons_succ]
    repeat (refine ord_quiet rfl ?_; go_big_quiet_step (fail); refine wpQuiet_nil ?_)
    refine ord_call rfl (by rfl) 11 rfl (enters_of Tryd.func11 (by kernel_rfl) rfl) [.agg #[.int .i64 P.k, .int .i64 P.c, .int .i64 P.o, .int .i64 P.d, .int .i64 P.v.1, .int .i64 P.v.2.1, .string P.v.2.2, .slice as4 P.l.length cs4]] (by rfl) _ (HS1.out v5 B5.out) ?_
    rintro e v6 ⟨rfl, hb5⟩
    have B6 : Hid (Below W7.heap.size W7 v6) := B5.out.trans (hb5.mono B5.out.size)
    clear hb5
    refine ⟨_, rfl, Ex.of B6.out, ?_⟩
    simp only [Act.put, List.setIfInBounds_toArray, List.set_cons_zero, List.set_cons_succ]
    repeat (refine ord_quiet rfl ?_; go_big_quiet_step (fail); refine wpQuiet_nil ?_)
    refine ord_call rfl (by rfl) 11 rfl (enters_of Tryd.func11 (by kernel_rfl) rfl) [.agg #[.int .i64 Q.k, .int .i64 Q.c, .int .i64 Q.o, .int .i64 Q.d, .int .i64 Q.v.1, .int .i64 Q.v.2.1, .string Q.v.2.2, .slice as5 Q.l.length cs5]] (by rfl) _ (HS2.out v6 B6.out) ?_
    rintro e v7 ⟨rfl, hb6⟩
    have B7 : Hid (Below W7.heap.size W7 v7) := B6.out.trans (hb6.mono B6.out.size)
    clear hb6
    refine ⟨_, rfl, Ex.of B7.out, ?_⟩
    simp only [Act.put, List.setIfInBounds_toArray, List.set_cons_zero, List.set_cons_succ]
    repeat (refine ord_quiet rfl ?_; go_big_quiet_step (fail); refine wpQuiet_nil ?_)
    refine ord_loud rfl ?_
    intro K hK
    go_simp
    refine hK _ _ (Ex.of (B7.out.trans (one_box.mono B7.out.size))) ?_
    clear hK
    repeat (refine ord_quiet rfl ?_; go_big_quiet_step (fail); refine wpQuiet_nil ?_)
    refine ord_call rfl (by rfl) 11 rfl (enters_of Tryd.func11 (by kernel_rfl) rfl) [.agg #[.int .i64 6, .int .i64 0, .int .i64 0, .int .i64 0, .int .i64 0, .int .i64 0, .string ⟨#[]⟩, .slice (some ⟨v7.heap.size, 0, none⟩) 1 1]] (by rfl) _ (HSN.out v7 B7.out) ?_
    rintro e v8 ⟨rfl, hb7⟩
    have B8 : Hid (Below W7.heap.size W7 v8) := B7.out.trans (hb7.mono B7.out.size)
    clear hb7
    refine ⟨_, rfl, Ex.of B8.out, ?_⟩
    simp only [Act.put, List.setIfInBounds_toArray, List.set_cons_zero, List.set_cons_succ]
    repeat (refine ord_quiet rfl ?_; go_big_quiet_step (fail); refine wpQuiet_nil ?_)
    refine ord_call rfl (by rfl) 11 rfl (enters_of Tryd.func11 (by kernel_rfl) rfl) [.agg #[.int .i64 P.k, .int .i64 P.c, .int .i64 P.o, .int .i64 P.d, .int .i64 P.v.1, .int .i64 P.v.2.1, .string P.v.2.2, .slice as4 P.l.length cs4]] (by rfl) _ (HS1.out v8 B8.out) ?_
    rintro e v9 ⟨rfl, hb8⟩
    have B9 : Hid (Below W7.heap.size W7 v9) := B8.out.trans (hb8.mono B8.out.size)
    clear hb8
    refine ⟨_, rfl, Ex.of B9.out, ?_⟩
    simp only [Act.put, List.setIfInBounds_toArray, List.set_cons_zero, List.set_cons_succ]
    repeat (refine ord_quiet rfl ?_; go_big_quiet_step (fail); refine wpQuiet_nil ?_)
    refine ord_call rfl (by rfl) 11 rfl (enters_of Tryd.func11 (by kernel_rfl) rfl) [.agg #[.int .i64 P.k, .int .i64 P.c, .int .i64 P.o, .int .i64 P.d, .int .i64 P.v.1, .int .i64 P.v.2.1, .string P.v.2.2, .slice as4 P.l.length cs4]] (by rfl) _ (HS1.out v9 B9.out) ?_
    rintro e v10 ⟨rfl, hb9⟩
    have B10 : Hid (Below W7.heap.size W7 v10) := B9.out.trans (hb9.mono B9.out.size)
    clear hb9
    refine ⟨_, rfl, Ex.of B10.out, ?_⟩
    simp only [Act.put, List.setIfInBounds_toArray, List.set_cons_zero, List.set_cons_succ]
    repeat (refine ord_quiet rfl ?_; go_big_quiet_step (fail); refine wpQuiet_nil ?_)
    refine ord_call rfl (by rfl) 11 rfl (enters_of Tryd.func11 (by kernel_rfl) rfl) [.agg #[.int .i64 Q.k, .int .i64 Q.c, .int .i64 Q.o, .int .i64 Q.d, .int .i64 Q.v.1, .int .i64 Q.v.2.1, .string Q.v.2.2, .slice as5 Q.l.length cs5]] (by rfl) _ (HS2.out v10 B10.out) ?_
    rintro e v11 ⟨rfl, hb10⟩
    have B11 : Hid (Below W7.heap.size W7 v11) := B10.out.trans (hb10.mono B10.out.size)
    clear hb10
    refine ⟨_, rfl, Ex.of B11.out, ?_⟩
    simp only [Act.put, List.setIfInBounds_toArray, List.set_cons_zero, List.set_cons_succ]
    repeat (refine ord_quiet rfl ?_; go_big_quiet_step (fail); refine wpQuiet_nil ?_)
    refine ord_call rfl (by rfl) 12 rfl (enters_of Tryd.func12 (by kernel_rfl) rfl) [.agg #[.int .i64 P.k, .int .i64 P.c, .int .i64 P.o, .int .i64 P.d, .int .i64 P.v.1, .int .i64 P.v.2.1, .string P.v.2.2, .slice as4 P.l.length cs4], .agg #[.int .i64 Q.k, .int .i64 Q.c, .int .i64 Q.o, .int .i64 Q.d, .int .i64 Q.v.1, .int .i64 Q.v.2.1, .string Q.v.2.2, .slice as5 Q.l.length cs5]] (by rfl) _ (HSS.out v11 B11.out) ?_
    rintro e v12 ⟨rfl, hb11⟩
    have B12 : Hid (Below W7.heap.size W7 v12) := B11.out.trans (hb11.mono B11.out.size)
    clear hb11
    refine ⟨_, rfl, Ex.of B12.out, ?_⟩
    simp only [Act.put, List.setIfInBounds_toArray, List.set_cons_zero, List.set_cons_succ]
    repeat (refine ord_quiet rfl ?_; go_big_quiet_step (fail); refine wpQuiet_nil ?_)
    refine ord_end ?_
    go_wp2_with fail
    go_ret
    exact ⟨rfl, HB7.out.trans (B12.out.mono HB7.out.size)⟩
  · have en : (T1 == T2) = false := beq_false_of_ne (HE.out.resolve_left (by decide))
    have en' : ¬ T1 = T2 := HE.out.resolve_left (by decide)
    clear HE
    go_wp2_with fail
    refine wp_region_ord_at (Ex W7) (regOf Tryd.f4.body 11) ((0, true) :: (1, true) :: (2, true) :: (3, true) :: (5, true) :: (6, true) :: (4, false) :: (7, false) :: (8, true) :: (9, true) :: (10, true) :: (12, true) :: (11, false) :: (13, false) :: (14, true) :: (15, true) :: (16, true) :: (17, true) :: (18, true) :: (20, true) :: (24, true) :: (19, false) :: (21, false) :: (22, true) :: (23, true) :: (25, false) :: (26, true) :: (27, true) :: (28, true) :: (29, true) :: (30, true) :: (31, true) :: (35, true) :: (32, false) :: (33, true) :: (34, false) :: (36, false) :: (37, true) :: (38, true) :: (39, true) :: (40, true) :: (41, true) :: (42, true) :: (44, true) :: (47, true) :: (48, true) :: (43, false) :: (45, false) :: (46, true) :: (49, false) :: (50, true) :: (51, true) :: (52, true) :: []) (by kernel_rfl) (by kernel_rfl) texts_ord ((Below.refl _ _).drew) ?_
    have B0 : Hid (Below W7.heap.size W7 W7.drew) := (Below.refl _ _).drew
    generalize W7.drew = v0 at *
    repeat (refine ord_quiet rfl ?_; go_big_quiet_step (fail); refine wpQuiet_nil ?_)
    refine ord_call rfl (by rfl) 10 rfl (enters_of Tryd.func10 (by kernel_rfl) rfl) [.agg #[.int .i64 P.k, .int .i64 P.c, .int .i64 P.o, .int .i64 P.d, .int .i64 P.v.1, .int .i64 P.v.2.1, .string P.v.2.2, .slice as4 P.l.length cs4], .slice a6 3 c6] (by rfl) _ (HH1.out v0 B0.out) ?_
    rintro e v1 ⟨rfl, hb0⟩
    have B1 : Hid (Below W7.heap.size W7 v1) := B0.out.trans (hb0.mono B0.out.size)
    clear hb0
    refine ⟨_, rfl, Ex.of B1.out, ?_⟩
    simp only [Act.put, List.setIfInBounds_toArray, List.set_cons_zero, List.set_cons_succ]
    repeat (refine ord_quiet rfl ?_; go_big_quiet_step (fail); refine wpQuiet_nil ?_)
    refine ord_call rfl (by rfl) 10 rfl (enters_of Tryd.func10 (by kernel_rfl) rfl) [.agg #[.int .i64 Q.k, .int .i64 Q.c, .int .i64 Q.o, .int .i64 Q.d, .int .i64 Q.v.1, .int .i64 Q.v.2.1, .string Q.v.2.2, .slice as5 Q.l.length cs5], .slice a6 3 c6] (by rfl) _ (HH2.out v1 B1.out) ?_
    rintro e v2 ⟨rfl, hb1⟩
    have B2 : Hid (Below W7.heap.size W7 v2) := B1.out.trans (hb1.mono B1.out.size)
    clear hb1
    refine ⟨_, rfl, Ex.of B2.out, ?_⟩
    simp only [Act.put, List.setIfInBounds_toArray, List.set_cons_zero, List.set_cons_succ]
    repeat (refine ord_quiet rfl ?_; go_big_quiet_step (fail); refine wpQuiet_nil ?_)
    refine ord_call rfl (by rfl) 11 rfl (enters_of Tryd.func11 (by kernel_rfl) rfl) [.agg #[.int .i64 P.k, .int .i64 P.c, .int .i64 P.o, .int .i64 P.d, .int .i64 P.v.1, .int .i64 P.v.2.1, .string P.v.2.2, .slice as4 P.l.length cs4]] (by rfl) _ (HS1.out v2 B2.out) ?_
    rintro e v3 ⟨rfl, hb2⟩
    have B3 : Hid (Below W7.heap.size W7 v3) := B2.out.trans (hb2.mono B2.out.size)
    clear hb2
    refine ⟨_, rfl, Ex.of B3.out, ?_⟩
    simp only [Act.put, List.setIfInBounds_toArray, List.set_cons_zero, List.set_cons_succ]
    repeat (refine ord_quiet rfl ?_; go_big_quiet_step (fail); refine wpQuiet_nil ?_)
    refine ord_call rfl (by rfl) 11 rfl (enters_of Tryd.func11 (by kernel_rfl) rfl) [.agg #[.int .i64 Q.k, .int .i64 Q.c, .int .i64 Q.o, .int .i64 Q.d, .int .i64 Q.v.1, .int .i64 Q.v.2.1, .string Q.v.2.2, .slice as5 Q.l.length cs5]] (by rfl) _ (HS2.out v3 B3.out) ?_
    rintro e v4 ⟨rfl, hb3⟩
    have B4 : Hid (Below W7.heap.size W7 v4) := B3.out.trans (hb3.mono B3.out.size)
    clear hb3
    refine ⟨_, rfl, Ex.of B4.out, ?_⟩
    simp only [Act.put, List.setIfInBounds_toArray, List.set_cons_zero, List.set_cons_succ]
    repeat (refine ord_quiet rfl ?_; go_big_quiet_step (fail); refine wpQuiet_nil ?_)
    refine ord_call rfl (by rfl) 11 rfl (enters_of Tryd.func11 (by kernel_rfl) rfl) [.agg #[.int .i64 4, .int .i64 0, .int .i64 0, .int .i64 0, .int .i64 0, .int .i64 0, .string ⟨#[]⟩, .slice (some ⟨w6.heap.size, 0, none⟩) 2 2]] (by rfl) _ (HSB.out v4 B4.out) ?_
    rintro e v5 ⟨rfl, hb4⟩
    have B5 : Hid (Below W7.heap.size W7 v5) := B4.out.trans (hb4.mono B4.out.size)
    clear hb4
    refine ⟨_, rfl, Ex.of B5.out, ?_⟩
    simp only [Act.put, List.setIfInBounds_toArray, List.set_cons_zero, List.set_cons_succ]
    repeat (refine ord_quiet rfl ?_; go_big_quiet_step (fail); refine wpQuiet_nil ?_)
    refine ord_call rfl (by rfl) 11 rfl (enters_of Tryd.func11 (by kernel_rfl) rfl) [.agg #[.int .i64 P.k, .int .i64 P.c, .int .i64 P.o, .int .i64 P.d, .int .i64 P.v.1, .int .i64 P.v.2.1, .string P.v.2.2, .slice as4 P.l.length cs4]] (by rfl) _ (HS1.out v5 B5.out) ?_
    rintro e v6 ⟨rfl, hb5⟩
    have B6 : Hid (Below W7.heap.size W7 v6) := B5.out.trans (hb5.mono B5.out.size)
    clear hb5
    refine ⟨_, rfl, Ex.of B6.out, ?_⟩
    simp only [Act.put, List.setIfInBounds_toArray, List.set_cons_zero, List.set_cons_succ]
    repeat (refine ord_quiet rfl ?_; go_big_quiet_step (fail); refine wpQuiet_nil ?_)
    refine ord_call rfl (by rfl) 11 rfl (enters_of Tryd.func11 (by kernel_rfl) rfl) [.agg #[.int .i64 Q.k, .int .i64 Q.c, .int .i64 Q.o, .int .i64 Q.d, .int .i64 Q.v.1, .int .i64 Q.v.2.1, .string Q.v.2.2, .slice as5 Q.l.length cs5]] (by rfl) _ (HS2.out v6 B6.out) ?_
    rintro e v7 ⟨rfl, hb6⟩
    have B7 : Hid (Below W7.heap.size W7 v7) := B6.out.trans (hb6.mono B6.out.size)
    clear hb6
    refine ⟨_, rfl, Ex.of B7.out, ?_⟩
    simp only [Act.put, List.setIfInBounds_toArray, List.set_cons_zero, List.set_cons_succ]
    repeat (refine ord_quiet rfl ?_; go_big_quiet_step (fail); refine wpQuiet_nil ?_)
    refine ord_loud rfl ?_
    intro K hK
    go_simp
    refine hK _ _ (Ex.of (B7.out.trans (one_box.mono B7.out.size))) ?_
    clear hK
    repeat (refine ord_quiet rfl ?_; go_big_quiet_step (fail); refine wpQuiet_nil ?_)
    refine ord_call rfl (by rfl) 11 rfl (enters_of Tryd.func11 (by kernel_rfl) rfl) [.agg #[.int .i64 6, .int .i64 0, .int .i64 0, .int .i64 0, .int .i64 0, .int .i64 0, .string ⟨#[]⟩, .slice (some ⟨v7.heap.size, 0, none⟩) 1 1]] (by rfl) _ (HSN.out v7 B7.out) ?_
    rintro e v8 ⟨rfl, hb7⟩
    have B8 : Hid (Below W7.heap.size W7 v8) := B7.out.trans (hb7.mono B7.out.size)
    clear hb7
    refine ⟨_, rfl, Ex.of B8.out, ?_⟩
    simp only [Act.put, List.setIfInBounds_toArray, List.set_cons_zero, List.set_cons_succ]
    repeat (refine ord_quiet rfl ?_; go_big_quiet_step (fail); refine wpQuiet_nil ?_)
    refine ord_call rfl (by rfl) 11 rfl (enters_of Tryd.func11 (by kernel_rfl) rfl) [.agg #[.int .i64 P.k, .int .i64 P.c, .int .i64 P.o, .int .i64 P.d, .int .i64 P.v.1, .int .i64 P.v.2.1, .string P.v.2.2, .slice as4 P.l.length cs4]] (by rfl) _ (HS1.out v8 B8.out) ?_
    rintro e v9 ⟨rfl, hb8⟩
    have B9 : Hid (Below W7.heap.size W7 v9) := B8.out.trans (hb8.mono B8.out.size)
    clear hb8
    refine ⟨_, rfl, Ex.of B9.out, ?_⟩
    simp only [Act.put, List.setIfInBounds_toArray, List.set_cons_zero, List.set_cons_succ]
    repeat (refine ord_quiet rfl ?_; go_big_quiet_step (fail); refine wpQuiet_nil ?_)
    refine ord_call rfl (by rfl) 11 rfl (enters_of Tryd.func11 (by kernel_rfl) rfl) [.agg #[.int .i64 P.k, .int .i64 P.c, .int .i64 P.o, .int .i64 P.d, .int .i64 P.v.1, .int .i64 P.v.2.1, .string P.v.2.2, .slice as4 P.l.length cs4]] (by rfl) _ (HS1.out v9 B9.out) ?_
    rintro e v10 ⟨rfl, hb9⟩
    have B10 : Hid (Below W7.heap.size W7 v10) := B9.out.trans (hb9.mono B9.out.size)
    clear hb9
    refine ⟨_, rfl, Ex.of B10.out, ?_⟩
    simp only [Act.put, List.setIfInBounds_toArray, List.set_cons_zero, List.set_cons_succ]
    repeat (refine ord_quiet rfl ?_; go_big_quiet_step (fail); refine wpQuiet_nil ?_)
    refine ord_call rfl (by rfl) 11 rfl (enters_of Tryd.func11 (by kernel_rfl) rfl) [.agg #[.int .i64 Q.k, .int .i64 Q.c, .int .i64 Q.o, .int .i64 Q.d, .int .i64 Q.v.1, .int .i64 Q.v.2.1, .string Q.v.2.2, .slice as5 Q.l.length cs5]] (by rfl) _ (HS2.out v10 B10.out) ?_
    rintro e v11 ⟨rfl, hb10⟩
    have B11 : Hid (Below W7.heap.size W7 v11) := B10.out.trans (hb10.mono B10.out.size)
    clear hb10
    refine ⟨_, rfl, Ex.of B11.out, ?_⟩
    simp only [Act.put, List.setIfInBounds_toArray, List.set_cons_zero, List.set_cons_succ]
    repeat (refine ord_quiet rfl ?_; go_big_quiet_step (fail); refine wpQuiet_nil ?_)
    refine ord_call rfl (by rfl) 12 rfl (enters_of Tryd.func12 (by kernel_rfl) rfl) [.agg #[.int .i64 P.k, .int .i64 P.c, .int .i64 P.o, .int .i64 P.d, .int .i64 P.v.1, .int .i64 P.v.2.1, .string P.v.2.2, .slice as4 P.l.length cs4], .agg #[.int .i64 Q.k, .int .i64 Q.c, .int .i64 Q.o, .int .i64 Q.d, .int .i64 Q.v.1, .int .i64 Q.v.2.1, .string Q.v.2.2, .slice as5 Q.l.length cs5]] (by rfl) _ (HSS.out v11 B11.out) ?_
    rintro e v12 ⟨rfl, hb11⟩
    have B12 : Hid (Below W7.heap.size W7 v12) := B11.out.trans (hb11.mono B11.out.size)
    clear hb11
    refine ⟨_, rfl, Ex.of B12.out, ?_⟩
    simp only [Act.put, List.setIfInBounds_toArray, List.set_cons_zero, List.set_cons_succ]
    repeat (refine ord_quiet rfl ?_; go_big_quiet_step (fail); refine wpQuiet_nil ?_)
    refine ord_end ?_
    go_wp2_with fail
    go_ret
    exact ⟨rfl, HB7.out.trans (B12.out.mono HB7.out.size)⟩
  · clear HE
    go_wp2_with fail
    refine wp_region_ord_at (Ex W7) (regOf Tryd.f4.body 11) ((0, true) :: (1, true) :: (2, true) :: (3, true) :: (5, true) :: (6, true) :: (4, false) :: (7, false) :: (8, true) :: (9, true) :: (10, true) :: (12, true) :: (11, false) :: (13, false) :: (14, true) :: (15, true) :: (16, true) :: (17, true) :: (18, true) :: (20, true) :: (24, true) :: (19, false) :: (21, false) :: (22, true) :: (23, true) :: (25, false) :: (26, true) :: (27, true) :: (28, true) :: (29, true) :: (30, true) :: (31, true) :: (35, true) :: (32, false) :: (33, true) :: (34, false) :: (36, false) :: (37, true) :: (38, true) :: (39, true) :: (40, true) :: (41, true) :: (42, true) :: (44, true) :: (47, true) :: (48, true) :: (43, false) :: (45, false) :: (46, true) :: (49, false) :: (50, true) :: (51, true) :: (52, true) :: []) (by kernel_rfl) (by kernel_rfl) texts_ord ((Below.refl _ _).drew) ?_
    have B0 : Hid (Below W7.heap.size W7 W7.drew) := (Below.refl _ _).drew
    generalize W7.drew = v0 at *
    repeat (refine ord_quiet rfl ?_; go_big_quiet_step (fail); refine wpQuiet_nil ?_)
    refine ord_call rfl (by rfl) 10 rfl (enters_of Tryd.func10 (by kernel_rfl) rfl) [.agg #[.int .i64 P.k, .int .i64 P.c, .int .i64 P.o, .int .i64 P.d, .int .i64 P.v.1, .int .i64 P.v.2.1, .string P.v.2.2, .slice as4 P.l.length cs4], .slice a6 3 c6] (by rfl) _ (HH1.out v0 B0.out) ?_
    rintro e v1 ⟨rfl, hb0⟩
    have B1 : Hid (Below W7.heap.size W7 v1) := B0.out.trans (hb0.mono B0.out.size)
    clear hb0
    refine ⟨_, rfl, Ex.of B1.out, ?_⟩
    simp only [Act.put, List.setIfInBounds_toArray, List.set_cons_zero, List.set_cons_succ]
    repeat (refine ord_quiet rfl ?_; go_big_quiet_step (fail); refine wpQuiet_nil ?_)
    refine ord_call rfl (by rfl) 10 rfl (enters_of Tryd.func10 (by kernel_rfl) rfl) [.agg #[.int .i64 Q.k, .int .i64 Q.c, .int .i64 Q.o, .int .i64 Q.d, .int .i64 Q.v.1, .int .i64 Q.v.2.1, .string Q.v.2.2, .slice as5 Q.l.length cs5], .slice a6 3 c6] (by rfl) _ (HH2.out v1 B1.out) ?_
    rintro e v2 ⟨rfl, hb1⟩
    have B2 : Hid (Below W7.heap.size W7 v2) := B1.out.trans (hb1.mono B1.out.size)
    clear hb1
    refine ⟨_, rfl, Ex.of B2.out, ?_⟩
    simp only [Act.put, List.setIfInBounds_toArray, List.set_cons_zero, List.set_cons_succ]
    repeat (refine ord_quiet rfl ?_; go_big_quiet_step (fail); refine wpQuiet_nil ?_)
    refine ord_skip rfl (by rfl) (Ex.of B2.out) ?_
    simp only [Act.put, List.setIfInBounds_toArray, List.set_cons_zero, List.set_cons_succ]
    repeat (refine ord_quiet rfl ?_; go_big_quiet_step (fail); refine wpQuiet_nil ?_)
    refine ord_skip rfl (by rfl) (Ex.of B2.out) ?_
    simp only [Act.put, List.setIfInBounds_toArray, List.set_cons_zero, List.set_cons_succ]
    repeat (refine ord_quiet rfl ?_; go_big_quiet_step (fail); refine wpQuiet_nil ?_)
    refine ord_call rfl (by rfl) 11 rfl (enters_of Tryd.func11 (by kernel_rfl) rfl) [.agg #[.int .i64 4, .int .i64 0, .int .i64 0, .int .i64 0, .int .i64 0, .int .i64 0, .string ⟨#[]⟩, .slice (some ⟨w6.heap.size, 0, none⟩) 2 2]] (by rfl) _ (HSB.out v2 B2.out) ?_
    rintro e v3 ⟨rfl, hb2⟩
    have B3 : Hid (Below W7.heap.size W7 v3) := B2.out.trans (hb2.mono B2.out.size)
    clear hb2
    refine ⟨_, rfl, Ex.of B3.out, ?_⟩
    simp only [Act.put, List.setIfInBounds_toArray, List.set_cons_zero, List.set_cons_succ]
    repeat (refine ord_quiet rfl ?_; go_big_quiet_step (fail); refine wpQuiet_nil ?_)
    refine ord_call rfl (by rfl) 11 rfl (enters_of Tryd.func11 (by kernel_rfl) rfl) [.agg #[.int .i64 P.k, .int .i64 P.c, .int .i64 P.o, .int .i64 P.d, .int .i64 P.v.1, .int .i64 P.v.2.1, .string P.v.2.2, .slice as4 P.l.length cs4]] (by rfl) _ (HS1.out v3 B3.out) ?_
    rintro e v4 ⟨rfl, hb3⟩
    have B4 : Hid (Below W7.heap.size W7 v4) := B3.out.trans (hb3.mono B3.out.size)
    clear hb3
    refine ⟨_, rfl, Ex.of B4.out, ?_⟩
    simp only [Act.put, List.setIfInBounds_toArray, List.set_cons_zero, List.set_cons_succ]
    repeat (refine ord_quiet rfl ?_; go_big_quiet_step (fail); refine wpQuiet_nil ?_)
    refine ord_call rfl (by rfl) 11 rfl (enters_of Tryd.func11 (by kernel_rfl) rfl) [.agg #[.int .i64 Q.k, .int .i64 Q.c, .int .i64 Q.o, .int .i64 Q.d, .int .i64 Q.v.1, .int .i64 Q.v.2.1, .string Q.v.2.2, .slice as5 Q.l.length cs5]] (by rfl) _ (HS2.out v4 B4.out) ?_
    rintro e v5 ⟨rfl, hb4⟩
    have B5 : Hid (Below W7.heap.size W7 v5) := B4.out.trans (hb4.mono B4.out.size)
    clear hb4
    refine ⟨_, rfl, Ex.of B5.out, ?_⟩
    simp only [Act.put, List.setIfInBounds_toArray, List.set_cons_zero, List.set_cons_succ]
    repeat (refine ord_quiet rfl ?_; go_big_quiet_step (fail); refine wpQuiet_nil ?_)
    refine ord_loud rfl ?_
    intro K hK
    go_simp
    refine hK _ _ (Ex.of (B5.out.trans (one_box.mono B5.out.size))) ?_
    clear hK
    repeat (refine ord_quiet rfl ?_; go_big_quiet_step (fail); refine wpQuiet_nil ?_)
    refine ord_call rfl (by rfl) 11 rfl (enters_of Tryd.func11 (by kernel_rfl) rfl) [.agg #[.int .i64 6, .int .i64 0, .int .i64 0, .int .i64 0, .int .i64 0, .int .i64 0, .string ⟨#[]⟩, .slice (some ⟨v5.heap.size, 0, none⟩) 1 1]] (by rfl) _ (HSN.out v5 B5.out) ?_
    rintro e v6 ⟨rfl, hb5⟩
    have B6 : Hid (Below W7.heap.size W7 v6) := B5.out.trans (hb5.mono B5.out.size)
    clear hb5
    refine ⟨_, rfl, Ex.of B6.out, ?_⟩
    simp only [Act.put, List.setIfInBounds_toArray, List.set_cons_zero, List.set_cons_succ]
    repeat (refine ord_quiet rfl ?_; go_big_quiet_step (fail); refine wpQuiet_nil ?_)
    refine ord_call rfl (by rfl) 11 rfl (enters_of Tryd.func11 (by kernel_rfl) rfl) [.agg #[.int .i64 P.k, .int .i64 P.c, .int .i64 P.o, .int .i64 P.d, .int .i64 P.v.1, .int .i64 P.v.2.1, .string P.v.2.2, .slice as4 P.l.length cs4]] (by rfl) _ (HS1.out v6 B6.out) ?_
    rintro e v7 ⟨rfl, hb6⟩
    have B7 : Hid (Below W7.heap.size W7 v7) := B6.out.trans (hb6.mono B6.out.size)
    clear hb6
    refine ⟨_, rfl, Ex.of B7.out, ?_⟩
    simp only [Act.put, List.setIfInBounds_toArray, List.set_cons_zero, List.set_cons_succ]
    repeat (refine ord_quiet rfl ?_; go_big_quiet_step (fail); refine wpQuiet_nil ?_)
    refine ord_call rfl (by rfl) 11 rfl (enters_of Tryd.func11 (by kernel_rfl) rfl) [.agg #[.int .i64 P.k, .int .i64 P.c, .int .i64 P.o, .int .i64 P.d, .int .i64 P.v.1, .int .i64 P.v.2.1, .string P.v.2.2, .slice as4 P.l.length cs4]] (by rfl) _ (HS1.out v7 B7.out) ?_
    rintro e v8 ⟨rfl, hb7⟩
    have B8 : Hid (Below W7.heap.size W7 v8) := B7.out.trans (hb7.mono B7.out.size)
    clear hb7
    refine ⟨_, rfl, Ex.of B8.out, ?_⟩
    simp only [Act.put, List.setIfInBounds_toArray, List.set_cons_zero, List.set_cons_succ]
    repeat (refine ord_quiet rfl ?_; go_big_quiet_step (fail); refine wpQuiet_nil ?_)
    refine ord_call rfl (by rfl) 11 rfl (enters_of Tryd.func11 (by kernel_rfl) rfl) [.agg #[.int .i64 Q.k, .int .i64 Q.c, .int .i64 Q.o, .int .i64 Q.d, .int .i64 Q.v.1, .int .i64 Q.v.2.1, .string Q.v.2.2, .slice as5 Q.l.length cs5]] (by rfl) _ (HS2.out v8 B8.out) ?_
    rintro e v9 ⟨rfl, hb8⟩
    have B9 : Hid (Below W7.heap.size W7 v9) := B8.out.trans (hb8.mono B8.out.size)
    clear hb8
    refine ⟨_, rfl, Ex.of B9.out, ?_⟩
    simp only [Act.put, List.setIfInBounds_toArray, List.set_cons_zero, List.set_cons_succ]
    repeat (refine ord_quiet rfl ?_; go_big_quiet_step (fail); refine wpQuiet_nil ?_)
    refine ord_call rfl (by rfl) 12 rfl (enters_of Tryd.func12 (by kernel_rfl) rfl) [.agg #[.int .i64 P.k, .int .i64 P.c, .int .i64 P.o, .int .i64 P.d, .int .i64 P.v.1, .int .i64 P.v.2.1, .string P.v.2.2, .slice as4 P.l.length cs4], .agg #[.int .i64 Q.k, .int .i64 Q.c, .int .i64 Q.o, .int .i64 Q.d, .int .i64 Q.v.1, .int .i64 Q.v.2.1, .string Q.v.2.2, .slice as5 Q.l.length cs5]] (by rfl) _ (HSS.out v9 B9.out) ?_
    rintro e v10 ⟨rfl, hb9⟩
    have B10 : Hid (Below W7.heap.size W7 v10) := B9.out.trans (hb9.mono B9.out.size)
    clear hb9
    refine ⟨_, rfl, Ex.of B10.out, ?_⟩
    simp only [Act.put, List.setIfInBounds_toArray, List.set_cons_zero, List.set_cons_succ]
    repeat (refine ord_quiet rfl ?_; go_big_quiet_step (fail); refine wpQuiet_nil ?_)
    refine ord_end ?_
    go_wp2_with fail
    go_ret
    exact ⟨rfl, HB7.out.trans (B10.out.mono HB7.out.size)⟩
theorem predTexts_walk (a : Option Addr) (len cap : Nat) (zs : List Int) (a' : Option Addr) (len' cap' : Nat) (zs' : List Int) (a'' : Option Addr) (len'' cap'' : Nat) (zs'' : List Int) (w : World) (hr : Ready w) (ha : IsRow .i64 w a len cap zs) (ha' : IsRow .i64 w a' len' cap' zs') (ha'' : IsRow .i64 w a'' len'' cap'' zs'') :
    Calls Tryd.prog 4 #[.slice a len cap, .slice a' len' cap', .slice a'' len'' cap''] w fun e w' => e = .returned (.bool true) ∧ Below w.heap.size w w' := by
  by_cases h0 : 80 < (len : Int)
  · exact pdtexts_long0 a a' a'' len cap len' cap' len'' cap'' w h0
  by_cases h1 : 80 < (len' : Int)
  · exact pdtexts_long1 a a' a'' len cap len' cap' len'' cap'' w h0 h1
  by_cases h2 : 40 < (len'' : Int)
  · exact pdtexts_long2 a a' a'' len cap len' cap' len'' cap'' w h0 h1 h2
  · exact pdtexts_main a a' a'' len cap len' cap' len'' cap'' zs zs' zs'' h0 h1 h2 w hr ha ha' ha''
end Go.Proofs.YtiphnbpkliglcaaDoor
