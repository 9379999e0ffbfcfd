/- What zset.combine, Add, Sub, Neg answer. -/
import Derived.Test.YtmpochhcokmaiaaDoorZPut
import Derived.Test.YtmpochhcokmaiaaDoorZDrop
import Derived.Test.YtmpochhcokmaiaaDoorZMerge
namespace Go.Proofs.YtmpochhcokmaiaaDoor
open Go.RowKit Go.Sort
set_option maxRecDepth 100000

/-- How a weight of the other counts: added, or taken away. -/
def Takes (g : Nat) (f : Int → Int) : Prop := (∀ k, inI k = true → -9223372036854775808 ≤ f k ∧ f k ≤ 9223372036854775808) ∧ ∀ (B : Nat) (n k : Int) (w : World), (-604462909807314587353088 ≤ n ∧ n ≤ 604462909807314587353088) → inI k = true → TotAt B n w →
  Calls Tryd.prog g #[.pointer (some ⟨B, 0, none⟩), .int .i64 k] w fun e w' => e = .returned (.tuple #[]) ∧ TotAt B (n + f k) w' ∧ But B w w'
theorem takes_add : Takes 37 id := ⟨fun k h => by have := inI_iff.1 h; simp; omega, fun B n k w hn hk h => totAdd B n k hn (inI_iff.1 hk) w h⟩
theorem takes_sub : Takes 38 (fun k => -k) := ⟨fun k h => by have := inI_iff.1 h; show _ ≤ -k ∧ -k ≤ _; omega, fun B n k w hn hk h => by
  have := totSub B n k hn (inI_iff.1 hk) w h
  rwa [Int.sub_eq_add_neg] at this⟩
/-- How far combine has come. -/
def CombTo (f : Int → Int) (full : List Ent) (N : Nat) (w : World) (va vb vz : Value) (la mb : List Ent) (wr : World) : Prop :=
  EntsIs w va la ∧ EntsIs w vb mb ∧ EOk la ∧ EOk mb ∧ ∃ us p, ZOwn w.heap.size us (nzZ p) vz wr ∧ Below w.heap.size w wr ∧ full = p ++ mrg f la mb ∧ fitsZ p = true ∧ us.length + la.length + mb.length ≤ N
theorem CombTo.step {f : Int → Int} {full p la mb : List Ent} {N : Nat} {w W w4 : World} {va vb v : Value} {r : List Val} {n : Int} {us : List VEnt} (h1 : EntsIs w va la ∧ EOk la) (h2 : EntsIs w vb mb ∧ EOk mb) (hf : full = p ++ (r, n) :: mrg f la mb) (hp : fitsZ p = true) (hn : inI n = true) (hB : Below w.heap.size w W)
    (hP : PutAt w.heap.size (nzZ p) r n us.length W v w4) (hN : us.length + 1 + la.length + mb.length ≤ N) : CombTo f full N w va vb v la mb w4 := by
  obtain ⟨⟨us', g1, g2⟩, g3⟩ := hP
  refine ⟨h1.1, h2.1, h1.2, h2.2, us', p ++ [(r, n)], ?_, hB.trans g3, ?_, ?_, by omega⟩
  · rw [nzZ_append]; exact g2
  · rw [hf]; simp
  · rw [fitsZ_append, hp]; simp [fitsZ, hn]
theorem over_full {full p rest : List Ent} {r : List Val} {n : Int} (hf : full = p ++ (r, n) :: rest) (hn : inI n = false) : fitsZ full = false := by
  rw [hf, fitsZ_append]; simp [fitsZ, hn]
theorem mrg_lt {f : Int → Int} {x : Ent} {l : List Ent} : ∀ {m : List Ent}, cF (x :: l) m < 0 → mrg f (x :: l) m = x :: mrg f l m
  | [], _ => by rw [mrg_nil', mrg_nil']
  | y :: m, h => by rw [mrg_cons, if_pos (show cR x.1 y.1 < 0 from h)]
theorem mrg_eq {f : Int → Int} {x y : Ent} {l m : List Ent} (h : cR x.1 y.1 = 0) : mrg f (x :: l) (y :: m) = (y.1, x.2 + f y.2) :: mrg f l m := by rw [mrg_cons, if_neg (by omega), if_pos h, (cR_zero _ _).1 h]
theorem mrg_gt {f : Int → Int} {x y : Ent} {l m : List Ent} (h : 0 < cR x.1 y.1) : mrg f (x :: l) (y :: m) = (y.1, f y.2) :: mrg f (x :: l) m := by rw [mrg_cons, if_neg (by omega), if_neg (by omega)]
set_option maxHeartbeats 8000000 in
theorem zCombine (g : Nat) (f : Int → Int) (hT : Takes g f) (eg : ∀ args w, (callFunc g args).run Tryd.prog w = .ok (.enter g args) w) (l m : List Ent) (va vb : Value) (a : Addr) (w : World) (ho : OverAt a w) (hN : l.length + m.length ≤ 65536) (hl : EOk l) (hm : EOk m) (ha : EntsIs w va l) (hb : EntsIs w vb m) (z : List Ent) (re : Value)
    (h1 : fitsZ (mrg f l m) = true → z = nzZ (mrg f l m) ∧ re = .nilIface) (h2 : fitsZ (mrg f l m) = false → z = [] ∧ re = errV a) :
    Calls Tryd.prog 36 #[va, vb, .func (.func g) #[] #[]] w fun e w' => ∃ v, e = .returned (.tuple #[v, re]) ∧ ZHas w.heap.size z v w' ∧ Below w.heap.size w w' := by
  obtain ⟨a0, cap, ea⟩ := ha.form
  obtain ⟨b0, cap', eb⟩ := hb.form
  have HO : Hid (OverAt a w) := ho
  have H1 : Hid (fitsZ (mrg f l m) = true → z = nzZ (mrg f l m) ∧ re = .nilIface) := h1
  have H2 : Hid (fitsZ (mrg f l m) = false → z = [] ∧ re = errV a) := h2
  have H0 : Hid (CombTo f (mrg f l m) 65536 w va vb (.slice none 0 0) l m w) := ⟨ha, hb, hl, hm, [], [], ZOwn.nil _ _, Below.refl _ _, rfl, rfl, by simpa using hN⟩
  have HT : Hid (Takes g f) := hT
  clear ho h1 h2 ha hb hl hm hT hN
  generalize mrg f l m = full at *
  subst ea eb
  go_enter Tryd.func36, Tryd.ntmps36
  go_wp2_with fail
  go_loopw [0, 1, 8, 9] (fun va vb vz ve wr => ∃ la mb, ve = .nilIface ∧ CombTo f full 65536 w va vb vz la mb wr) (fun va vb _ _ _ => slLen va + slLen vb)
  case atStart => exact ⟨l, m, rfl, H0.out⟩
  case round =>
    clear H0
    obtain ⟨la, mb, rfl, c1, c2, c3, c4, us, p, c5, c6, c7, c8, c9⟩ := hrel
    obtain ⟨a0', capa, rfl⟩ := c1.form
    obtain ⟨b0', capb, rfl⟩ := c2.form
    obtain ⟨az, cz, rfl⟩ := own_form c5.1
    rcases la with _ | ⟨x, la⟩
    · rcases mb with _ | ⟨y, mb⟩
      · rw [mrg_nil, List.map_nil, List.append_nil] at c7
        subst c7
        have EX : Hid (z = nzZ full ∧ re = .nilIface) := H1.out c8
        have HE : Hid (ZHas w.heap.size (nzZ full) (.slice az us.length cz) wr) := ⟨us, c5⟩
        have H6 : Hid (Below w.heap.size w wr) := c6
        clear c1 c2 c3 c4 c5 c6 c8 c9 H1 H2
        go_wp2_with fail
        go_ret2
        exact ⟨_, by rw [EX.out.2]; rfl, by rw [EX.out.1]; exact HE.out, H6.out⟩
      ·
        have HS : Hid (full = p ++ (y.1, f y.2) :: mrg f (([] : List Ent)) mb) := by
          show _ = _; exact c7
        have I1 : 0 < (y :: mb).length := by simp
        have I1' : (0 : Int) < ((y :: mb).length : Int) := by rw [List.length_cons]; omega
        have e9 : us.length + 1 + (([] : List Ent)).length + mb.length ≤ 65536 := by simp only [List.length_cons, List.length_nil] at c9 ⊢; omega
        have hz := c6.size
        have q1 := zCompareFirst (([] : List Ent)) (y :: mb) _ _ (wr.alloc (.cells #[.int .i64 0, .int .u64 0] 88)) (c1.on (c6.trans (one_box.mono hz))) (c2.on (c6.trans (one_box.mono hz)))
        have T0 : Hid (TotAt wr.heap.size 0 (wr.alloc (.cells #[.int .i64 0, .int .u64 0] 88))) := tot_new 0 wr
        generalize hc : cF (([] : List Ent)) (y :: mb) = c at q1
        have hcs : 0 < c := by rw [← hc]; exact Int.one_pos
        clear hc
        obtain ⟨bb, ob, b1, m1, rfl, y1, y2, y3⟩ := c2.at 0 (by simp)
        have lb1 := c2.cap
        have c2' := c2.tail
        simp only [List.getElem_cons_zero, Nat.zero_mul, Nat.add_zero] at y1 y2 y3
        have yk := c4 y (by simp)
        have C6 : Hid (Below w.heap.size w wr) := c6
        have C5 : Hid (ZOwn w.heap.size us (nzZ p) (.slice az us.length cz) wr) := c5
        have K1 : Hid (EntsIs w (.slice a0' 0 capa) (([] : List Ent)) ∧ EOk (([] : List Ent))) := ⟨c1, c3⟩
        have K2 : Hid (EntsIs w (.slice (some ⟨bb, ob + 2, none⟩) mb.length (capb - 1)) mb ∧ EOk mb) := ⟨c2', fun e he => c4 e (by simp [he])⟩
        have C8 : Hid (fitsZ p = true) := c8
        have Y : Hid (w.cell? ⟨bb, ob, none⟩ = some (.slice b1 y.1.length m1) ∧ w.cell? ⟨bb, ob + 1, none⟩ = some (.int .i64 y.2) ∧ RowIs w (.slice b1 y.1.length m1) y.1) := ⟨y1, y2, y3⟩
        clear c1 c2 c3 c4 c5 c6 c7 c8 c9 c2' y1 y2 y3
        have HF : Hid (∀ W v w4 va vb, EntsIs w va (([] : List Ent)) → EntsIs w vb mb → Below w.heap.size w W → inI (f y.2) = true → PutAt w.heap.size (nzZ p) y.1 (f y.2) us.length W v w4 → CombTo f full 65536 w va vb v (([] : List Ent)) mb w4) := fun W v w4 va vb h1 h2 hW hi hP => CombTo.step ⟨h1, K1.out.2⟩ ⟨h2, K2.out.2⟩ HS.out C8.out hi hW hP e9
        have HX : Hid (inI (f y.2) = false → z = [] ∧ re = errV a) := fun h => H2.out (over_full HS.out h)
        clear HS C8 H1 H2
        unfold maxLen at *
        go_wp2_with fail
        refine q1.mono ?_
        rintro e w1 ⟨rfl, hb1⟩
        have B1 : Hid (Below wr.heap.size wr w1) := one_box.trans (hb1.mono (by simp))
        have T1 : Hid (TotAt wr.heap.size 0 w1) := T0.out.on hb1
        clear hb1 q1 T0
        have V1 : Hid (Below w.heap.size w w1) := C6.out.trans (B1.out.mono hz)
        have y1 := cell_on Y.out.1 V1.out
        have y2 := cell_on Y.out.2.1 V1.out
        have q3 := HT.out.2 wr.heap.size (0) y.2 w1 (by omega) yk.1 T1.out
        rw [Int.zero_add] at q3
        go_wp2_with fail
        refine q3.mono ?_
        rintro e w3 ⟨rfl, hT3, hb3⟩
        have B3 : Hid (Below wr.heap.size wr w3) := B1.out.trans (hb3.below (Nat.le_refl _) B1.out.size)
        have T3 : Hid (TotAt wr.heap.size (f y.2) w3) := hT3
        clear hT3 hb3 q3 y1 y2 B1 T1 V1
        have V3 : Hid (Below w.heap.size w w3) := C6.out.trans (B3.out.mono hz)
        have hbn : -604462909807314587353088 ≤ f y.2 ∧ f y.2 ≤ 604462909807314587353088 := (by have := HT.out.1 _ yk.1; omega)
        generalize f y.2 = n at *
        obtain ⟨t1, t2, _, _, _⟩ := T3.out
        by_cases hin : inI n = true
        · have q4 := zPut_ok w.heap.size us (nzZ p) y.1 n _ (.slice b1 y.1.length m1) w3 V3.out.size hin (C5.out.on B3.out) (Y.out.2.2.on V3.out) yk.2 (by omega)
          go_wp2_with fail
          all_goals (
            refine q4.mono ?_
            rintro e w5 ⟨v5, rfl, hP⟩
            have hF : Hid (∀ va vb, EntsIs w va (([] : List Ent)) → EntsIs w vb mb → CombTo f full 65536 w va vb v5 (([] : List Ent)) mb w5) := fun va vb h1 h2 => HF.out _ _ _ va vb h1 h2 V3.out hin hP
            clear hP q4 HF HX t1 t2
            go_wp2_with fail
            go_roundw
            case rel => exact ⟨_, _, rfl, hF.out _ _ (by first | exact K1.out.1 | exact EntsIs.none (by omega)) (by first | exact K2.out.1 | exact EntsIs.none (by omega))⟩
            case measure => simp [slLen] <;> omega)
        · have hin' : inI n = false := by simpa using hin
          have q4 := zPut_over n az b1 us.length cz (y.1).length m1 a w3 (HO.out.on V3.out) hbn hin'
          unfold errV at q4
          have EX : Hid (z = [] ∧ re = errV a) := HX.out hin'
          clear HF HX hin
          go_wp2_with fail
          all_goals (
            refine q4.mono ?_
            rintro e w5 ⟨rfl, hb5⟩
            have V5 : Hid (Below w.heap.size w w5) := V3.out.trans (hb5.mono V3.out.size)
            clear hb5 q4 t1 t2
            go_wp2_with fail
            go_ret2
            exact ⟨.slice none 0 0, by rw [EX.out.2]; rfl, by rw [EX.out.1]; exact ⟨[], ZOwn.nil _ _⟩, V5.out⟩)
    · by_cases hB : cF (x :: la) mb < 0
      ·
        have HS : Hid (full = p ++ (x.1, x.2) :: mrg f la (mb)) := by
          show _ = _; rw [c7]; congr 1; rw [mrg_lt hB]
        have I1 : 0 < (x :: la).length := by simp
        have I1' : (0 : Int) < ((x :: la).length : Int) := by rw [List.length_cons]; omega
        have e9 : us.length + 1 + la.length + (mb).length ≤ 65536 := by simp only [List.length_cons] at c9 ⊢; omega
        have hz := c6.size
        have q1 := zCompareFirst (x :: la) (mb) _ _ (wr.alloc (.cells #[.int .i64 0, .int .u64 0] 88)) (c1.on (c6.trans (one_box.mono hz))) (c2.on (c6.trans (one_box.mono hz)))
        have T0 : Hid (TotAt wr.heap.size 0 (wr.alloc (.cells #[.int .i64 0, .int .u64 0] 88))) := tot_new 0 wr
        generalize hc : cF (x :: la) (mb) = c at q1
        have hcs : c < 0 := by rw [← hc]; exact hB
        clear hc
        obtain ⟨ba, oa, a1, n1, rfl, x1, x2, x3⟩ := c1.at 0 (by simp)
        have la1 := c1.cap
        have c1' := c1.tail
        simp only [List.getElem_cons_zero, Nat.zero_mul, Nat.add_zero] at x1 x2 x3
        have xk := c3 x (by simp)
        have C6 : Hid (Below w.heap.size w wr) := c6
        have C5 : Hid (ZOwn w.heap.size us (nzZ p) (.slice az us.length cz) wr) := c5
        have K1 : Hid (EntsIs w (.slice (some ⟨ba, oa + 2, none⟩) la.length (capa - 1)) la ∧ EOk la) := ⟨c1', fun e he => c3 e (by simp [he])⟩
        have K2 : Hid (EntsIs w (.slice b0' (mb).length capb) (mb) ∧ EOk (mb)) := ⟨c2, c4⟩
        have C8 : Hid (fitsZ p = true) := c8
        have X : Hid (w.cell? ⟨ba, oa, none⟩ = some (.slice a1 x.1.length n1) ∧ w.cell? ⟨ba, oa + 1, none⟩ = some (.int .i64 x.2) ∧ RowIs w (.slice a1 x.1.length n1) x.1) := ⟨x1, x2, x3⟩
        clear c1 c2 c3 c4 c5 c6 c7 c8 c9 c1' x1 x2 x3
        have HF : Hid (∀ W v w4 va vb, EntsIs w va la → EntsIs w vb (mb) → Below w.heap.size w W → inI (x.2) = true → PutAt w.heap.size (nzZ p) x.1 (x.2) us.length W v w4 → CombTo f full 65536 w va vb v la (mb) w4) := fun W v w4 va vb h1 h2 hW hi hP => CombTo.step ⟨h1, K1.out.2⟩ ⟨h2, K2.out.2⟩ HS.out C8.out hi hW hP e9
        have HX : Hid (inI (x.2) = false → z = [] ∧ re = errV a) := fun h => H2.out (over_full HS.out h)
        clear HS C8 H1 H2
        unfold maxLen at *
        go_wp2_with fail
        refine q1.mono ?_
        rintro e w1 ⟨rfl, hb1⟩
        have B1 : Hid (Below wr.heap.size wr w1) := one_box.trans (hb1.mono (by simp))
        have T1 : Hid (TotAt wr.heap.size 0 w1) := T0.out.on hb1
        clear hb1 q1 T0
        have V1 : Hid (Below w.heap.size w w1) := C6.out.trans (B1.out.mono hz)
        have x1 := cell_on X.out.1 V1.out
        have x2 := cell_on X.out.2.1 V1.out
        have q2 := totAdd wr.heap.size 0 x.2 (by omega) (inI_iff.1 xk.1) w1 T1.out
        rw [Int.zero_add] at q2
        go_wp2_with fail
        refine q2.mono ?_
        rintro e w2 ⟨rfl, hT2, hb2⟩
        have B2 : Hid (Below wr.heap.size wr w2) := B1.out.trans (hb2.below (Nat.le_refl _) B1.out.size)
        have T2 : Hid (TotAt wr.heap.size x.2 w2) := hT2
        clear hT2 hb2 q2 x1 x2 B1 T1 V1
        have V2 : Hid (Below w.heap.size w w2) := C6.out.trans (B2.out.mono hz)
        have hbn : -604462909807314587353088 ≤ x.2 ∧ x.2 ≤ 604462909807314587353088 := (by have := inI_iff.1 xk.1; omega)
        obtain ⟨t1, t2, _, _, _⟩ := T2.out
        by_cases hin : inI x.2 = true
        · have q4 := zPut_ok w.heap.size us (nzZ p) x.1 x.2 _ (.slice a1 x.1.length n1) w2 V2.out.size hin (C5.out.on B2.out) (X.out.2.2.on V2.out) xk.2 (by omega)
          go_wp2_with fail
          all_goals (
            refine q4.mono ?_
            rintro e w5 ⟨v5, rfl, hP⟩
            have hF : Hid (∀ va vb, EntsIs w va la → EntsIs w vb (mb) → CombTo f full 65536 w va vb v5 la (mb) w5) := fun va vb h1 h2 => HF.out _ _ _ va vb h1 h2 V2.out hin hP
            clear hP q4 HF HX t1 t2
            go_wp2_with fail
            go_roundw
            case rel => exact ⟨_, _, rfl, hF.out _ _ (by first | exact K1.out.1 | exact EntsIs.none (by omega)) (by first | exact K2.out.1 | exact EntsIs.none (by omega))⟩
            case measure => simp [slLen] <;> omega)
        · have hin' : inI x.2 = false := by simpa using hin
          have q4 := zPut_over x.2 az a1 us.length cz (x.1).length n1 a w2 (HO.out.on V2.out) hbn hin'
          unfold errV at q4
          have EX : Hid (z = [] ∧ re = errV a) := HX.out hin'
          clear HF HX hin
          go_wp2_with fail
          all_goals (
            refine q4.mono ?_
            rintro e w5 ⟨rfl, hb5⟩
            have V5 : Hid (Below w.heap.size w w5) := V2.out.trans (hb5.mono V2.out.size)
            clear hb5 q4 t1 t2
            go_wp2_with fail
            go_ret2
            exact ⟨.slice none 0 0, by rw [EX.out.2]; rfl, by rw [EX.out.1]; exact ⟨[], ZOwn.nil _ _⟩, V5.out⟩)
      · rcases mb with _ | ⟨y, mb⟩
        · exact absurd (show (-1 : Int) < 0 by decide) hB
        · by_cases hC : cR x.1 y.1 = 0
          ·
            have HS : Hid (full = p ++ (y.1, x.2 + f y.2) :: mrg f la mb) := by
              show _ = _; rw [c7]; congr 1; rw [mrg_eq hC]
            have I1 : 0 < (x :: la).length := by simp
            have I1' : (0 : Int) < ((x :: la).length : Int) := by rw [List.length_cons]; omega
            have e9 : us.length + 1 + la.length + mb.length ≤ 65536 := by simp only [List.length_cons] at c9 ⊢; omega
            have hz := c6.size
            have q1 := zCompareFirst (x :: la) (y :: mb) _ _ (wr.alloc (.cells #[.int .i64 0, .int .u64 0] 88)) (c1.on (c6.trans (one_box.mono hz))) (c2.on (c6.trans (one_box.mono hz)))
            have T0 : Hid (TotAt wr.heap.size 0 (wr.alloc (.cells #[.int .i64 0, .int .u64 0] 88))) := tot_new 0 wr
            generalize hc : cF (x :: la) (y :: mb) = c at q1
            have hcs : c = 0 := by rw [← hc]; exact hC
            clear hc
            obtain ⟨ba, oa, a1, n1, rfl, x1, x2, x3⟩ := c1.at 0 (by simp)
            have la1 := c1.cap
            have c1' := c1.tail
            simp only [List.getElem_cons_zero, Nat.zero_mul, Nat.add_zero] at x1 x2 x3
            have xk := c3 x (by simp)
            obtain ⟨bb, ob, b1, m1, rfl, y1, y2, y3⟩ := c2.at 0 (by simp)
            have lb1 := c2.cap
            have c2' := c2.tail
            simp only [List.getElem_cons_zero, Nat.zero_mul, Nat.add_zero] at y1 y2 y3
            have yk := c4 y (by simp)
            have C6 : Hid (Below w.heap.size w wr) := c6
            have C5 : Hid (ZOwn w.heap.size us (nzZ p) (.slice az us.length cz) wr) := c5
            have K1 : Hid (EntsIs w (.slice (some ⟨ba, oa + 2, none⟩) la.length (capa - 1)) la ∧ EOk la) := ⟨c1', fun e he => c3 e (by simp [he])⟩
            have K2 : Hid (EntsIs w (.slice (some ⟨bb, ob + 2, none⟩) mb.length (capb - 1)) mb ∧ EOk mb) := ⟨c2', fun e he => c4 e (by simp [he])⟩
            have C8 : Hid (fitsZ p = true) := c8
            have X : Hid (w.cell? ⟨ba, oa, none⟩ = some (.slice a1 x.1.length n1) ∧ w.cell? ⟨ba, oa + 1, none⟩ = some (.int .i64 x.2) ∧ RowIs w (.slice a1 x.1.length n1) x.1) := ⟨x1, x2, x3⟩
            have Y : Hid (w.cell? ⟨bb, ob, none⟩ = some (.slice b1 y.1.length m1) ∧ w.cell? ⟨bb, ob + 1, none⟩ = some (.int .i64 y.2) ∧ RowIs w (.slice b1 y.1.length m1) y.1) := ⟨y1, y2, y3⟩
            clear c1 c2 c3 c4 c5 c6 c7 c8 c9 c1' x1 x2 x3 c2' y1 y2 y3
            have HF : Hid (∀ W v w4 va vb, EntsIs w va la → EntsIs w vb mb → Below w.heap.size w W → inI (x.2 + f y.2) = true → PutAt w.heap.size (nzZ p) y.1 (x.2 + f y.2) us.length W v w4 → CombTo f full 65536 w va vb v la mb w4) := fun W v w4 va vb h1 h2 hW hi hP => CombTo.step ⟨h1, K1.out.2⟩ ⟨h2, K2.out.2⟩ HS.out C8.out hi hW hP e9
            have HX : Hid (inI (x.2 + f y.2) = false → z = [] ∧ re = errV a) := fun h => H2.out (over_full HS.out h)
            clear HS C8 H1 H2
            unfold maxLen at *
            go_wp2_with fail
            refine q1.mono ?_
            rintro e w1 ⟨rfl, hb1⟩
            have B1 : Hid (Below wr.heap.size wr w1) := one_box.trans (hb1.mono (by simp))
            have T1 : Hid (TotAt wr.heap.size 0 w1) := T0.out.on hb1
            clear hb1 q1 T0
            have V1 : Hid (Below w.heap.size w w1) := C6.out.trans (B1.out.mono hz)
            have x1 := cell_on X.out.1 V1.out
            have x2 := cell_on X.out.2.1 V1.out
            have q2 := totAdd wr.heap.size 0 x.2 (by omega) (inI_iff.1 xk.1) w1 T1.out
            rw [Int.zero_add] at q2
            go_wp2_with fail
            refine q2.mono ?_
            rintro e w2 ⟨rfl, hT2, hb2⟩
            have B2 : Hid (Below wr.heap.size wr w2) := B1.out.trans (hb2.below (Nat.le_refl _) B1.out.size)
            have T2 : Hid (TotAt wr.heap.size x.2 w2) := hT2
            clear hT2 hb2 q2 x1 x2 B1 T1 V1
            have V2 : Hid (Below w.heap.size w w2) := C6.out.trans (B2.out.mono hz)
            have y1 := cell_on Y.out.1 V2.out
            have y2 := cell_on Y.out.2.1 V2.out
            have q3 := HT.out.2 wr.heap.size (x.2) y.2 w2 (by have := inI_iff.1 xk.1; omega) yk.1 T2.out
            go_wp2_with fail
            all_goals (
              refine q3.mono ?_
              rintro e w3 ⟨rfl, hT3, hb3⟩
              have B3 : Hid (Below wr.heap.size wr w3) := B2.out.trans (hb3.below (Nat.le_refl _) B2.out.size)
              have T3 : Hid (TotAt wr.heap.size (x.2 + f y.2) w3) := hT3
              clear hT3 hb3 q3 y1 y2 B2 T2 V2
              have V3 : Hid (Below w.heap.size w w3) := C6.out.trans (B3.out.mono hz)
              have hbn : -604462909807314587353088 ≤ x.2 + f y.2 ∧ x.2 + f y.2 ≤ 604462909807314587353088 := (by have := inI_iff.1 xk.1; have := HT.out.1 _ yk.1; omega)
              generalize x.2 + f y.2 = n at *
              obtain ⟨t1, t2, _, _, _⟩ := T3.out
              by_cases hin : inI n = true
              · have q4 := zPut_ok w.heap.size us (nzZ p) y.1 n _ (.slice b1 y.1.length m1) w3 V3.out.size hin (C5.out.on B3.out) (Y.out.2.2.on V3.out) yk.2 (by omega)
                go_wp2_with fail
                all_goals (
                  refine q4.mono ?_
                  rintro e w5 ⟨v5, rfl, hP⟩
                  have hF : Hid (∀ va vb, EntsIs w va la → EntsIs w vb mb → CombTo f full 65536 w va vb v5 la mb w5) := fun va vb h1 h2 => HF.out _ _ _ va vb h1 h2 V3.out hin hP
                  clear hP q4 HF HX t1 t2
                  go_wp2_with fail
                  go_roundw
                  case rel => exact ⟨_, _, rfl, hF.out _ _ (by first | exact K1.out.1 | exact EntsIs.none (by omega)) (by first | exact K2.out.1 | exact EntsIs.none (by omega))⟩
                  case measure => simp [slLen] <;> omega)
              · have hin' : inI n = false := by simpa using hin
                have q4 := zPut_over n az b1 us.length cz (y.1).length m1 a w3 (HO.out.on V3.out) hbn hin'
                unfold errV at q4
                have EX : Hid (z = [] ∧ re = errV a) := HX.out hin'
                clear HF HX hin
                go_wp2_with fail
                all_goals (
                  refine q4.mono ?_
                  rintro e w5 ⟨rfl, hb5⟩
                  have V5 : Hid (Below w.heap.size w w5) := V3.out.trans (hb5.mono V3.out.size)
                  clear hb5 q4 t1 t2
                  go_wp2_with fail
                  go_ret2
                  exact ⟨.slice none 0 0, by rw [EX.out.2]; rfl, by rw [EX.out.1]; exact ⟨[], ZOwn.nil _ _⟩, V5.out⟩))
          · have hD : 0 < cR x.1 y.1 := by have : ¬ cR x.1 y.1 < 0 := hB; omega
            have HS : Hid (full = p ++ (y.1, f y.2) :: mrg f (x :: la) mb) := by
              show _ = _; rw [c7]; congr 1; rw [mrg_gt hD]
            have I1 : 0 < (x :: la).length := by simp
            have I1' : (0 : Int) < ((x :: la).length : Int) := by rw [List.length_cons]; omega
            have e9 : us.length + 1 + (x :: la).length + mb.length ≤ 65536 := by simp only [List.length_cons] at c9 ⊢; omega
            have hz := c6.size
            have q1 := zCompareFirst (x :: la) (y :: mb) _ _ (wr.alloc (.cells #[.int .i64 0, .int .u64 0] 88)) (c1.on (c6.trans (one_box.mono hz))) (c2.on (c6.trans (one_box.mono hz)))
            have T0 : Hid (TotAt wr.heap.size 0 (wr.alloc (.cells #[.int .i64 0, .int .u64 0] 88))) := tot_new 0 wr
            generalize hc : cF (x :: la) (y :: mb) = c at q1
            have hcs : 0 < c := by rw [← hc]; exact hD
            clear hc
            obtain ⟨bb, ob, b1, m1, rfl, y1, y2, y3⟩ := c2.at 0 (by simp)
            have lb1 := c2.cap
            have c2' := c2.tail
            simp only [List.getElem_cons_zero, Nat.zero_mul, Nat.add_zero] at y1 y2 y3
            have yk := c4 y (by simp)
            have C6 : Hid (Below w.heap.size w wr) := c6
            have C5 : Hid (ZOwn w.heap.size us (nzZ p) (.slice az us.length cz) wr) := c5
            have K1 : Hid (EntsIs w (.slice a0' (x :: la).length capa) (x :: la) ∧ EOk (x :: la)) := ⟨c1, c3⟩
            have K2 : Hid (EntsIs w (.slice (some ⟨bb, ob + 2, none⟩) mb.length (capb - 1)) mb ∧ EOk mb) := ⟨c2', fun e he => c4 e (by simp [he])⟩
            have C8 : Hid (fitsZ p = true) := c8
            have Y : Hid (w.cell? ⟨bb, ob, none⟩ = some (.slice b1 y.1.length m1) ∧ w.cell? ⟨bb, ob + 1, none⟩ = some (.int .i64 y.2) ∧ RowIs w (.slice b1 y.1.length m1) y.1) := ⟨y1, y2, y3⟩
            clear c1 c2 c3 c4 c5 c6 c7 c8 c9 c2' y1 y2 y3
            have HF : Hid (∀ W v w4 va vb, EntsIs w va (x :: la) → EntsIs w vb mb → Below w.heap.size w W → inI (f y.2) = true → PutAt w.heap.size (nzZ p) y.1 (f y.2) us.length W v w4 → CombTo f full 65536 w va vb v (x :: la) mb w4) := fun W v w4 va vb h1 h2 hW hi hP => CombTo.step ⟨h1, K1.out.2⟩ ⟨h2, K2.out.2⟩ HS.out C8.out hi hW hP e9
            have HX : Hid (inI (f y.2) = false → z = [] ∧ re = errV a) := fun h => H2.out (over_full HS.out h)
            clear HS C8 H1 H2
            unfold maxLen at *
            go_wp2_with fail
            refine q1.mono ?_
            rintro e w1 ⟨rfl, hb1⟩
            have B1 : Hid (Below wr.heap.size wr w1) := one_box.trans (hb1.mono (by simp))
            have T1 : Hid (TotAt wr.heap.size 0 w1) := T0.out.on hb1
            clear hb1 q1 T0
            have V1 : Hid (Below w.heap.size w w1) := C6.out.trans (B1.out.mono hz)
            have y1 := cell_on Y.out.1 V1.out
            have y2 := cell_on Y.out.2.1 V1.out
            have q3 := HT.out.2 wr.heap.size (0) y.2 w1 (by omega) yk.1 T1.out
            rw [Int.zero_add] at q3
            go_wp2_with fail
            refine q3.mono ?_
            rintro e w3 ⟨rfl, hT3, hb3⟩
            have B3 : Hid (Below wr.heap.size wr w3) := B1.out.trans (hb3.below (Nat.le_refl _) B1.out.size)
            have T3 : Hid (TotAt wr.heap.size (f y.2) w3) := hT3
            clear hT3 hb3 q3 y1 y2 B1 T1 V1
            have V3 : Hid (Below w.heap.size w w3) := C6.out.trans (B3.out.mono hz)
            have hbn : -604462909807314587353088 ≤ f y.2 ∧ f y.2 ≤ 604462909807314587353088 := (by have := HT.out.1 _ yk.1; omega)
            generalize f y.2 = n at *
            obtain ⟨t1, t2, _, _, _⟩ := T3.out
            by_cases hin : inI n = true
            · have q4 := zPut_ok w.heap.size us (nzZ p) y.1 n _ (.slice b1 y.1.length m1) w3 V3.out.size hin (C5.out.on B3.out) (Y.out.2.2.on V3.out) yk.2 (by omega)
              go_wp2_with fail
              all_goals (
                refine q4.mono ?_
                rintro e w5 ⟨v5, rfl, hP⟩
                have hF : Hid (∀ va vb, EntsIs w va (x :: la) → EntsIs w vb mb → CombTo f full 65536 w va vb v5 (x :: la) mb w5) := fun va vb h1 h2 => HF.out _ _ _ va vb h1 h2 V3.out hin hP
                clear hP q4 HF HX t1 t2
                go_wp2_with fail
                go_roundw
                case rel => exact ⟨_, _, rfl, hF.out _ _ (by first | exact K1.out.1 | exact EntsIs.none (by omega)) (by first | exact K2.out.1 | exact EntsIs.none (by omega))⟩
                case measure => simp [slLen] <;> omega)
            · have hin' : inI n = false := by simpa using hin
              have q4 := zPut_over n az b1 us.length cz (y.1).length m1 a w3 (HO.out.on V3.out) hbn hin'
              unfold errV at q4
              have EX : Hid (z = [] ∧ re = errV a) := HX.out hin'
              clear HF HX hin
              go_wp2_with fail
              all_goals (
                refine q4.mono ?_
                rintro e w5 ⟨rfl, hb5⟩
                have V5 : Hid (Below w.heap.size w w5) := V3.out.trans (hb5.mono V3.out.size)
                clear hb5 q4 t1 t2
                go_wp2_with fail
                go_ret2
                exact ⟨.slice none 0 0, by rw [EX.out.2]; rfl, by rw [EX.out.1]; exact ⟨[], ZOwn.nil _ _⟩, V5.out⟩)
theorem comb_ends (f : Int → Int) {l m : List Ent} (hl : SortedZ l) (hm : SortedZ m) (a : Addr) : (fitsZ (mrg f l m) = true → mkZ (l ++ m.map (fE f)) = nzZ (mrg f l m) ∧ ovE a (okZ (l ++ m.map (fE f))) = .nilIface) ∧ (fitsZ (mrg f l m) = false → mkZ (l ++ m.map (fE f)) = [] ∧ ovE a (okZ (l ++ m.map (fE f))) = errV a) := by
  have hs := mrg_sorted f _ l m (Nat.le_refl _) hl hm
  have hw : ∀ r, wt r (mrg f l m) = wt r (l ++ m.map (fE f)) := fun r => by rw [wt_mrg f r _ l m (Nat.le_refl _), wt_append]
  have hf := fits_of hs hw
  constructor
  · intro h
    exact ⟨mk_of hs hw h, by rw [← hf, h]; rfl⟩
  · intro h
    rw [hf] at h
    exact ⟨mk_bad h, by rw [h]; rfl⟩
theorem map_id (m : List Ent) : m.map (fE id) = m := by
  have : (fE id) = id := by funext e; rfl
  rw [this, List.map_id]
theorem zAddO (l m : List Ent) (va vb : Value) (a : Addr) (w : World) (ho : OverAt a w) (hN : l.length + m.length ≤ 65536) (hl : EOk l) (hm : EOk m) (zl : SortedZ l) (zm : SortedZ m) (ha : EntsIs w va l) (hb : EntsIs w vb m) :
    Calls Tryd.prog 20 #[va, vb] w fun e w' => ∃ v, e = .returned (.tuple #[v, ovE a (okZ (l ++ m))]) ∧ ZHas w.heap.size (mkZ (l ++ m)) v w' ∧ Below w.heap.size w w' := by
  have E := comb_ends id zl zm a
  rw [map_id] at E
  have q := zCombine 37 id takes_add (enters_of Tryd.func37 (by kernel_rfl) rfl) l m va vb a w ho hN hl hm ha hb _ _ E.1 E.2
  clear E ho hl hm zl zm ha hb
  generalize ovE a (okZ (l ++ m)) = re at *
  generalize mkZ (l ++ m) = z at *
  go_enter Tryd.func20, Tryd.ntmps20
  go_wp2_with fail
  refine q.mono ?_
  rintro e w1 ⟨v, rfl, h1, h2⟩
  have H : Hid (ZHas w.heap.size z v w1 ∧ Below w.heap.size w w1) := ⟨h1, h2⟩
  clear h1 h2 q
  go_wp2_with fail
  go_ret2
  exact ⟨v, rfl, H.out⟩
theorem zAdd (l m : List Ent) (va vb : Value) (a : Addr) (w : World) (ho : OverAt a w) (hN : l.length + m.length ≤ 65536) (hl : EOk l) (hm : EOk m) (zl : SortedZ l) (zm : SortedZ m) (ha : EntsIs w va l) (hb : EntsIs w vb m) :
    Calls Tryd.prog 20 #[va, vb] w fun e w' => ∃ v, e = .returned (.tuple #[v, ovE a (okZ (l ++ m))]) ∧ EntsIs w' v (mkZ (l ++ m)) ∧ Below w.heap.size w w' := by
  refine (zAddO l m va vb a w ho hN hl hm zl zm ha hb).mono ?_
  rintro e w1 ⟨v, rfl, h1, h2⟩
  exact ⟨v, rfl, h1.ents, h2⟩
theorem zSubO (l m : List Ent) (va vb : Value) (a : Addr) (w : World) (ho : OverAt a w) (hN : l.length + m.length ≤ 65536) (hl : EOk l) (hm : EOk m) (zl : SortedZ l) (zm : SortedZ m) (ha : EntsIs w va l) (hb : EntsIs w vb m) :
    Calls Tryd.prog 21 #[va, vb] w fun e w' => ∃ v, e = .returned (.tuple #[v, ovE a (okZ (l ++ m.map ngE))]) ∧ ZHas w.heap.size (mkZ (l ++ m.map ngE)) v w' ∧ Below w.heap.size w w' := by
  have E := comb_ends (fun k => -k) zl zm a
  rw [show (fE fun k => -k) = ngE from rfl] at E
  have q := zCombine 38 (fun k => -k) takes_sub (enters_of Tryd.func38 (by kernel_rfl) rfl) l m va vb a w ho hN hl hm ha hb _ _ E.1 E.2
  clear E ho hl hm zl zm ha hb
  generalize ovE a (okZ (l ++ m.map ngE)) = re at *
  generalize mkZ (l ++ m.map ngE) = z at *
  go_enter Tryd.func21, Tryd.ntmps21
  go_wp2_with fail
  refine q.mono ?_
  rintro e w1 ⟨v, rfl, h1, h2⟩
  have H : Hid (ZHas w.heap.size z v w1 ∧ Below w.heap.size w w1) := ⟨h1, h2⟩
  clear h1 h2 q
  go_wp2_with fail
  go_ret2
  exact ⟨v, rfl, H.out⟩
theorem zSub (l m : List Ent) (va vb : Value) (a : Addr) (w : World) (ho : OverAt a w) (hN : l.length + m.length ≤ 65536) (hl : EOk l) (hm : EOk m) (zl : SortedZ l) (zm : SortedZ m) (ha : EntsIs w va l) (hb : EntsIs w vb m) :
    Calls Tryd.prog 21 #[va, vb] w fun e w' => ∃ v, e = .returned (.tuple #[v, ovE a (okZ (l ++ m.map ngE))]) ∧ EntsIs w' v (mkZ (l ++ m.map ngE)) ∧ Below w.heap.size w w' := by
  refine (zSubO l m va vb a w ho hN hl hm zl zm ha hb).mono ?_
  rintro e w1 ⟨v, rfl, h1, h2⟩
  exact ⟨v, rfl, h1.ents, h2⟩
end Go.Proofs.YtmpochhcokmaiaaDoor
