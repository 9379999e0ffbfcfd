/- Texts of one claim, one behind the other. -/
import Derived.Test.YtlafokjkpbhckaaGreatDoorPackPlain
import Derived.Test.YtlafokjkpbhckaaGreatDoorRef
import Derived.Test.YtlafokjkpbhckaaGreatDoorRowMem
import Derived.Test.YtlafokjkpbhckaaGreatDoorOn
import Derived.Test.YtlafokjkpbhckaaGreatDoorJnMem
import Derived.Test.YtlafokjkpbhckaaGreatDoorPackJn
/- What the document's own col answers of a row in memory: the column, or Null where there is none. -/
namespace Go.Proofs.YtlafokjkpbhckaaGreatDoor
open Go.RowKit Go.Sort
set_option maxRecDepth 100000
set_option linter.unusedVariables false

/-- A value. -/
def vw (v : Val) : Value := .agg #[.int .i64 v.1, .int .i64 v.2.1, .string v.2.2]
set_option maxHeartbeats 1000000 in
theorem refColV (r : List Val) (rv : Value) (c : Int) (w : World) (hr : RowIs w rv r) :
    Calls Tryz.prog 28 #[rv, .int .i64 c] w fun e w' => e = .returned (vw (colR r c)) ∧ Below w.heap.size w w' := by
  obtain ⟨a0, cap0, rfl⟩ := hr.form
  have la := hr.le
  unfold maxLen at la
  by_cases k0 : c < 0
  · have E : Hid (colR r c = nul) := by show colR r c = nul; unfold colR; rw [if_neg (by omega)]
    clear hr
    go_enter Tryz.func28, Tryz.ntmps28
    go_wp2_with fail
    exact bodyPost_ret (v := .agg #[.int .i64 0, .int .i64 0, .string ⟨#[]⟩]) (by simp [results, Tryz.results28, go_sem]) rfl ⟨by rw [E.out]; rfl, one_box⟩
  · by_cases k1 : c < (r.length : Int)
    · have hl : c.toNat < r.length := by omega
      obtain ⟨b, o, rfl, x1, x2, x3, hb⟩ := hr.at c.toNat hl
      have E : Hid (colR r c = r[c.toNat]) := by show colR r c = _; unfold colR; rw [if_pos (by omega), List.getD_eq_getElem?_getD, List.getElem?_eq_getElem hl]; rfl
      have I4 : 0 ≤ c := by omega
      clear hr
      generalize r[c.toNat] = x at *
      go_enter Tryz.func28, Tryz.ntmps28
      go_wp2_with fail
      exact bodyPost_ret (v := .agg #[.int .i64 x.1, .int .i64 x.2.1, .string x.2.2]) (by simp [results, Tryz.results28, go_sem]) rfl ⟨by rw [E.out]; rfl, one_box⟩
    · have I3 : (r.length : Int) ≤ c := by omega
      have E : Hid (colR r c = nul) := by show colR r c = nul; unfold colR; rw [if_pos (by omega), List.getD_eq_getElem?_getD, List.getElem?_eq_none (by omega)]; rfl
      clear hr
      go_enter Tryz.func28, Tryz.ntmps28
      go_wp2_with fail
      exact bodyPost_ret (v := .agg #[.int .i64 0, .int .i64 0, .string ⟨#[]⟩]) (by simp [results, Tryz.results28, go_sem]) rfl ⟨by rw [E.out]; rfl, one_box⟩
end Go.Proofs.YtlafokjkpbhckaaGreatDoor
/- What the document's own Fits answers of pairs and rows in memory. -/
namespace Go.Proofs.YtlafokjkpbhckaaGreatDoor
open Go.RowKit Go.Sort
set_option maxRecDepth 100000
set_option linter.unusedVariables false

theorem fit_take {on : List (Int × Int)} {a b : List Val} {j : Nat} (h : j < on.length) : fitP (on.take (j + 1)) a b = (fitP (on.take j) a b && ((colR a on[j].1).1 != 0 && decide (colR a on[j].1 = colR b on[j].2))) := by
  unfold fitP; rw [List.take_succ_eq_append_getElem h, List.all_append]; simp
theorem fit_not {on : List (Int × Int)} {a b : List Val} {j : Nat} (h : j < on.length) (hn : ((colR a on[j].1).1 != 0 && decide (colR a on[j].1 = colR b on[j].2)) = false) : fitP on a b = false := by
  unfold fitP; rw [List.all_eq_false]; exact ⟨_, List.getElem_mem h, by rw [hn]; exact Bool.false_ne_true⟩
theorem cVal_eq (a b : Val) : cV a.1 a.2.1 a.2.2 b.1 b.2.1 b.2.2 = cVal a b := rfl
set_option maxHeartbeats 4000000 in
theorem refFits (on : List (Int × Int)) (a b : List Val) (ov va vb : Value) (w : World) (ho : PairsIs w ov on) (ha : RowIs w va a) (hb : RowIs w vb b) :
    Calls Tryz.prog 10 #[ov, va, vb] w fun e w' => e = .returned (.bool (fitP on a b)) ∧ Below w.heap.size w w' := by
  obtain ⟨ao, co, rfl⟩ := ho.form
  obtain ⟨a0, c0, rfl⟩ := ha.form
  obtain ⟨b0, c1, rfl⟩ := hb.form
  have lo := ho.le
  unfold maxLen at lo
  have Ho : Hid (PairsIs w (.slice ao on.length co) on) := ho
  have Ha : Hid (RowIs w (.slice a0 a.length c0) a) := ha
  have Hb : Hid (RowIs w (.slice b0 b.length c1) b) := hb
  have F0 : Hid (fitP (on.take 0) a b = true ∧ Below w.heap.size w w) := ⟨by rw [List.take_zero]; rfl, Below.refl _ _⟩
  clear ho ha hb
  go_enter Tryz.func10, Tryz.ntmps10
  go_wp2_with fail
  go_loopw [7] (fun i wr => ∃ j : Nat, j ≤ on.length ∧ i = .int .i64 j ∧ Hid (fitP (on.take j) a b = true ∧ Below w.heap.size w wr)) (fun i _ => on.length - (intOf i).toNat)
  case atStart => exact ⟨0, by omega, rfl, F0.out⟩
  case round =>
    clear F0
    obtain ⟨j, hj, rfl, hS⟩ := hrel
    by_cases k1 : j < on.length
    · have I1 : (j : Int) < (on.length : Int) := by omega
      obtain ⟨bo, oo, rfl, z1, z2⟩ := (Ho.out.on hS.out.2).at j k1
      have HC1 : Hid (∀ V, Below wr.heap.size wr V → Calls Tryz.prog 28 #[.slice a0 a.length c0, .int .i64 on[j].1] V fun e w' => e = .returned (vw (colR a on[j].1)) ∧ Below V.heap.size V w') := fun V hV => refColV a _ _ V ((Ha.out.on hS.out.2).on hV)
      have HC2 : Hid (∀ V, Below wr.heap.size wr V → Calls Tryz.prog 28 #[.slice b0 b.length c1, .int .i64 on[j].2] V fun e w' => e = .returned (vw (colR b on[j].2)) ∧ Below V.heap.size V w') := fun V hV => refColV b _ _ V ((Hb.out.on hS.out.2).on hV)
      have HN : Hid (((colR a on[j].1).1 != 0 && decide (colR a on[j].1 = colR b on[j].2)) = false → fitP on a b = false) := fun h => fit_not k1 h
      have HY : Hid (((colR a on[j].1).1 != 0 && decide (colR a on[j].1 = colR b on[j].2)) = true → fitP (on.take (j + 1)) a b = true) := fun h => by rw [fit_take k1, hS.out.1, h]; rfl
      have HB : Hid (Below w.heap.size w wr) := hS.out.2
      have Z2 : Hid (wr.cell? ⟨bo, oo + j * 2 + 1, none⟩ = some (.int .i64 on[j].2)) := z2
      clear hS z2
      generalize colR a on[j].1 = x at *
      generalize colR b on[j].2 = y at *
      generalize on[j].1 = i1 at *
      generalize on[j].2 = i2 at *
      obtain ⟨xk, xn, xs⟩ := x
      obtain ⟨yk, yn, ys⟩ := y
      unfold vw at HC1 HC2
      have HQ : Hid (∀ V, Calls Tryz.prog 29 #[.agg #[.int .i64 xk, .int .i64 xn, .string xs], .agg #[.int .i64 yk, .int .i64 yn, .string ys]] V fun e w' => e = .returned (.int .i64 (cV xk xn xs yk yn ys)) ∧ Below V.heap.size V w') := fun V => refCompareValues xk xn xs yk yn ys V
      have HZ : Hid (cV xk xn xs yk yn ys = 0 ↔ ((xk, xn, xs) : Val) = (yk, yn, ys)) := cVal_zero (xk, xn, xs) (yk, yn, ys)
      generalize hcv : cV xk xn xs yk yn ys = cv at *
      clear hcv
      go_wp2_with fail
      refine (HC1.out wr (Below.refl _ _)).mono ?_
      rintro e w2 ⟨rfl, b2⟩
      have zz := cell_on Z2.out (b2.trans (one_box.mono b2.size) : Below wr.heap.size wr (w2.alloc (.cells #[.int .i64 xk, .int .i64 xn, .string xs] 46)))
      have q3 := HC2.out (w2.alloc (.cells #[.int .i64 xk, .int .i64 xn, .string xs] 46)) (b2.trans (one_box.mono b2.size))
      have B2 : Hid (Below wr.heap.size wr w2) := b2
      clear HC1 HC2 Z2 z1 b2
      go_wp2_with fail
      refine q3.mono ?_
      rintro e w3 ⟨rfl, b3⟩
      have x0 : (w2.alloc (.cells #[.int .i64 xk, .int .i64 xn, .string xs] 46)).cell? ⟨w2.heap.size, 0, none⟩ = some (.int .i64 xk) := by rw [World.cell?_alloc_at _ _ _ _ rfl]; rfl
      have x1 : (w2.alloc (.cells #[.int .i64 xk, .int .i64 xn, .string xs] 46)).cell? ⟨w2.heap.size, 1, none⟩ = some (.int .i64 xn) := by rw [World.cell?_alloc_at _ _ _ _ rfl]; rfl
      have x2 : (w2.alloc (.cells #[.int .i64 xk, .int .i64 xn, .string xs] 46)).cell? ⟨w2.heap.size, 2, none⟩ = some (.string xs) := by rw [World.cell?_alloc_at _ _ _ _ rfl]; rfl
      have x0 := cell_on (cell_on x0 b3) (one_box (o := .cells #[.int .i64 yk, .int .i64 yn, .string ys] 46))
      have x1 := cell_on (cell_on x1 b3) (one_box (o := .cells #[.int .i64 yk, .int .i64 yn, .string ys] 46))
      have x2 := cell_on (cell_on x2 b3) (one_box (o := .cells #[.int .i64 yk, .int .i64 yn, .string ys] 46))
      have B3 : Hid (Below wr.heap.size wr (w3.alloc (.cells #[.int .i64 yk, .int .i64 yn, .string ys] 46))) := by
        have h1 := B2.out
        have h2 : Below wr.heap.size wr w3 := (h1.trans (one_box.mono h1.size)).trans (b3.mono (by have := h1.size; simp; omega))
        exact h2.trans (one_box.mono h2.size)
      clear q3 b3 zz B2
      by_cases h0 : xk = 0
      · have E : Hid (fitP on a b = false) := HN.out (by subst h0; rfl)
        clear HN HY HZ
        subst h0
        go_wp2_with fail
        go_ret
        exact ⟨by first | (rw [E.out]; done) | (rw [E.out]; rfl), HB.out.trans (B3.out.mono HB.out.size)⟩
      · have bz : (xk == 0) = false := by simp [h0]
        have q4 := HQ.out (w3.alloc (.cells #[.int .i64 yk, .int .i64 yn, .string ys] 46))
        by_cases hc : cv = 0
        · have hE : ((xk, xn, xs) : Val) = (yk, yn, ys) := HZ.out.1 hc
          have E : Hid (fitP (on.take (j + 1)) a b = true) := HY.out (by rw [← hE]; simp [h0])
          clear HN HY HZ hE HQ
          subst hc
          go_wp2_with fail
          refine q4.mono ?_
          rintro e w5 ⟨rfl, b5⟩
          have B5 : Hid (Below w.heap.size w w5) := HB.out.trans ((B3.out.trans (b5.mono B3.out.size)).mono HB.out.size)
          clear q4 b5 x0 x1 x2 B3
          go_wp2_with fail
          go_roundw
          case rel => exact ⟨j + 1, by omega, by go_num, E.out, B5.out⟩
          case measure => simp [intOf]; omega
        · have hE : ((xk, xn, xs) : Val) ≠ (yk, yn, ys) := fun h => hc (HZ.out.2 h)
          have E : Hid (fitP on a b = false) := HN.out (by simp [hE])
          have bc : (cv == 0) = false := by simp [hc]
          clear HN HY HZ hE HQ
          go_wp2_with fail
          refine q4.mono ?_
          rintro e w5 ⟨rfl, b5⟩
          have B5 : Hid (Below w.heap.size w w5) := HB.out.trans ((B3.out.trans (b5.mono B3.out.size)).mono HB.out.size)
          clear q4 b5 x0 x1 x2 B3
          go_wp2_with fail
          go_ret
          exact ⟨by first | (rw [E.out]; done) | (rw [E.out]; rfl), B5.out⟩
    · have I1 : ¬ (j : Int) < (on.length : Int) := by omega
      obtain rfl : j = on.length := by omega
      have h := hS.out
      rw [List.take_length] at h
      have E : Hid (fitP on a b = true ∧ Below w.heap.size w wr) := h
      clear h hS
      go_wp2_with fail
      go_ret
      exact ⟨by first | (rw [E.out.1]; done) | (rw [E.out.1]; rfl), E.out.2⟩
end Go.Proofs.YtlafokjkpbhckaaGreatDoor
