/- What row.Check answers of rows in memory: no error, that of types or that of how many. -/
import Derived.Test.YtihijfbbmenbnaaDoorRefRowCheck
import Derived.Test.YtihijfbbmenbnaaDoorErrs
import Derived.Test.YtihijfbbmenbnaaDoorRowPick
namespace Go.Proofs.YtihijfbbmenbnaaDoor
open Go.RowKit Go.Sort
set_option maxRecDepth 100000
/-- The two errors of rows. -/
def TwoAt (t a : Addr) (w : World) : Prop := w.cell? ⟨1, 0, none⟩ = some (errV t) ∧ w.cell? ⟨0, 0, none⟩ = some (errV a)
theorem TwoAt.on {t a : Addr} {w w' : World} (h : TwoAt t a w) (hb : Below w.heap.size w w') : TwoAt t a w' := ⟨cell_on h.1 hb, cell_on h.2 hb⟩
theorem ErrsAt.two {ad : Fin 11 → Addr} {w : World} (h : ErrsAt ad w) : TwoAt (ad 1) (ad 5) w := by
  obtain ⟨_, _, c0, c1, c2, c3, c4, c5, _⟩ := h
  exact ⟨c1, c5⟩
/-- The error of a number that Check answers. -/
def ckE (t a : Addr) (c : Int) : Value := if c = 0 then .nilIface else if c = 102 then errV t else errV a
theorem ckE_0 (t a : Addr) : ckE t a 0 = .nilIface := rfl
theorem ckE_t (t a : Addr) : ckE t a 102 = errV t := rfl
theorem ckE_a (t a : Addr) : ckE t a 106 = errV a := rfl
set_option maxHeartbeats 1000000 in
theorem rowCheck_arity (a0 b0 : Option Addr) (n m cap cap' : Nat) (h : n ≠ m) (t a : Addr) (w : World) (ht : TwoAt t a w) :
    Calls Tryd.prog 20 #[.slice a0 n cap, .slice b0 m cap'] w fun e w' => e = .returned (errV a) ∧ Below w.heap.size w w' := by
  have e' : ((n : Int) == (m : Int)) = false := by simp; omega
  have c := ht.2
  go_enter Tryd.func20, Tryd.ntmps20
  go_wp2_with fail
  go_ret
  exact ⟨rfl, Below.refl _ _⟩
set_option maxHeartbeats 4000000 in
theorem rowCheck_same (l : List Val) (ks : List Int) (t a : Addr) (r : Value) (r1 : Hid (okC l ks = true → r = .nilIface)) (r2 : Hid (okC l ks = false → r = errV t)) (a0 b0 : Option Addr) (cap cap' : Nat) (w : World) (ht : TwoAt t a w) (hlen : l.length = ks.length) (ha : RowIs w (.slice a0 l.length cap) l) (hb : IntsIs w (.slice b0 ks.length cap') ks) :
    Calls Tryd.prog 20 #[.slice a0 l.length cap, .slice b0 ks.length cap'] w fun e w' => e = .returned r ∧ Below w.heap.size w w' := by
  have la := ha.le
  unfold maxLen at la
  have Ha : Hid (RowIs w (.slice a0 l.length cap) l) := ha
  have Hb : Hid (IntsIs w (.slice b0 ks.length cap') ks) := hb
  have T1 : Hid (w.cell? ⟨1, 0, none⟩ = some (errV t)) := ht.1
  have HL : Hid (l.length = ks.length) := hlen
  have hb2 : ks.length ≤ 9223372036854775807 := by omega
  have ee : ((l.length : Int) == (ks.length : Int)) = true := by simp [hlen]
  have ge : ks.length ≤ l.length ∧ l.length ≤ ks.length := by omega
  clear ha hb hlen ht
  go_enter Tryd.func20, Tryd.ntmps20
  go_wp2_with fail
  go_loopw [15] (fun i wr => ∃ j : Nat, j ≤ l.length ∧ i = .int .i64 j ∧ FitTo l ks j ∧ Below w.heap.size w wr) (fun i _ => l.length - (intOf i).toNat)
  case atStart => exact ⟨0, by omega, rfl, fun _ _ _ h => by omega, Below.refl _ _⟩
  case round =>
    obtain ⟨j, hj1, rfl, hc, hB⟩ := hrel
    by_cases k1 : j < l.length
    · have k2 : j < ks.length := by omega
      obtain ⟨b, o, rfl, x1, x2, x3, hbl⟩ := (Ha.out.on hB).at j k1
      obtain ⟨b', o', rfl, y1⟩ := (Hb.out.on hB).at0 j k2
      have I1 : (j : Int) < (l.length : Int) := by omega
      have I2 : (j : Int) < (ks.length : Int) := by omega
      have HS : Hid (okc l[j] ks[j] = true → FitTo l ks (j + 1)) := fun h i h1 h2 h3 => by
        by_cases e : i = j
        · subst e; exact h
        · exact hc i h1 h2 (by omega)
      have HN : Hid (okc l[j] ks[j] = false → okC l ks = false) := okC_bad l ks j k1 k2
      generalize l[j] = x at *
      generalize ks[j] = k at *
      have HO : Hid (okc x k = (ckV x.1 x.2.1 x.2.2 && (x.1 == 0 || x.1 == k))) := rfl
      have g1 : ∀ d os, (grow (redrawn (wr.alloc (.cells #[.int .i64 x.1, .int .i64 x.2.1, .string x.2.2] 31)) d) os).cell? ⟨wr.heap.size, 0, none⟩ = some (.int .i64 x.1) := fun d os => cell_regrown (by rw [World.cell?_alloc_at _ _ _ _ rfl]; rfl) d os
      have g2 : ∀ d os, (grow (redrawn (wr.alloc (.cells #[.int .i64 x.1, .int .i64 x.2.1, .string x.2.2] 31)) d) os).cell? ⟨wr.heap.size, 1, none⟩ = some (.int .i64 x.2.1) := fun d os => cell_regrown (by rw [World.cell?_alloc_at _ _ _ _ rfl]; rfl) d os
      have g3 : ∀ d os, (grow (redrawn (wr.alloc (.cells #[.int .i64 x.1, .int .i64 x.2.1, .string x.2.2] 31)) d) os).cell? ⟨wr.heap.size, 2, none⟩ = some (.string x.2.2) := fun d os => cell_regrown (by rw [World.cell?_alloc_at _ _ _ _ rfl]; rfl) d os
      have gy : ∀ d os, (grow (redrawn (wr.alloc (.cells #[.int .i64 x.1, .int .i64 x.2.1, .string x.2.2] 31)) d) os).cell? ⟨b', o' + j, none⟩ = some (.int .i64 k) := fun d os => cell_regrown (cell_on y1 one_box) d os
      have q : Hid (∀ d os, Calls Tryd.prog 36 #[.agg #[.int .i64 x.1, .int .i64 x.2.1, .string x.2.2]] (grow (redrawn (wr.alloc (.cells #[.int .i64 x.1, .int .i64 x.2.1, .string x.2.2] 31)) d) os) fun e w'' => e = .returned (.bool (ckV x.1 x.2.1 x.2.2)) ∧ ∃ p : Regrown, w'' = grow (redrawn (wr.alloc (.cells #[.int .i64 x.1, .int .i64 x.2.1, .string x.2.2] 31)) p.d) p.os) :=
        fun d os => Calls.regrown_of (valueCheck x.1 x.2.1 x.2.2 _)
      have HB : Hid (∀ w6 d os, w6 = grow (redrawn (wr.alloc (.cells #[.int .i64 x.1, .int .i64 x.2.1, .string x.2.2] 31)) d) os → Below w.heap.size w w6) := by
        intro w6 d os e
        rw [e]; exact (hB.alloc hB.size _).trans ((below_regrown _ _ _).mono (by have := hB.size; simp; omega))
      generalize ckV x.1 x.2.1 x.2.2 = c at *
      clear y1 hc
      generalize hx1 : x.1 = X1 at *
      clear hx1
      have D : c = false ∨ (c = true ∧ (X1 == 0) = true) ∨ (c = true ∧ (X1 == 0) = false ∧ (X1 == k) = true) ∨ (c = true ∧ (X1 == 0) = false ∧ (X1 == k) = false) := by
        cases c <;> cases (X1 == 0) <;> cases (X1 == k) <;> simp
      rcases D with hc | ⟨hc, h0⟩ | ⟨hc, h0, hk⟩ | ⟨hc, h0, hk⟩
      · have E : Hid (okC l ks = false) := HN.out (by rw [HO.out, hc]; rfl)
        clear HO HN HS
        subst hc
        go_wp2_with fail
        generalize wr.alloc _ = W at *
        refine wp_region_quiet_below (by kernel_rfl) (by kernel_rfl) ?_
        iterate 2 (go_big_quiet_step (exact q.out _ _))
        iterate 15 (go_big_quiet_step (fail))
        refine wpQuiet_nil ?_
        intro w6 hw6
        obtain ⟨p6, hw6⟩ := hw6
        have hb6 : Hid (Below w.heap.size w w6) := HB.out _ _ _ hw6
        clear hw6 g1 g2 g3 gy q HB
        have ht := cell_on T1.out (hb6.out)
        go_wp2_with fail
        go_ret
        exact ⟨by rw [r2.out E.out]; rfl, hb6.out⟩
      · have E : Hid (FitTo l ks (j + 1)) := HS.out (by rw [HO.out, hc, h0]; rfl)
        clear HO HN HS
        have z0 : X1 = 0 := by simpa using h0
        clear h0
        subst hc z0
        go_wp2_with fail
        generalize wr.alloc _ = W at *
        refine wp_region_quiet_below (by kernel_rfl) (by kernel_rfl) ?_
        iterate 2 (go_big_quiet_step (exact q.out _ _))
        iterate 15 (go_big_quiet_step (fail))
        refine wpQuiet_nil ?_
        intro w6 hw6
        obtain ⟨p6, hw6⟩ := hw6
        have hb6 : Hid (Below w.heap.size w w6) := HB.out _ _ _ hw6
        clear hw6 g1 g2 g3 gy q HB
        go_wp2_with fail
        go_roundw
        case rel => exact ⟨j + 1, by omega, by go_num, E.out, hb6.out⟩
        case measure => simp [intOf]; omega
      · have E : Hid (FitTo l ks (j + 1)) := HS.out (by rw [HO.out, hc, h0, hk]; rfl)
        clear HO HN HS
        have z0 : ¬ X1 = 0 := by simpa using h0
        have z1 : X1 = k := by simpa using hk
        have n0 : (X1 != 0) = true := by simp [z0]
        subst hc z1
        go_wp2_with fail
        generalize wr.alloc _ = W at *
        refine wp_region_quiet_below (by kernel_rfl) (by kernel_rfl) ?_
        iterate 2 (go_big_quiet_step (exact q.out _ _))
        iterate 15 (go_big_quiet_step (fail))
        refine wpQuiet_nil ?_
        intro w6 hw6
        obtain ⟨p6, hw6⟩ := hw6
        have hb6 : Hid (Below w.heap.size w w6) := HB.out _ _ _ hw6
        clear hw6 g1 g2 g3 gy q HB
        go_wp2_with fail
        go_roundw
        case rel => exact ⟨j + 1, by omega, by go_num, E.out, hb6.out⟩
        case measure => simp [intOf]; omega
      · have E : Hid (okC l ks = false) := HN.out (by rw [HO.out, hc, h0, hk]; rfl)
        clear HO HN HS
        have z0 : ¬ X1 = 0 := by simpa using h0
        have z1 : ¬ X1 = k := by simpa using hk
        have n0 : (X1 != 0) = true := by simp [z0]
        have n1 : (X1 != k) = true := by simp [z1]
        subst hc
        go_wp2_with fail
        generalize wr.alloc _ = W at *
        refine wp_region_quiet_below (by kernel_rfl) (by kernel_rfl) ?_
        iterate 2 (go_big_quiet_step (exact q.out _ _))
        iterate 15 (go_big_quiet_step (fail))
        refine wpQuiet_nil ?_
        intro w6 hw6
        obtain ⟨p6, hw6⟩ := hw6
        have hb6 : Hid (Below w.heap.size w w6) := HB.out _ _ _ hw6
        clear hw6 g1 g2 g3 gy q HB
        have ht := cell_on T1.out (hb6.out)
        go_wp2_with fail
        go_ret
        exact ⟨by rw [r2.out E.out]; rfl, hb6.out⟩
    · have I1 : ¬ (j : Int) < (l.length : Int) := by omega
      have E : Hid (okC l ks = true) := okC_all l ks HL.out (fun i h1 h2 => hc i h1 h2 (by omega))
      clear hc
      go_wp2_with fail
      go_ret
      exact ⟨by rw [r1.out E.out]; rfl, hB⟩
theorem rowCheck (l : List Val) (ks : List Int) (t a : Addr) (va vb : Value) (w : World) (ht : TwoAt t a w) (_hn : ks.length ≤ 65536) (ha : RowIs w va l) (hb : IntsIs w vb ks) :
    Calls Tryd.prog 20 #[va, vb] w fun e w' => e = .returned (ckE t a (ckR l ks)) ∧ Below w.heap.size w w' := by
  obtain ⟨b0, cap', rfl⟩ := hb.form
  obtain ⟨a0, cap, rfl⟩ := ha.form
  by_cases h : l.length = ks.length
  · refine rowCheck_same l ks t a _ (fun e => ?_) (fun e => ?_) a0 b0 cap cap' w ht h ha hb
    · unfold ckR; rw [if_pos h, e]; rfl
    · unfold ckR; rw [if_pos h, e]; rfl
  · have := rowCheck_arity a0 b0 l.length ks.length cap cap' h t a w ht
    have e : ckE t a (ckR l ks) = errV a := by unfold ckR; rw [if_neg h]; rfl
    rw [e]; exact this
end Go.Proofs.YtihijfbbmenbnaaDoor
