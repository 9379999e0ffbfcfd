/- What the document's own CompareRows and SameRow answer of rows in memory. -/
import Derived.Test.YtmpochhcokmaiaaRowMem
import Derived.Test.YtmpochhcokmaiaaRef
import Derived.Lib.QuietBelow
namespace Go.Proofs.Ytmpochhcokmaiaa
open Go.RowKit Go.Sort
set_option maxRecDepth 100000

/-- The cells of a row's value in every world that a drawn region may have come to. -/
theorem cells_regrown {w : World} {b o j : Nat} {v : Val} (h : w.cell? ⟨b, o + j * 3, none⟩ = some (.int .i64 v.1) ∧ w.cell? ⟨b, o + j * 3 + 1, none⟩ = some (.int .i64 v.2.1) ∧ w.cell? ⟨b, o + j * 3 + 2, none⟩ = some (.string v.2.2)) (d : Nat) (os : Array Obj) :
    (grow (redrawn w d) os).cell? ⟨b, o + j * 3, none⟩ = some (.int .i64 v.1) ∧ (grow (redrawn w d) os).cell? ⟨b, o + j * 3 + 1, none⟩ = some (.int .i64 v.2.1) ∧ (grow (redrawn w d) os).cell? ⟨b, o + j * 3 + 2, none⟩ = some (.string v.2.2) :=
  ⟨cell_regrown h.1 d os, cell_regrown h.2.1 d os, cell_regrown h.2.2 d os⟩

set_option maxHeartbeats 1000000 in
theorem refCompareRows_none (a0 b0 : Option Addr) (n m cap cap' : Nat) (h : n = 0 ∨ m = 0) (w : World) :
    Calls Try.prog 13 #[.slice a0 n cap, .slice b0 m cap'] w fun e w' => e = .returned (.int .i64 (if n < m then -1 else if m < n then 1 else 0)) ∧ Below w.heap.size w w' := by
  by_cases hn : n = 0
  · subst hn
    by_cases hm : m = 0
    · subst hm
      go_enter Try.func13, Try.ntmps13
      go_wp2_with fail
      go_loopw [5] (fun i wr => i = .int .i64 0 ∧ wr = w) (fun _ _ => 0)
      case atStart => exact ⟨rfl, rfl⟩
      case round =>
        obtain ⟨rfl, rfl⟩ := hrel
        go_wp2_with fail
        go_ret
        exact ⟨rfl, Below.refl _ _⟩
    · have I : (0 : Int) < (m : Int) := by omega
      have J : 0 < m := by omega
      go_enter Try.func13, Try.ntmps13
      go_wp2_with fail
      go_loopw [5] (fun i wr => i = .int .i64 0 ∧ wr = w) (fun _ _ => 0)
      case atStart => exact ⟨rfl, rfl⟩
      case round =>
        obtain ⟨rfl, rfl⟩ := hrel
        go_wp2_with fail
        go_ret
        exact ⟨retI rfl, Below.refl _ _⟩
  · have hm : m = 0 := by omega
    subst hm
    have I : (0 : Int) < (n : Int) := by omega
    have J : 0 < n := by omega
    go_enter Try.func13, Try.ntmps13
    go_wp2_with fail
    go_loopw [5] (fun i wr => i = .int .i64 0 ∧ wr = w) (fun _ _ => 0)
    case atStart => exact ⟨rfl, rfl⟩
    case round =>
      obtain ⟨rfl, rfl⟩ := hrel
      go_wp2_with fail
      go_ret
      exact ⟨retI rfl, Below.refl _ _⟩

set_option maxHeartbeats 2000000 in
theorem refCompareRows_some (l m : List Val) (b o cap b' o' cap' : Nat) (w : World) (ha : RowIs w (.slice (some ⟨b, o, none⟩) l.length cap) l) (hb : RowIs w (.slice (some ⟨b', o', none⟩) m.length cap') m) :
    Calls Try.prog 13 #[.slice (some ⟨b, o, none⟩) l.length cap, .slice (some ⟨b', o', none⟩) m.length cap'] w fun e w' => e = .returned (.int .i64 (cR l m)) ∧ Below w.heap.size w w' := by
  have la := ha.le
  have lb := hb.le
  unfold maxLen at la lb
  have Ha : Hid (RowIs w (.slice (some ⟨b, o, none⟩) l.length cap) l) := ha
  have Hb : Hid (RowIs w (.slice (some ⟨b', o', none⟩) m.length cap') m) := hb
  clear ha hb
  go_enter Try.func13, Try.ntmps13
  go_wp2_with fail
  go_loopw [5] (fun i wr => ∃ j : Nat, j ≤ l.length ∧ j ≤ m.length ∧ i = .int .i64 j ∧ Hid (cR l m = cR (l.drop j) (m.drop j)) ∧ Below w.heap.size w wr) (fun i _ => l.length - (intOf i).toNat)
  case atStart => exact ⟨0, by omega, by omega, rfl, rfl, Below.refl _ _⟩
  case round =>
    obtain ⟨j, hj1, hj2, rfl, hc, hB⟩ := hrel
    by_cases hlt : j < l.length ∧ j < m.length
    · obtain ⟨k1, k2⟩ := hlt
      have X := (Ha.out.on hB).at' j k1
      have Y := (Hb.out.on hB).at' j k2
      have I1 : (j : Int) < (l.length : Int) := by omega
      have I2 : (j : Int) < (m.length : Int) := by omega
      have HS : Hid (cR (l.drop j) (m.drop j) = if cVal l[j] m[j] = 0 then cR (l.drop (j + 1)) (m.drop (j + 1)) else cVal l[j] m[j]) := cR_step k1 k2
      generalize l[j] = x at *
      generalize m[j] = y at *
      have gx := fun d os => cells_regrown X d os
      have gy := fun d os => cells_regrown Y d os
      have q : Hid (∀ d os, Calls Try.prog 19 #[.agg #[.int .i64 x.1, .int .i64 x.2.1, .string x.2.2], .agg #[.int .i64 y.1, .int .i64 y.2.1, .string y.2.2]] (grow (redrawn wr d) os) fun e w'' => e = .returned (.int .i64 (cVal x y)) ∧ ∃ p : Regrown, w'' = grow (redrawn wr p.d) p.os) :=
        fun d os => Calls.regrown_of (refCompareValues x.1 x.2.1 x.2.2 y.1 y.2.1 y.2.2 _)
      generalize cVal x y = c at *
      clear X Y
      go_wp2_with fail
      refine wp_region_quiet_below (by kernel_rfl) (by kernel_rfl) ?_
      iterate 10 (quiet_step (exact q.out _ _))
      refine wpQuiet_nil ?_
      intro w6 hw6
      obtain ⟨p6, hw6⟩ := hw6
      have hb6 : Below w.heap.size w w6 := by rw [hw6]; exact hB.trans ((below_regrown wr _ _).mono hB.size)
      clear hw6 gx gy q
      by_cases e0 : c = 0
      · subst e0
        go_wp2_with fail
        go_roundw
        case rel => exact ⟨j + 1, by omega, by omega, by go_num, by show _ = _; rw [hc.out, HS.out, if_pos rfl], hb6⟩
        case measure => simp [intOf]; omega
      · have ee : (c == 0) = false := by simp [e0]
        go_wp2_with fail
        go_ret
        exact ⟨retI (by rw [hc.out, HS.out, if_neg e0]), hb6⟩
    · have HE : Hid (cR l m = if l.length < m.length then -1 else if m.length < l.length then 1 else 0) := by show _ = _; rw [hc.out, cR_end (by omega) hj1 hj2]
      clear hc
      by_cases k1 : j < l.length
      · have I1 : (j : Int) < (l.length : Int) := by omega
        have I2 : decide ((j : Int) < (m.length : Int)) = false := by simp; omega
        have I3 : (m.length : Int) < (l.length : Int) := by omega
        go_wp2_with fail
        go_ret
        exact ⟨retI (by rw [HE.out, if_neg (by omega), if_pos (by omega)]), hB⟩
      · have I1 : decide ((j : Int) < (l.length : Int)) = false := by simp; omega
        by_cases k3 : l.length < m.length
        · have I2 : (l.length : Int) < (m.length : Int) := by omega
          go_wp2_with fail
          go_ret
          exact ⟨retI (by rw [HE.out, if_pos k3]), hB⟩
        · have I2 : ¬ (l.length : Int) < (m.length : Int) := by omega
          have I3 : ¬ (m.length : Int) < (l.length : Int) := by omega
          go_wp2_with fail
          go_ret
          exact ⟨retI (by rw [HE.out, if_neg k3, if_neg (by omega)]), hB⟩

theorem cR_nil_left (m : List Val) : cR [] m = if 0 < m.length then -1 else if m.length < 0 then 1 else 0 := by cases m <;> simp [cR]
theorem cR_nil_right (l : List Val) : cR l [] = if l.length < 0 then -1 else if 0 < l.length then 1 else 0 := by cases l <;> simp [cR]
/-- The document's order of rows. -/
theorem refCompareRows (l m : List Val) (va vb : Value) (w : World) (ha : RowIs w va l) (hb : RowIs w vb m) :
    Calls Try.prog 13 #[va, vb] w fun e w' => e = .returned (.int .i64 (cR l m)) ∧ Below w.heap.size w w' := by
  obtain ⟨b0, cap', eb⟩ := hb.form
  obtain ⟨a0, cap, ea⟩ := ha.form
  by_cases hl : l = []
  · subst hl; subst ea eb; rw [cR_nil_left]; exact refCompareRows_none a0 b0 0 m.length cap cap' (.inl rfl) w
  by_cases hm : m = []
  · subst hm; subst ea eb; rw [cR_nil_right]; exact refCompareRows_none a0 b0 l.length 0 cap cap' (.inr rfl) w
  obtain ⟨b, o, cap1, rfl⟩ := ha.addr hl
  obtain ⟨b', o', cap2, rfl⟩ := hb.addr hm
  exact refCompareRows_some l m b o cap1 b' o' cap2 w ha hb

/-- The two rows are one, as a Bool. -/
def sR (l m : List Val) : Bool := cR l m == 0
theorem sR_iff (l m : List Val) : sR l m = true ↔ l = m := by unfold sR; rw [beq_iff_eq]; exact cR_zero l m
theorem sR_ne {l m : List Val} (h : l ≠ m) : sR l m = false := by
  cases e : sR l m
  · rfl
  · exact absurd ((sR_iff l m).1 e) h
theorem take_same {l m : List Val} {j : Nat} (h1 : j < l.length) (h2 : j < m.length) (h : l.take j = m.take j) (e : l[j] = m[j]) : l.take (j + 1) = m.take (j + 1) := by
  rw [List.take_succ_eq_append_getElem h1, List.take_succ_eq_append_getElem h2, h, e]

end Go.Proofs.Ytmpochhcokmaiaa
