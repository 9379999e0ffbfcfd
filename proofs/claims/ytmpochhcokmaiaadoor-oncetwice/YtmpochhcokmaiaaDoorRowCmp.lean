/- What row.Compare answers of rows in memory: it hands them to the library's slices.CompareFunc. -/
import Derived.Test.YtmpochhcokmaiaaDoorRefRow
import Derived.Test.YtmpochhcokmaiaaDoorCmp
namespace Go.Proofs.YtmpochhcokmaiaaDoor
open Go.RowKit Go.Sort
set_option maxRecDepth 100000

set_option maxHeartbeats 2000000 in
theorem cmpFunc (l m : List Val) (a0 b0 : Option Addr) (cap cap' : Nat) (w : World) (ha : RowIs w (.slice a0 l.length cap) l) (hb : RowIs w (.slice b0 m.length cap') m) :
    Calls Tryd.prog 60 #[.slice a0 l.length cap, .slice b0 m.length cap', .func (.func 61) #[] #[]] w fun e w' => e = .returned (.int .i64 (cR l m)) ∧ Below w.heap.size w w' := by
  have la := ha.le
  have lb := hb.le
  unfold maxLen at la lb
  have Ha : Hid (RowIs w (.slice a0 l.length cap) l) := ha
  have Hb : Hid (RowIs w (.slice b0 m.length cap') m) := hb
  clear ha hb
  go_enter Tryd.func60, Tryd.ntmps60
  go_wp2_with fail
  go_loopw [13] (fun i wr => ∃ j : Nat, j ≤ l.length ∧ j ≤ m.length ∧ i = .int .i64 j ∧ Hid (cR l m = cR (l.drop j) (m.drop j)) ∧ Below w.heap.size w wr) (fun i _ => l.length - (intOf i).toNat)
  case atStart => exact ⟨0, by omega, by omega, rfl, rfl, Below.refl _ _⟩
  case round =>
    obtain ⟨j, hj1, hj2, rfl, hc, hB⟩ := hrel
    by_cases k1 : j < l.length
    · obtain ⟨b, o, rfl, x1, x2, x3, hbl⟩ := (Ha.out.on hB).at j k1
      have I1 : (j : Int) < (l.length : Int) := by omega
      by_cases k2 : j < m.length
      · obtain ⟨b', o', rfl, y1, y2, y3, hbl'⟩ := (Hb.out.on hB).at j k2
        have I2 : (j : Int) < (m.length : Int) := by omega
        have I3 : ¬ (m.length : Int) ≤ (j : Int) := by omega
        have HS : Hid (cR (l.drop j) (m.drop j) = if cVal l[j] m[j] = 0 then cR (l.drop (j + 1)) (m.drop (j + 1)) else cVal l[j] m[j]) := cR_step k1 k2
        have hz := hB.size
        generalize l[j] = x at *
        generalize m[j] = y at *
        have hBB : Hid (∀ w2, Below ((wr.alloc (.cells #[.int .i64 x.1, .int .i64 x.2.1, .string x.2.2] 44)).alloc (.cells #[.int .i64 y.1, .int .i64 y.2.1, .string y.2.2] 44)).heap.size ((wr.alloc (.cells #[.int .i64 x.1, .int .i64 x.2.1, .string x.2.2] 44)).alloc (.cells #[.int .i64 y.1, .int .i64 y.2.1, .string y.2.2] 44)) w2 → Below w.heap.size w w2) := by
          intro w2 h2
          exact ((hB.alloc hz _).alloc (by simp; omega) _).trans (h2.mono (by simp; omega))
        go_wp2_with fail
        refine (valueCompare x.1 x.2.1 x.2.2 y.1 y.2.1 y.2.2 _).mono ?_
        rintro e w2 ⟨rfl, hb2⟩
        have hb3 := hBB.out _ hb2
        clear hb2 hBB x1 x2 x3 y1 y2 y3
        have HC : Hid (cV x.1 x.2.1 x.2.2 y.1 y.2.1 y.2.2 = cVal x y) := rfl
        generalize cV x.1 x.2.1 x.2.2 y.1 y.2.1 y.2.2 = c at *
        by_cases e0 : c = 0
        · subst e0
          go_wp2_with fail
          go_roundw
          case rel => exact ⟨j + 1, by omega, by omega, by go_num, by show _ = _; rw [hc.out, HS.out, if_pos HC.out.symm], hb3⟩
          case measure => simp [intOf]; omega
        · have ee : (c == 0) = false := by simp [e0]
          go_wp2_with fail
          go_ret
          exact ⟨retI (by rw [hc.out, HS.out, if_neg (by rw [← HC.out]; exact e0), ← HC.out]), hb3⟩
      · have HE : Hid (cR l m = 1) := by show _ = _; rw [hc.out, cR_end (by omega) hj1 hj2, if_neg (by omega), if_pos (by omega)]
        have I2 : (m.length : Int) ≤ (j : Int) := by omega
        have hz := hB.size
        have hBB : Hid (Below w.heap.size w (wr.alloc (.cells #[.int .i64 l[j].1, .int .i64 l[j].2.1, .string l[j].2.2] 44))) := hB.alloc hz _
        generalize l[j] = x at *
        clear hc
        go_wp2_with fail
        go_ret
        exact ⟨retI HE.out.symm, hBB.out⟩
    · have HE : Hid (cR l m = if l.length < m.length then -1 else if m.length < l.length then 1 else 0) := by show _ = _; rw [hc.out, cR_end (by omega) hj1 hj2]
      clear hc
      obtain rfl : j = l.length := by omega
      have I1 : decide ((l.length : Int) < (l.length : Int)) = false := by simp
      by_cases k3 : l.length < m.length
      · have I2 : (l.length : Int) < (m.length : Int) := by omega
        go_wp2_with fail
        go_ret
        exact ⟨retI (by rw [HE.out, if_pos k3]), hB⟩
      · have I2 : ¬ (l.length : Int) < (m.length : Int) := by omega
        go_wp2_with fail
        go_ret
        exact ⟨retI (by rw [HE.out, if_neg k3, if_neg (by omega)]), hB⟩

set_option maxHeartbeats 1000000 in
/-- The program's order of rows. -/
theorem rowCompare (l m : List Val) (va vb : Value) (w : World) (ha : RowIs w va l) (hb : RowIs w vb m) :
    Calls Tryd.prog 49 #[va, vb] w fun e w' => e = .returned (.int .i64 (cR l m)) ∧ Below w.heap.size w w' := by
  obtain ⟨b0, cap', eb⟩ := hb.form
  obtain ⟨a0, cap, ea⟩ := ha.form
  subst ea eb
  have q := cmpFunc l m a0 b0 cap cap' w ha hb
  clear ha hb
  go_enter Tryd.func49, Tryd.ntmps49
  go_wp2_with fail
  refine q.mono ?_
  rintro e w1 ⟨rfl, hb1⟩
  go_wp2_with fail
  go_ret
  exact ⟨rfl, hb1⟩

end Go.Proofs.YtmpochhcokmaiaaDoor
