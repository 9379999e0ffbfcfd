/- Texts of one claim, one behind the other. -/
import Derived.Test.YtlafokjkpbhckaaGreatDoorRefRow
import Derived.Test.YtlafokjkpbhckaaGreatDoorPackCmp
import Derived.Sort.Grow
/- What row.Compare answers of rows in memory: it hands them to the library's slices.CompareFunc. -/
namespace Go.Proofs.YtlafokjkpbhckaaGreatDoor
open Go.RowKit Go.Sort
set_option maxRecDepth 100000

set_option maxHeartbeats 2000000 in
theorem cmpFunc (l m : List Val) (a0 b0 : Option Addr) (cap cap' : Nat) (w : World) (ha : RowIs w (.slice a0 l.length cap) l) (hb : RowIs w (.slice b0 m.length cap') m) :
    Calls Tryz.prog 80 #[.slice a0 l.length cap, .slice b0 m.length cap', .func (.func 52) #[] #[]] w fun e w' => e = .returned (.int .i64 (cR l m)) ∧ Below w.heap.size w w' := by
  have la := ha.le
  have lb := hb.le
  unfold maxLen at la lb
  have Ha : Hid (RowIs w (.slice a0 l.length cap) l) := ha
  have Hb : Hid (RowIs w (.slice b0 m.length cap') m) := hb
  clear ha hb
  go_enter Tryz.func80, Tryz.ntmps80
  go_wp2_with fail
  go_loopw [13] (fun i wr => ∃ j : Nat, j ≤ l.length ∧ j ≤ m.length ∧ i = .int .i64 j ∧ Hid (cR l m = cR (l.drop j) (m.drop j)) ∧ Below w.heap.size w wr) (fun i _ => l.length - (intOf i).toNat)
  case atStart => exact ⟨0, by omega, by omega, rfl, rfl, Below.refl _ _⟩
  case round =>
    obtain ⟨j, hj1, hj2, rfl, hc, hB⟩ := hrel
    by_cases k1 : j < l.length
    · obtain ⟨b, o, rfl, x1, x2, x3, hbl⟩ := (Ha.out.on hB).at j k1
      have I1 : (j : Int) < (l.length : Int) := by omega
      by_cases k2 : j < m.length
      · obtain ⟨b', o', rfl, y1, y2, y3, hbl'⟩ := (Hb.out.on hB).at j k2
        have I2 : (j : Int) < (m.length : Int) := by omega
        have I3 : ¬ (m.length : Int) ≤ (j : Int) := by omega
        have HS : Hid (cR (l.drop j) (m.drop j) = if cVal l[j] m[j] = 0 then cR (l.drop (j + 1)) (m.drop (j + 1)) else cVal l[j] m[j]) := cR_step k1 k2
        have hz := hB.size
        generalize l[j] = x at *
        generalize m[j] = y at *
        have hBB : Hid (∀ w2, Below ((wr.alloc (.cells #[.int .i64 x.1, .int .i64 x.2.1, .string x.2.2] 46)).alloc (.cells #[.int .i64 y.1, .int .i64 y.2.1, .string y.2.2] 46)).heap.size ((wr.alloc (.cells #[.int .i64 x.1, .int .i64 x.2.1, .string x.2.2] 46)).alloc (.cells #[.int .i64 y.1, .int .i64 y.2.1, .string y.2.2] 46)) w2 → Below w.heap.size w w2) := by
          intro w2 h2
          exact ((hB.alloc hz _).alloc (by simp; omega) _).trans (h2.mono (by simp; omega))
        go_wp2_with fail
        refine (valueCompare x.1 x.2.1 x.2.2 y.1 y.2.1 y.2.2 _).mono ?_
        rintro e w2 ⟨rfl, hb2⟩
        have hb3 := hBB.out _ hb2
        clear hb2 hBB x1 x2 x3 y1 y2 y3
        have HC : Hid (cV x.1 x.2.1 x.2.2 y.1 y.2.1 y.2.2 = cVal x y) := rfl
        generalize cV x.1 x.2.1 x.2.2 y.1 y.2.1 y.2.2 = c at *
        by_cases e0 : c = 0
        · subst e0
          go_wp2_with fail
          go_roundw
          case rel => exact ⟨j + 1, by omega, by omega, by go_num, by show _ = _; rw [hc.out, HS.out, if_pos HC.out.symm], hb3⟩
          case measure => simp [intOf]; omega
        · have ee : (c == 0) = false := by simp [e0]
          go_wp2_with fail
          go_ret
          exact ⟨retI (by rw [hc.out, HS.out, if_neg (by rw [← HC.out]; exact e0), ← HC.out]), hb3⟩
      · have HE : Hid (cR l m = 1) := by show _ = _; rw [hc.out, cR_end (by omega) hj1 hj2, if_neg (by omega), if_pos (by omega)]
        have I2 : (m.length : Int) ≤ (j : Int) := by omega
        have hz := hB.size
        have hBB : Hid (Below w.heap.size w (wr.alloc (.cells #[.int .i64 l[j].1, .int .i64 l[j].2.1, .string l[j].2.2] 46))) := hB.alloc hz _
        generalize l[j] = x at *
        clear hc
        go_wp2_with fail
        go_ret
        exact ⟨retI HE.out.symm, hBB.out⟩
    · have HE : Hid (cR l m = if l.length < m.length then -1 else if m.length < l.length then 1 else 0) := by show _ = _; rw [hc.out, cR_end (by omega) hj1 hj2]
      clear hc
      obtain rfl : j = l.length := by omega
      have I1 : decide ((l.length : Int) < (l.length : Int)) = false := by simp
      by_cases k3 : l.length < m.length
      · have I2 : (l.length : Int) < (m.length : Int) := by omega
        go_wp2_with fail
        go_ret
        exact ⟨retI (by rw [HE.out, if_pos k3]), hB⟩
      · have I2 : ¬ (l.length : Int) < (m.length : Int) := by omega
        go_wp2_with fail
        go_ret
        exact ⟨retI (by rw [HE.out, if_neg k3, if_neg (by omega)]), hB⟩

set_option maxHeartbeats 1000000 in
/-- The program's order of rows. -/
theorem rowCompare (l m : List Val) (va vb : Value) (w : World) (ha : RowIs w va l) (hb : RowIs w vb m) :
    Calls Tryz.prog 60 #[va, vb] w fun e w' => e = .returned (.int .i64 (cR l m)) ∧ Below w.heap.size w w' := by
  obtain ⟨b0, cap', eb⟩ := hb.form
  obtain ⟨a0, cap, ea⟩ := ha.form
  subst ea eb
  have q := cmpFunc l m a0 b0 cap cap' w ha hb
  clear ha hb
  go_enter Tryz.func60, Tryz.ntmps60
  go_wp2_with fail
  refine q.mono ?_
  rintro e w1 ⟨rfl, hb1⟩
  go_wp2_with fail
  go_ret
  exact ⟨rfl, hb1⟩

end Go.Proofs.YtlafokjkpbhckaaGreatDoor
/- Rows' order once more: the world behind the call is the one ahead of it, with draws and new blocks. -/
namespace Go.Proofs.YtlafokjkpbhckaaGreatDoor
open Go.RowKit Go.Sort
set_option maxRecDepth 100000

/-- Some draws on, some new blocks behind. -/
def Grown (w w' : World) : Prop := ∃ q os, w' = grow (w.drewN q) os
theorem Grown.refl (w : World) : Grown w w := ⟨0, #[], by rw [grow_empty]; rfl⟩
theorem Grown.trans {a b c : World} (h : Grown a b) (k : Grown b c) : Grown a c := by
  obtain ⟨q, os, rfl⟩ := h
  obtain ⟨p, os', rfl⟩ := k
  refine ⟨q + p, os ++ os', ?_⟩
  show grow (grow ((a.drewN q).drewN p) os) os' = _
  rw [grow_grow, World.drewN_drewN]
theorem grown_one {w : World} {o : Obj} : Grown w (w.alloc o) := ⟨0, #[o], by rw [alloc_eq_grow]; rfl⟩
theorem grown_two {w : World} {o p : Obj} : Grown w ((w.alloc o).alloc p) := grown_one.trans grown_one
theorem Grown.below {w w' : World} (h : Grown w w') : Below w.heap.size w w' := by
  obtain ⟨q, os, rfl⟩ := h
  refine ⟨rfl, rfl, rfl, by simp [grow, World.drewN], fun k hk => ?_⟩
  show (w.heap ++ os)[k]? = _
  rw [Array.getElem?_append_left hk]
set_option maxHeartbeats 1000000 in
theorem valueCompareG (k n : Int) (s : ByteArray) (k' n' : Int) (s' : ByteArray) (w : World) :
    Calls Tryz.prog 52 #[.agg #[.int .i64 k, .int .i64 n, .string s], .agg #[.int .i64 k', .int .i64 n', .string s']] w fun e w' => e = .returned (.int .i64 (cV k n s k' n' s')) ∧ Grown w w' := by
  unfold cV
  by_cases h1 : cI k k' = 0
  · have b1 : (cI k k' == 0) = true := by simp [h1]
    by_cases h2 : cI n n' = 0
    · have b2 : (cI n n' == 0) = true := by simp [h2]
      go_enter Tryz.func52, Tryz.ntmps52
      go_wp2_with (first | (go_at_call 71; refine (cmpInt _ _ _).mono ?_; rintro e w' ⟨rfl, rfl⟩) | (go_at_call 72; refine (cmpInt64 _ _ _).mono ?_; rintro e w' ⟨rfl, rfl⟩) | (go_at_call 73; refine (cmpStr _ _ _).mono ?_; rintro e w' ⟨rfl, rfl⟩))
      go_ret
      exact ⟨rfl, grown_two⟩
    · have b2 : (cI n n' == 0) = false := by simp [h2]
      go_enter Tryz.func52, Tryz.ntmps52
      go_wp2_with (first | (go_at_call 71; refine (cmpInt _ _ _).mono ?_; rintro e w' ⟨rfl, rfl⟩) | (go_at_call 72; refine (cmpInt64 _ _ _).mono ?_; rintro e w' ⟨rfl, rfl⟩) | (go_at_call 73; refine (cmpStr _ _ _).mono ?_; rintro e w' ⟨rfl, rfl⟩))
      go_ret
      exact ⟨rfl, grown_two⟩
  · have b1 : (cI k k' == 0) = false := by simp [h1]
    go_enter Tryz.func52, Tryz.ntmps52
    go_wp2_with (first | (go_at_call 71; refine (cmpInt _ _ _).mono ?_; rintro e w' ⟨rfl, rfl⟩) | (go_at_call 72; refine (cmpInt64 _ _ _).mono ?_; rintro e w' ⟨rfl, rfl⟩) | (go_at_call 73; refine (cmpStr _ _ _).mono ?_; rintro e w' ⟨rfl, rfl⟩))
    go_ret
    exact ⟨rfl, grown_two⟩

set_option maxHeartbeats 2000000 in
theorem cmpFuncG (l m : List Val) (a0 b0 : Option Addr) (cap cap' : Nat) (w : World) (ha : RowIs w (.slice a0 l.length cap) l) (hb : RowIs w (.slice b0 m.length cap') m) :
    Calls Tryz.prog 80 #[.slice a0 l.length cap, .slice b0 m.length cap', .func (.func 52) #[] #[]] w fun e w' => e = .returned (.int .i64 (cR l m)) ∧ Grown w w' := by
  have la := ha.le
  have lb := hb.le
  unfold maxLen at la lb
  have Ha : Hid (RowIs w (.slice a0 l.length cap) l) := ha
  have Hb : Hid (RowIs w (.slice b0 m.length cap') m) := hb
  clear ha hb
  go_enter Tryz.func80, Tryz.ntmps80
  go_wp2_with fail
  go_loopw [13] (fun i wr => ∃ j : Nat, j ≤ l.length ∧ j ≤ m.length ∧ i = .int .i64 j ∧ Hid (cR l m = cR (l.drop j) (m.drop j)) ∧ Grown w wr) (fun i _ => l.length - (intOf i).toNat)
  case atStart => exact ⟨0, by omega, by omega, rfl, rfl, Grown.refl _⟩
  case round =>
    obtain ⟨j, hj1, hj2, rfl, hc, hG⟩ := hrel
    have hB := hG.below
    have HG : Hid (Grown w wr) := hG
    clear hG
    by_cases k1 : j < l.length
    · obtain ⟨b, o, rfl, x1, x2, x3, hbl⟩ := (Ha.out.on hB).at j k1
      have I1 : (j : Int) < (l.length : Int) := by omega
      by_cases k2 : j < m.length
      · obtain ⟨b', o', rfl, y1, y2, y3, hbl'⟩ := (Hb.out.on hB).at j k2
        have I2 : (j : Int) < (m.length : Int) := by omega
        have I3 : ¬ (m.length : Int) ≤ (j : Int) := by omega
        have HS : Hid (cR (l.drop j) (m.drop j) = if cVal l[j] m[j] = 0 then cR (l.drop (j + 1)) (m.drop (j + 1)) else cVal l[j] m[j]) := cR_step k1 k2
        generalize l[j] = x at *
        generalize m[j] = y at *
        clear hB
        go_wp2_with fail
        refine (valueCompareG x.1 x.2.1 x.2.2 y.1 y.2.1 y.2.2 _).mono ?_
        rintro e w2 ⟨rfl, hb2⟩
        have hb3 : Hid (Grown w w2) := HG.out.trans (grown_two.trans hb2)
        clear hb2 HG x1 x2 x3 y1 y2 y3
        have HC : Hid (cV x.1 x.2.1 x.2.2 y.1 y.2.1 y.2.2 = cVal x y) := rfl
        generalize cV x.1 x.2.1 x.2.2 y.1 y.2.1 y.2.2 = c at *
        by_cases e0 : c = 0
        · subst e0
          go_wp2_with fail
          go_roundw
          case rel => exact ⟨j + 1, by omega, by omega, by go_num, by show _ = _; rw [hc.out, HS.out, if_pos HC.out.symm], hb3.out⟩
          case measure => simp [intOf]; omega
        · have ee : (c == 0) = false := by simp [e0]
          go_wp2_with fail
          go_ret
          exact ⟨retI (by rw [hc.out, HS.out, if_neg (by rw [← HC.out]; exact e0), ← HC.out]), hb3.out⟩
      · have HE : Hid (cR l m = 1) := by show _ = _; rw [hc.out, cR_end (by omega) hj1 hj2, if_neg (by omega), if_pos (by omega)]
        have I2 : (m.length : Int) ≤ (j : Int) := by omega
        clear hB
        generalize l[j] = x at *
        clear hc
        go_wp2_with fail
        go_ret
        exact ⟨retI HE.out.symm, HG.out.trans grown_one⟩
    · have HE : Hid (cR l m = if l.length < m.length then -1 else if m.length < l.length then 1 else 0) := by show _ = _; rw [hc.out, cR_end (by omega) hj1 hj2]
      clear hc
      obtain rfl : j = l.length := by omega
      have I1 : decide ((l.length : Int) < (l.length : Int)) = false := by simp
      by_cases k3 : l.length < m.length
      · have I2 : (l.length : Int) < (m.length : Int) := by omega
        go_wp2_with fail
        go_ret
        exact ⟨retI (by rw [HE.out, if_pos k3]), HG.out⟩
      · have I2 : ¬ (l.length : Int) < (m.length : Int) := by omega
        go_wp2_with fail
        go_ret
        exact ⟨retI (by rw [HE.out, if_neg k3, if_neg (by omega)]), HG.out⟩

set_option maxHeartbeats 1000000 in
/-- The program's order of rows, the world told. -/
theorem rowCompareG (l m : List Val) (va vb : Value) (w : World) (ha : RowIs w va l) (hb : RowIs w vb m) :
    Calls Tryz.prog 60 #[va, vb] w fun e w' => e = .returned (.int .i64 (cR l m)) ∧ Grown w w' := by
  obtain ⟨b0, cap', eb⟩ := hb.form
  obtain ⟨a0, cap, ea⟩ := ha.form
  subst ea eb
  have q := cmpFuncG l m a0 b0 cap cap' w ha hb
  clear ha hb
  go_enter Tryz.func60, Tryz.ntmps60
  go_wp2_with fail
  refine q.mono ?_
  rintro e w1 ⟨rfl, hb1⟩
  go_wp2_with fail
  go_ret
  exact ⟨rfl, hb1⟩

end Go.Proofs.YtlafokjkpbhckaaGreatDoor
