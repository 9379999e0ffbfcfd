/- Texts of one claim, one behind the other. -/
import Derived.Test.YtaccinophamgmaaDoorPdMem
import Derived.Test.YtaccinophamgmaaDoorPackStep
import Derived.Lib.QuietBelow
import Derived.BigQuiet
import Derived.Test.YtaccinophamgmaaDoorOn
/- What pred.Holds answers of predicates in memory: a column, how two values stand, all and one of the parts. -/
namespace Go.Proofs.YtaccinophamgmaaDoor
open Go.RowKit
set_option maxRecDepth 100000
set_option linter.unusedVariables false

/-- A value as a value. -/
def vv (v : Val) : Value := .agg #[.int .i64 v.1, .int .i64 v.2.1, .string v.2.2]
set_option maxHeartbeats 1000000 in
theorem predColumn (r : List Val) (rv : Value) (c : Int) (w : World) (hr : RowIs w rv r) :
    Calls Tryd.prog 56 #[rv, .int .i64 c] w fun e w' => e = .returned (vv (colR r c)) ∧ Below w.heap.size w w' := by
  obtain ⟨a0, cap0, rfl⟩ := hr.form
  have la := hr.le
  unfold maxLen at la
  by_cases k0 : c < 0
  · have E : Hid (colR r c = nul) := by show colR r c = nul; unfold colR; rw [if_neg (by omega)]
    clear hr
    go_enter Tryd.func56, Tryd.ntmps56
    go_wp2_with fail
    exact bodyPost_ret (v := .agg #[.int .i64 0, .int .i64 0, .string ⟨#[]⟩]) (by simp [results, Tryd.results56, go_sem]) rfl ⟨by rw [E.out]; rfl, one_box⟩
  · by_cases k1 : c < (r.length : Int)
    · have hl : c.toNat < r.length := by omega
      obtain ⟨b, o, rfl, x1, x2, x3, hb⟩ := hr.at c.toNat hl
      have E : Hid (colR r c = r[c.toNat]) := by show colR r c = _; unfold colR; rw [if_pos (by omega), List.getD_eq_getElem?_getD, List.getElem?_eq_getElem hl]; rfl
      have I4 : 0 ≤ c := by omega
      clear hr
      generalize r[c.toNat] = x at *
      go_enter Tryd.func56, Tryd.ntmps56
      go_wp2_with fail
      exact bodyPost_ret (v := .agg #[.int .i64 x.1, .int .i64 x.2.1, .string x.2.2]) (by simp [results, Tryd.results56, go_sem]) rfl ⟨by rw [E.out]; rfl, one_box⟩
    · have I3 : (r.length : Int) ≤ c := by omega
      have E : Hid (colR r c = nul) := by show colR r c = nul; unfold colR; rw [if_pos (by omega), List.getD_eq_getElem?_getD, List.getElem?_eq_none (by omega)]; rfl
      clear hr
      go_enter Tryd.func56, Tryd.ntmps56
      go_wp2_with fail
      exact bodyPost_ret (v := .agg #[.int .i64 0, .int .i64 0, .string ⟨#[]⟩]) (by simp [results, Tryd.results56, go_sem]) rfl ⟨by rw [E.out]; rfl, one_box⟩
theorem vv_ne {a b : Int} (h : a ≠ b) : (a == b) = false := by simp [h]
set_option maxHeartbeats 2000000 in
theorem predAgainst (a b : Val) (o : Int) (w : World) :
    Calls Tryd.prog 55 #[vv a, .int .i64 o, vv b] w fun e w' => e = .returned (.bool (ag a o b)) ∧ Below w.heap.size w w' := by
  obtain ⟨k, n, s⟩ := a
  obtain ⟨k', n', s'⟩ := b
  unfold vv
  by_cases h1 : k = k'
  · by_cases h0 : k = 0
    · subst h1 h0
      go_enter Tryd.func55, Tryd.ntmps55
      go_wp2_with fail
      go_ret
      exact ⟨rfl, two_boxes⟩
    · subst h1
      have E : Hid (ag (k, n, s) o (k, n', s') = agO o (cV k n s k n' s')) := by
        show ag _ _ _ = _
        unfold ag
        rw [if_pos ⟨rfl, h0⟩]; rfl
      have b0 : (k == 0) = false := vv_ne h0
      clear h0
      have q : ∀ W, Calls Tryd.prog 68 #[.agg #[.int .i64 k, .int .i64 n, .string s], .agg #[.int .i64 k, .int .i64 n', .string s']] W fun e w' => e = .returned (.int .i64 (cV k n s k n' s')) ∧ Below W.heap.size W w' := valueCompare k n s k n' s'
      have Q : Hid (∀ W, Calls Tryd.prog 68 #[.agg #[.int .i64 k, .int .i64 n, .string s], .agg #[.int .i64 k, .int .i64 n', .string s']] W fun e w' => e = .returned (.int .i64 (cV k n s k n' s')) ∧ Below W.heap.size W w') := q
      clear q
      have hc := cV_sq k n s k n' s'
      generalize cV k n s k n' s' = c at *
      generalize ag (k, n, s) o (k, n', s') = res at *
      go_enter Tryd.func55, Tryd.ntmps55
      go_wp2_with fail
      refine (Q.out _).mono ?_
      rintro e w1 ⟨rfl, hb1⟩
      have B1 : Hid (Below w.heap.size w w1) := two_boxes.trans (hb1.mono (by simp; omega))
      clear Q hb1
      by_cases o1 : o = 1
      · subst o1
        go_wp2_with fail
        go_ret
        exact ⟨retB (by rw [E.out]; rfl), B1.out⟩
      by_cases o2 : o = 2
      · subst o2
        go_wp2_with fail
        go_ret
        exact ⟨retB (by rw [E.out]; by_cases hz : c = 0 <;> simp [agO, hz]), B1.out⟩
      by_cases o3 : o = 3
      · subst o3
        go_wp2_with fail
        go_ret
        exact ⟨retB (by rw [E.out]; simp [agO]), B1.out⟩
      by_cases o4 : o = 4
      · subst o4
        go_wp2_with fail
        go_ret
        exact ⟨retB (by rw [E.out]; simp [agO]), B1.out⟩
      by_cases o5 : o = 5
      · subst o5
        go_wp2_with fail
        go_ret
        exact ⟨retB (by rw [E.out]; simp [agO]), B1.out⟩
      by_cases o6 : o = 6
      · subst o6
        go_wp2_with fail
        go_ret
        exact ⟨retB (by rw [E.out]; simp [agO]), B1.out⟩
      have b1 := vv_ne o1
      have b2 := vv_ne o2
      have b3 := vv_ne o3
      have b4 := vv_ne o4
      have b5 := vv_ne o5
      have b6 := vv_ne o6
      have EF : Hid (res = false) := by show res = false; rw [E.out]; simp [agO, o1, o2, o3, o4, o5, o6]
      clear o1 o2 o3 o4 o5 o6
      go_wp2_with fail
      go_ret
      exact ⟨retB (by rw [EF.out]), B1.out⟩
  · have E : Hid (ag (k, n, s) o (k', n', s') = false) := by
      show ag _ _ _ = _
      unfold ag
      rw [if_neg (fun h => h1 h.1)]
    generalize ag (k, n, s) o (k', n', s') = res at *
    have b1 : (k == k') = false := vv_ne h1
    go_enter Tryd.func55, Tryd.ntmps55
    go_wp2_with fail
    go_ret
    exact ⟨retB (by rw [E.out]), two_boxes⟩
set_option maxHeartbeats 2000000 in
/-- Of a list of predicates: is one of them so? -/
theorem predIndex (g : Nat) (c0 : Value) (t : Pd → Bool) (F : Nat → Prop) (n : Nat) (sv : Value) (l : List Pd) (w : World) (h : PdL F n w sv l) (eg : ∀ args w, (callFunc g args).run Tryd.prog w = .ok (.enter g args) w)
    (hf : ∀ W, Below w.heap.size w W → ∀ (i : Nat) (hi : i < l.length) (m : Nat) (s : Value), n = m + 1 → PdL F m W s l[i].l → Calls Tryd.prog g #[pv l[i] s, c0] W fun e w' => e = .returned (.bool (t l[i])) ∧ Below W.heap.size W w') :
    Calls Tryd.prog 74 #[sv, .func (.func g) #[] #[c0]] w fun e w' => ∃ k : Int, e = .returned (.int .i64 k) ∧ decide (0 ≤ k) = l.any t ∧ Below w.heap.size w w' := by
  obtain ⟨a0, cap0, rfl⟩ := h.form
  have la := h.le
  unfold maxLen at la
  have H : Hid (PdL F n w (.slice a0 l.length cap0) l) := h
  have HF : Hid (∀ W, Below w.heap.size w W → ∀ (i : Nat) (hi : i < l.length) (m : Nat) (s : Value), n = m + 1 → PdL F m W s l[i].l → Calls Tryd.prog g #[pv l[i] s, c0] W fun e w' => e = .returned (.bool (t l[i])) ∧ Below W.heap.size W w') := hf
  clear h hf
  go_enter Tryd.func74, Tryd.ntmps74
  go_wp2_with fail
  go_loopw [8] (fun i wr => ∃ j : Nat, j ≤ l.length ∧ i = .int .i64 j ∧ Hid (∀ k (hk : k < l.length), k < j → t l[k] = false) ∧ Below w.heap.size w wr) (fun i _ => l.length - (intOf i).toNat)
  case atStart => exact ⟨0, by omega, rfl, fun k _ h => by omega, Below.refl _ _⟩
  case round =>
    obtain ⟨j, hj, rfl, hN, hB⟩ := hrel
    by_cases hlt : j < l.length
    · obtain ⟨m, b, o, s, hm, rfl, ⟨x0, x1, x2, x3, x4, x5, x6, x7⟩, hp, hbs⟩ := (H.out.on hB).at j hlt
      have q : Hid (Calls Tryd.prog g #[pv l[j] s, c0] wr fun e w' => e = .returned (.bool (t l[j])) ∧ Below wr.heap.size wr w') := HF.out wr hB j hlt m s hm hp
      have I1 : (j : Int) < (l.length : Int) := by omega
      have HT : Hid (t l[j] = true → l.any t = true) := fun h => List.any_eq_true.2 ⟨l[j], List.getElem_mem hlt, h⟩
      have HS : Hid (t l[j] = false → ∀ k (hk : k < l.length), k < j + 1 → t l[k] = false) := fun h k hk hkj => by
        by_cases e : k = j
        · subst e; exact h
        · exact hN.out k hk (by omega)
      clear hp hN hm
      generalize t l[j] = tj at *
      generalize l[j] = p at *
      go_wp2_with fail
      refine q.out.mono ?_
      rintro e w1 ⟨rfl, hb1⟩
      have hB1 : Hid (Below w.heap.size w w1) := hB.trans (hb1.mono hB.size)
      clear hb1 q x0 x1 x2 x3 x4 x5 x6 x7
      cases tj
      · have F1 := HS.out rfl
        clear HT HS
        go_wp2_with fail
        go_roundw
        case rel => exact ⟨j + 1, by omega, by go_num, F1, hB1.out⟩
        case measure => simp [intOf]; omega
      · have F1 : Hid (l.any t = true) := HT.out rfl
        clear HT HS
        go_wp2_with fail
        go_ret
        exact ⟨j, rfl, by rw [F1.out]; simp, hB1.out⟩
    · obtain rfl : j = l.length := by omega
      have I1 : ¬ (l.length : Int) < (l.length : Int) := by omega
      have F1 : Hid (l.any t = false) := by
        show l.any t = false
        rw [List.any_eq_false]
        intro x hx
        obtain ⟨i, hi, rfl⟩ := List.getElem_of_mem hx
        rw [hN.out i hi hi]; decide
      clear hN
      go_wp2_with fail
      go_ret
      exact ⟨-1, rfl, by rw [F1.out]; rfl, hB⟩
theorem predSome (g : Nat) (c0 : Value) (t : Pd → Bool) (F : Nat → Prop) (n : Nat) (sv : Value) (l : List Pd) (w : World) (h : PdL F n w sv l) (eg : ∀ args w, (callFunc g args).run Tryd.prog w = .ok (.enter g args) w)
    (hf : ∀ W, Below w.heap.size w W → ∀ (i : Nat) (hi : i < l.length) (m : Nat) (s : Value), n = m + 1 → PdL F m W s l[i].l → Calls Tryd.prog g #[pv l[i] s, c0] W fun e w' => e = .returned (.bool (t l[i])) ∧ Below W.heap.size W w') :
    Calls Tryd.prog 57 #[sv, .func (.func g) #[] #[c0]] w fun e w' => e = .returned (.bool (l.any t)) ∧ Below w.heap.size w w' := by
  have q := predIndex g c0 t F n sv l w h eg hf
  clear h hf eg
  go_enter Tryd.func57, Tryd.ntmps57
  go_wp2_with fail
  refine q.mono ?_
  rintro e w1 ⟨k, rfl, hk, hb⟩
  have HK : Hid (decide (0 ≤ k) = l.any t) := hk
  clear hk q
  by_cases h0 : 0 ≤ k
  · go_wp2_with fail
    go_ret
    exact ⟨retB (by rw [← HK.out] <;> simp [h0]), hb⟩
  · go_wp2_with fail
    go_ret
    exact ⟨retB (by rw [← HK.out] <;> simp [h0]), hb⟩
end Go.Proofs.YtaccinophamgmaaDoor
/- What pred.Holds answers of predicates in memory, of whatever depth. -/
namespace Go.Proofs.YtaccinophamgmaaDoor
open Go.RowKit Go.Sort
set_option maxRecDepth 100000
set_option linter.unusedVariables false

/-- Predicates no deeper than n hold of a row just where they do. -/
def HoldsAt (n : Nat) : Prop := ∀ (F : Nat → Prop) (p : Pd) (s rv : Value) (r : List Val) (w : World), PdL F n w s p.l → RowIs w rv r → Calls Tryd.prog 34 #[pv p s, rv] w fun e w' => e = .returned (.bool (hd p r)) ∧ Below w.heap.size w w'
/-- The two boxes that a call lays: the predicate, the row. -/
theorem hold_boxes (w : World) (k c o d vk vn : Int) (vs : ByteArray) (s rv : Value) (W : World) (hW : W = (w.alloc (.cells #[.int .i64 k, .int .i64 c, .int .i64 o, .int .i64 d, .int .i64 vk, .int .i64 vn, .string vs, s] 33)).alloc (.cells #[rv] 50)) :
    PdAt W w.heap.size 0 ⟨k, c, o, d, (vk, vn, vs), []⟩ s ∧ W.cell? ⟨w.heap.size + 1, 0, none⟩ = some rv ∧ Below w.heap.size w W ∧ W.heap.size = w.heap.size + 2 := by
  have h1 := PdAt.box w ⟨k, c, o, d, (vk, vn, vs), []⟩ s 33
  have hk : W.heap[w.heap.size]? = (w.alloc (.cells (hc ⟨k, c, o, d, (vk, vn, vs), []⟩ s).toArray 33)).heap[w.heap.size]? := by
    rw [hW]
    exact (one_box (w := w.alloc _)).block _ (by simp)
  refine ⟨h1.kept hk, ?_, by rw [hW]; exact two_boxes, by rw [hW]; simp⟩
  rw [hW]
  rw [World.cell?_alloc_at _ _ _ _ (by simp)]
  rfl
set_option maxHeartbeats 2000000 in
theorem holds1 (r : List Val) (a0 : Option Addr) (n0 cap0 : Nat) (s : Value) (c o d vk vn : Int) (vs : ByteArray) (w : World) (res : Bool) (hr : RowIs w (.slice a0 n0 cap0) r) (E : Hid (res = ag (colR r c) o (vk, vn, vs))) :
    Calls Tryd.prog 34 #[.agg #[.int .i64 1, .int .i64 c, .int .i64 o, .int .i64 d, .int .i64 vk, .int .i64 vn, .string vs, s], (.slice a0 n0 cap0)] w fun e w' => e = .returned (.bool res) ∧ Below w.heap.size w w' := by
  have Hr : Hid (RowIs w (.slice a0 n0 cap0) r) := hr
  have HW : Hid (∀ W, W = (w.alloc (.cells #[.int .i64 1, .int .i64 c, .int .i64 o, .int .i64 d, .int .i64 vk, .int .i64 vn, .string vs, s] 33)).alloc (.cells #[(.slice a0 n0 cap0)] 50) → _) := hold_boxes w 1 c o d vk vn vs s (.slice a0 n0 cap0)
  clear hr
  go_enter Tryd.func34, Tryd.ntmps34
  go_wp2_with fail
  obtain ⟨W, hW⟩ : ∃ W, W = (w.alloc (.cells #[.int .i64 1, .int .i64 c, .int .i64 o, .int .i64 d, .int .i64 vk, .int .i64 vn, .string vs, s] 33)).alloc (.cells #[(.slice a0 n0 cap0)] 50) := ⟨_, rfl⟩
  rw [← hW]
  obtain ⟨⟨x0, x1, x2, x3, x4, x5, x6, x7⟩, y0, hB, hz⟩ := HW.out W hW
  have B1 : Hid (Below w.heap.size w W) := hB
  have R1 : Hid (RowIs W (.slice a0 n0 cap0) r) := Hr.out.on hB
  simp only [Nat.zero_add] at x1 x2 x3 x4 x5 x6 x7
  clear HW hW hB Hr
  have q1 : Hid (∀ d' os, Calls Tryd.prog 56 #[.slice a0 n0 cap0, .int .i64 c] (grow (redrawn W d') os) fun e w'' => e = .returned (vv (colR r c)) ∧ ∃ p : Regrown, w'' = grow (redrawn W p.d) p.os) :=
    fun d' os => Calls.regrown_of (predColumn r (.slice a0 n0 cap0) c _ (R1.out.on (below_regrown W d' os)))
  have q2 : Hid (∀ d' os, Calls Tryd.prog 55 #[vv (colR r c), .int .i64 o, .agg #[.int .i64 vk, .int .i64 vn, .string vs]] (grow (redrawn W d') os) fun e w'' => e = .returned (.bool res) ∧ ∃ p : Regrown, w'' = grow (redrawn W p.d) p.os) :=
    fun d' os => by rw [E.out]; exact Calls.regrown_of (predAgainst (colR r c) (vk, vn, vs) o _)
  have g1 := fun d os => cell_regrown x1 d os
  have g2 := fun d os => cell_regrown x2 d os
  have g4 := fun d os => cell_regrown x4 d os
  have g5 := fun d os => cell_regrown x5 d os
  have g6 := fun d os => cell_regrown x6 d os
  have g7 := fun d os => cell_regrown y0 d os
  clear x0 x1 x2 x3 x4 x5 x6 x7 y0
  generalize vv (colR r c) = u at *
  refine wp_region_quiet_below (by kernel_rfl) (by kernel_rfl) ?_
  iterate 4 (go_big_quiet_step (exact q1.out _ _))
  iterate 6 (go_big_quiet_step (exact q2.out _ _))
  refine wpQuiet_nil ?_
  intro w6 hw6
  obtain ⟨p6, hw6⟩ := hw6
  have hb6 : Hid (Below w.heap.size w w6) := by show Below _ _ _; rw [hw6]; exact B1.out.trans ((below_regrown W _ _).mono B1.out.size)
  clear hw6 g1 g2 g4 g5 g6 g7 q1 q2
  go_wp2_with fail
  go_ret
  exact ⟨rfl, hb6.out⟩
set_option maxHeartbeats 2000000 in
theorem holds2 (r : List Val) (a0 : Option Addr) (n0 cap0 : Nat) (s : Value) (c o d vk vn : Int) (vs : ByteArray) (w : World) (res : Bool) (hr : RowIs w (.slice a0 n0 cap0) r) (E : Hid (res = ag (colR r c) o (colR r d))) :
    Calls Tryd.prog 34 #[.agg #[.int .i64 2, .int .i64 c, .int .i64 o, .int .i64 d, .int .i64 vk, .int .i64 vn, .string vs, s], .slice a0 n0 cap0] w fun e w' => e = .returned (.bool res) ∧ Below w.heap.size w w' := by
  have Hr : Hid (RowIs w (.slice a0 n0 cap0) r) := hr
  have HW : Hid (∀ W, W = (w.alloc (.cells #[.int .i64 2, .int .i64 c, .int .i64 o, .int .i64 d, .int .i64 vk, .int .i64 vn, .string vs, s] 33)).alloc (.cells #[(.slice a0 n0 cap0)] 50) → _) := hold_boxes w 2 c o d vk vn vs s (.slice a0 n0 cap0)
  clear hr
  go_enter Tryd.func34, Tryd.ntmps34
  go_wp2_with fail
  obtain ⟨W, hW⟩ : ∃ W, W = (w.alloc (.cells #[.int .i64 2, .int .i64 c, .int .i64 o, .int .i64 d, .int .i64 vk, .int .i64 vn, .string vs, s] 33)).alloc (.cells #[(.slice a0 n0 cap0)] 50) := ⟨_, rfl⟩
  rw [← hW]
  obtain ⟨⟨x0, x1, x2, x3, x4, x5, x6, x7⟩, y0, hB, hz⟩ := HW.out W hW
  have B1 : Hid (Below w.heap.size w W) := hB
  have R1 : Hid (RowIs W (.slice a0 n0 cap0) r) := Hr.out.on hB
  simp only [Nat.zero_add] at x1 x2 x3 x4 x5 x6 x7
  clear HW hW hB Hr
  have q1 : Hid (∀ d' os, Calls Tryd.prog 56 #[(.slice a0 n0 cap0), .int .i64 c] (grow (redrawn W d') os) fun e w'' => e = .returned (vv (colR r c)) ∧ ∃ p : Regrown, w'' = grow (redrawn W p.d) p.os) :=
    fun d' os => Calls.regrown_of (predColumn r (.slice a0 n0 cap0) c _ (R1.out.on (below_regrown W d' os)))
  have q3 : Hid (∀ d' os, Calls Tryd.prog 56 #[(.slice a0 n0 cap0), .int .i64 d] (grow (redrawn W d') os) fun e w'' => e = .returned (vv (colR r d)) ∧ ∃ p : Regrown, w'' = grow (redrawn W p.d) p.os) :=
    fun d' os => Calls.regrown_of (predColumn r (.slice a0 n0 cap0) d _ (R1.out.on (below_regrown W d' os)))
  have q2 : Hid (∀ d' os, Calls Tryd.prog 55 #[vv (colR r c), .int .i64 o, vv (colR r d)] (grow (redrawn W d') os) fun e w'' => e = .returned (.bool res) ∧ ∃ p : Regrown, w'' = grow (redrawn W p.d) p.os) :=
    fun d' os => by rw [E.out]; exact Calls.regrown_of (predAgainst (colR r c) (colR r d) o _)
  have g1 := fun d os => cell_regrown x1 d os
  have g2 := fun d os => cell_regrown x2 d os
  have g3 := fun d os => cell_regrown x3 d os
  have g7 := fun d os => cell_regrown y0 d os
  clear x0 x1 x2 x3 x4 x5 x6 x7 y0
  generalize vv (colR r c) = u at *
  generalize vv (colR r d) = u' at *
  refine wp_region_quiet_below (by kernel_rfl) (by kernel_rfl) ?_
  iterate 4 (go_big_quiet_step (exact q1.out _ _))
  iterate 6 (go_big_quiet_step (exact q3.out _ _))
  iterate 2 (go_big_quiet_step (exact q2.out _ _))
  refine wpQuiet_nil ?_
  intro w6 hw6
  obtain ⟨p6, hw6⟩ := hw6
  have hb6 : Hid (Below w.heap.size w w6) := by show Below _ _ _; rw [hw6]; exact B1.out.trans ((below_regrown W _ _).mono B1.out.size)
  clear hw6 g1 g2 g3 g7 q1 q2 q3
  go_wp2_with fail
  go_ret
  exact ⟨rfl, hb6.out⟩

set_option maxHeartbeats 2000000 in
theorem holds3 (r : List Val) (a0 : Option Addr) (n0 cap0 : Nat) (s : Value) (c o d vk vn : Int) (vs : ByteArray) (w : World) (res : Bool) (hr : RowIs w (.slice a0 n0 cap0) r) (E : Hid (res = decide ((colR r c).1 = 0))) :
    Calls Tryd.prog 34 #[.agg #[.int .i64 3, .int .i64 c, .int .i64 o, .int .i64 d, .int .i64 vk, .int .i64 vn, .string vs, s], .slice a0 n0 cap0] w fun e w' => e = .returned (.bool res) ∧ Below w.heap.size w w' := by
  have Hr : Hid (RowIs w (.slice a0 n0 cap0) r) := hr
  have HW : Hid (∀ W, W = (w.alloc (.cells #[.int .i64 3, .int .i64 c, .int .i64 o, .int .i64 d, .int .i64 vk, .int .i64 vn, .string vs, s] 33)).alloc (.cells #[(.slice a0 n0 cap0)] 50) → _) := hold_boxes w 3 c o d vk vn vs s (.slice a0 n0 cap0)
  clear hr
  go_enter Tryd.func34, Tryd.ntmps34
  go_wp2_with fail
  obtain ⟨W, hW⟩ : ∃ W, W = (w.alloc (.cells #[.int .i64 3, .int .i64 c, .int .i64 o, .int .i64 d, .int .i64 vk, .int .i64 vn, .string vs, s] 33)).alloc (.cells #[(.slice a0 n0 cap0)] 50) := ⟨_, rfl⟩
  rw [← hW]
  obtain ⟨⟨x0, x1, x2, x3, x4, x5, x6, x7⟩, y0, hB, hz⟩ := HW.out W hW
  have B1 : Hid (Below w.heap.size w W) := hB
  have R1 : Hid (RowIs W (.slice a0 n0 cap0) r) := Hr.out.on hB
  simp only [Nat.zero_add] at x1 x2 x3 x4 x5 x6 x7
  clear HW hW hB Hr
  have q := predColumn r (.slice a0 n0 cap0) c W R1.out
  generalize colR r c = z at *
  obtain ⟨z0, z1, z2⟩ := z
  have E' : Hid (res = decide (z0 = 0)) := E
  unfold vv at q
  simp only at q
  have hfield : ∀ W, Sem.run Tryd.prog (Instr.field 30 (.agg #[.int .i64 z0, .int .i64 z1, .string z2]) 0) W = .ok (.int .i64 z0) W := fun _ => by kernel_rfl
  clear E
  go_wp2_with fail
  refine q.mono ?_
  rintro e w1 ⟨rfl, hb1⟩
  have hb6 : Hid (Below w.heap.size w w1) := B1.out.trans (hb1.mono B1.out.size)
  clear hb1 q
  by_cases h0 : z0 = 0
  · subst h0
    go_wp2_with fail
    go_ret
    exact ⟨retB (by rw [E'.out]; rfl), hb6.out⟩
  · have b0 := vv_ne h0
    have E2 : Hid (res = false) := by show res = false; rw [E'.out]; simp [h0]
    clear h0
    go_wp2_with fail
    go_ret
    exact ⟨retB (by rw [E2.out]), hb6.out⟩
theorem cell_lt' {w : World} {B : Nat} {v : Value} (h : w.cell? ⟨B, 0, none⟩ = some v) : B < w.heap.size := World.block_lt_of_cell? _ _ h

set_option maxHeartbeats 1000000 in
theorem holdsFn1 (n : Nat) (ih : HoldsAt n) (F : Nat → Prop) (q : Pd) (s rv : Value) (r : List Val) (B : Nat) (w : World) (hp : PdL F n w s q.l) (hr : RowIs w rv r) (hx : w.cell? ⟨B, 0, none⟩ = some rv) :
    Calls Tryd.prog 58 #[pv q s, .pointer (some ⟨B, 0, none⟩)] w fun e w' => e = .returned (.bool (!hd q r)) ∧ Below w.heap.size w w' := by
  have HQ : Hid (∀ W, Below w.heap.size w W → Calls Tryd.prog 34 #[.agg #[.int .i64 q.k, .int .i64 q.c, .int .i64 q.o, .int .i64 q.d, .int .i64 q.v.1, .int .i64 q.v.2.1, .string q.v.2.2, s], rv] W fun e w' => e = .returned (.bool (hd q r)) ∧ Below W.heap.size W w') := fun W hW => ih F q s rv r W (hp.on hW) (hr.on hW)
  obtain ⟨a0, cap0, rfl⟩ := hr.form
  have HX : Hid (∀ o, (w.alloc o).cell? ⟨B, 0, none⟩ = some (.slice a0 r.length cap0)) := fun o => cell_on hx one_box
  have hlt := cell_lt' hx
  unfold pv
  clear hp hr ih hx
  go_enter Tryd.func58, Tryd.ntmps58
  have hx1 := HX.out (.cells #[.int .i64 q.k, .int .i64 q.c, .int .i64 q.o, .int .i64 q.d, .int .i64 q.v.1, .int .i64 q.v.2.1, .string q.v.2.2, s] 33)
  go_wp2_with fail
  refine (HQ.out _ one_box).mono ?_
  rintro e w1 ⟨rfl, hb1⟩
  go_wp2_with fail
  go_ret
  exact ⟨rfl, one_box.trans (hb1.mono (by simp))⟩

set_option maxHeartbeats 1000000 in
theorem holdsFn2 (n : Nat) (ih : HoldsAt n) (F : Nat → Prop) (q : Pd) (s rv : Value) (r : List Val) (B : Nat) (w : World) (hp : PdL F n w s q.l) (hr : RowIs w rv r) (hx : w.cell? ⟨B, 0, none⟩ = some rv) :
    Calls Tryd.prog 59 #[pv q s, .pointer (some ⟨B, 0, none⟩)] w fun e w' => e = .returned (.bool (hd q r)) ∧ Below w.heap.size w w' := by
  have HQ : Hid (∀ W, Below w.heap.size w W → Calls Tryd.prog 34 #[.agg #[.int .i64 q.k, .int .i64 q.c, .int .i64 q.o, .int .i64 q.d, .int .i64 q.v.1, .int .i64 q.v.2.1, .string q.v.2.2, s], rv] W fun e w' => e = .returned (.bool (hd q r)) ∧ Below W.heap.size W w') := fun W hW => ih F q s rv r W (hp.on hW) (hr.on hW)
  obtain ⟨a0, cap0, rfl⟩ := hr.form
  have HX : Hid (∀ o, (w.alloc o).cell? ⟨B, 0, none⟩ = some (.slice a0 r.length cap0)) := fun o => cell_on hx one_box
  have hlt := cell_lt' hx
  unfold pv
  clear hp hr ih hx
  go_enter Tryd.func59, Tryd.ntmps59
  have hx1 := HX.out (.cells #[.int .i64 q.k, .int .i64 q.c, .int .i64 q.o, .int .i64 q.d, .int .i64 q.v.1, .int .i64 q.v.2.1, .string q.v.2.2, s] 33)
  go_wp2_with fail
  refine (HQ.out _ one_box).mono ?_
  rintro e w1 ⟨rfl, hb1⟩
  go_wp2_with fail
  go_ret
  exact ⟨rfl, one_box.trans (hb1.mono (by simp))⟩

set_option maxHeartbeats 2000000 in
theorem holds4 (r : List Val) (a0 : Option Addr) (n0 cap0 : Nat) (s : Value) (c o d vk vn : Int) (vs : ByteArray) (w : World) (res : Bool) (hr : RowIs w (.slice a0 n0 cap0) r) (n : Nat) (ih : ∀ m, n = m + 1 → HoldsAt m) (F : Nat → Prop) (l : List Pd) (hp : PdL F n w s l) (E : Hid (res = !l.any fun q => !hd q r)) :
    Calls Tryd.prog 34 #[.agg #[.int .i64 4, .int .i64 c, .int .i64 o, .int .i64 d, .int .i64 vk, .int .i64 vn, .string vs, s], .slice a0 n0 cap0] w fun e w' => e = .returned (.bool res) ∧ Below w.heap.size w w' := by
  have Hr : Hid (RowIs w (.slice a0 n0 cap0) r) := hr
  have HW : Hid (∀ W, W = (w.alloc (.cells #[.int .i64 4, .int .i64 c, .int .i64 o, .int .i64 d, .int .i64 vk, .int .i64 vn, .string vs, s] 33)).alloc (.cells #[(.slice a0 n0 cap0)] 50) → _) := hold_boxes w 4 c o d vk vn vs s (.slice a0 n0 cap0)
  clear hr
  go_enter Tryd.func34, Tryd.ntmps34
  go_wp2_with fail
  obtain ⟨W, hW⟩ : ∃ W, W = (w.alloc (.cells #[.int .i64 4, .int .i64 c, .int .i64 o, .int .i64 d, .int .i64 vk, .int .i64 vn, .string vs, s] 33)).alloc (.cells #[(.slice a0 n0 cap0)] 50) := ⟨_, rfl⟩
  rw [← hW]
  obtain ⟨⟨x0, x1, x2, x3, x4, x5, x6, x7⟩, y0, hB, hz⟩ := HW.out W hW
  have B1 : Hid (Below w.heap.size w W) := hB
  have R1 : Hid (RowIs W (.slice a0 n0 cap0) r) := Hr.out.on hB
  simp only [Nat.zero_add] at x1 x2 x3 x4 x5 x6 x7
  clear HW hW hB Hr
  have P1 : Hid (PdL F n W s l) := hp.on B1.out
  obtain ⟨a1, cap1, hs⟩ := hp.form
  have q := predSome 58 (.pointer (some ⟨w.heap.size + 1, 0, none⟩)) (fun q => !hd q r) F n s l W P1.out (fun _ _ => by kernel_rfl) (fun V hV i hi m s' hm hp' => holdsFn1 m (ih m hm) F l[i] s' (.slice a0 n0 cap0) r _ V hp' (R1.out.on hV) (cell_on y0 hV))
  have E1 : Hid _ := E
  clear E hp ih P1
  generalize l.any (fun q => !hd q r) = b at *
  subst hs
  go_wp2_with fail
  refine q.mono ?_
  rintro e w1 ⟨rfl, hb1⟩
  have hb6 : Hid (Below w.heap.size w w1) := B1.out.trans (hb1.mono B1.out.size)
  clear hb1 q
  go_wp2_with fail
  go_ret
  exact ⟨retB (by rw [E1.out]), hb6.out⟩

set_option maxHeartbeats 2000000 in
theorem holds5 (r : List Val) (a0 : Option Addr) (n0 cap0 : Nat) (s : Value) (c o d vk vn : Int) (vs : ByteArray) (w : World) (res : Bool) (hr : RowIs w (.slice a0 n0 cap0) r) (n : Nat) (ih : ∀ m, n = m + 1 → HoldsAt m) (F : Nat → Prop) (l : List Pd) (hp : PdL F n w s l) (E : Hid (res = l.any fun q => hd q r)) :
    Calls Tryd.prog 34 #[.agg #[.int .i64 5, .int .i64 c, .int .i64 o, .int .i64 d, .int .i64 vk, .int .i64 vn, .string vs, s], .slice a0 n0 cap0] w fun e w' => e = .returned (.bool res) ∧ Below w.heap.size w w' := by
  have Hr : Hid (RowIs w (.slice a0 n0 cap0) r) := hr
  have HW : Hid (∀ W, W = (w.alloc (.cells #[.int .i64 5, .int .i64 c, .int .i64 o, .int .i64 d, .int .i64 vk, .int .i64 vn, .string vs, s] 33)).alloc (.cells #[(.slice a0 n0 cap0)] 50) → _) := hold_boxes w 5 c o d vk vn vs s (.slice a0 n0 cap0)
  clear hr
  go_enter Tryd.func34, Tryd.ntmps34
  go_wp2_with fail
  obtain ⟨W, hW⟩ : ∃ W, W = (w.alloc (.cells #[.int .i64 5, .int .i64 c, .int .i64 o, .int .i64 d, .int .i64 vk, .int .i64 vn, .string vs, s] 33)).alloc (.cells #[(.slice a0 n0 cap0)] 50) := ⟨_, rfl⟩
  rw [← hW]
  obtain ⟨⟨x0, x1, x2, x3, x4, x5, x6, x7⟩, y0, hB, hz⟩ := HW.out W hW
  have B1 : Hid (Below w.heap.size w W) := hB
  have R1 : Hid (RowIs W (.slice a0 n0 cap0) r) := Hr.out.on hB
  simp only [Nat.zero_add] at x1 x2 x3 x4 x5 x6 x7
  clear HW hW hB Hr
  have P1 : Hid (PdL F n W s l) := hp.on B1.out
  obtain ⟨a1, cap1, hs⟩ := hp.form
  have q := predSome 59 (.pointer (some ⟨w.heap.size + 1, 0, none⟩)) (fun q => hd q r) F n s l W P1.out (fun _ _ => by kernel_rfl) (fun V hV i hi m s' hm hp' => holdsFn2 m (ih m hm) F l[i] s' (.slice a0 n0 cap0) r _ V hp' (R1.out.on hV) (cell_on y0 hV))
  have E1 : Hid _ := E
  clear E hp ih P1
  generalize l.any (fun q => hd q r) = b at *
  subst hs
  go_wp2_with fail
  refine q.mono ?_
  rintro e w1 ⟨rfl, hb1⟩
  have hb6 : Hid (Below w.heap.size w w1) := B1.out.trans (hb1.mono B1.out.size)
  clear hb1 q
  go_wp2_with fail
  go_ret
  exact ⟨retB (by rw [E1.out]), hb6.out⟩

set_option maxHeartbeats 2000000 in
theorem holds6 (r : List Val) (a0 : Option Addr) (n0 cap0 : Nat) (s : Value) (c o d vk vn : Int) (vs : ByteArray) (w : World) (res : Bool) (hr : RowIs w (.slice a0 n0 cap0) r) (n : Nat) (ih : ∀ m, n = m + 1 → HoldsAt m) (F : Nat → Prop) (l : List Pd) (hp : PdL F n w s l) (E : Hid (res = notB (l.map fun q => hd q r))) :
    Calls Tryd.prog 34 #[.agg #[.int .i64 6, .int .i64 c, .int .i64 o, .int .i64 d, .int .i64 vk, .int .i64 vn, .string vs, s], .slice a0 n0 cap0] w fun e w' => e = .returned (.bool res) ∧ Below w.heap.size w w' := by
  have Hr : Hid (RowIs w (.slice a0 n0 cap0) r) := hr
  have HW : Hid (∀ W, W = (w.alloc (.cells #[.int .i64 6, .int .i64 c, .int .i64 o, .int .i64 d, .int .i64 vk, .int .i64 vn, .string vs, s] 33)).alloc (.cells #[(.slice a0 n0 cap0)] 50) → _) := hold_boxes w 6 c o d vk vn vs s (.slice a0 n0 cap0)
  clear hr
  go_enter Tryd.func34, Tryd.ntmps34
  go_wp2_with fail
  obtain ⟨W, hW⟩ : ∃ W, W = (w.alloc (.cells #[.int .i64 6, .int .i64 c, .int .i64 o, .int .i64 d, .int .i64 vk, .int .i64 vn, .string vs, s] 33)).alloc (.cells #[(.slice a0 n0 cap0)] 50) := ⟨_, rfl⟩
  rw [← hW]
  obtain ⟨⟨x0, x1, x2, x3, x4, x5, x6, x7⟩, y0, hB, hz⟩ := HW.out W hW
  have B1 : Hid (Below w.heap.size w W) := hB
  have R1 : Hid (RowIs W (.slice a0 n0 cap0) r) := Hr.out.on hB
  simp only [Nat.zero_add] at x1 x2 x3 x4 x5 x6 x7
  clear HW hW hB Hr
  have P1 : PdL F n W s l := hp.on B1.out
  obtain ⟨a1, cap1, hs⟩ := hp.form
  have la := hp.le
  unfold maxLen at la
  clear hp
  subst hs
  cases l with
  | nil =>
    have EF : Hid (res = false) := E.out
    clear E ih P1
    simp only [List.length_nil] at x7 la
    have g7 := fun d os => cell_regrown x7 d os
    clear x0 x1 x2 x3 x4 x5 x6 x7 y0
    go_wp2_with fail
    refine wp_region_quiet_below (by kernel_rfl) (by kernel_rfl) ?_
    iterate 14 (go_big_quiet_step (fail))
    refine wpQuiet_nil ?_
    intro w6 hw6
    obtain ⟨p6, hw6⟩ := hw6
    have hb6 : Hid (Below w.heap.size w w6) := by show Below _ _ _; rw [hw6]; exact B1.out.trans ((below_regrown W _ _).mono B1.out.size)
    clear hw6 g7
    go_wp2_with fail
    go_ret
    exact ⟨retB (by rw [EF.out]), hb6.out⟩
  | cons q l =>
    obtain ⟨m, b, o', s', hm, rfl, ⟨z0, z1, z2, z3, z4, z5, z6, z7⟩, hp', hbs⟩ := P1.at 0 (by simp)
    simp only [Nat.zero_mul, Nat.add_zero, List.getElem_cons_zero] at z0 z1 z2 z3 z4 z5 z6 z7 hp'
    have EF : Hid (res = !hd q r) := E.out
    have q1 : Hid (∀ d' os, Calls Tryd.prog 34 #[.agg #[.int .i64 q.k, .int .i64 q.c, .int .i64 q.o, .int .i64 q.d, .int .i64 q.v.1, .int .i64 q.v.2.1, .string q.v.2.2, s'], .slice a0 n0 cap0] (grow (redrawn W d') os) fun e w'' => e = .returned (.bool (hd q r)) ∧ ∃ p : Regrown, w'' = grow (redrawn W p.d) p.os) :=
      fun d' os => Calls.regrown_of (ih m hm F q s' (.slice a0 n0 cap0) r _ (hp'.on (below_regrown W d' os)) (R1.out.on (below_regrown W d' os)))
    clear E ih P1 hp' hm
    generalize hd q r = bq at *
    have I0 : 0 < ((q :: l).length : Int) := by simp only [List.length_cons]; omega
    have L0 : Hid (0 < (q :: l).length) := by show 0 < (q :: l).length; simp
    generalize (q :: l).length = len at *
    have g0 := fun d os => cell_regrown z0 d os
    have g1 := fun d os => cell_regrown z1 d os
    have g2 := fun d os => cell_regrown z2 d os
    have g3 := fun d os => cell_regrown z3 d os
    have g4 := fun d os => cell_regrown z4 d os
    have g5 := fun d os => cell_regrown z5 d os
    have g6 := fun d os => cell_regrown z6 d os
    have g7 := fun d os => cell_regrown z7 d os
    have g8 := fun d os => cell_regrown x7 d os
    have g9 := fun d os => cell_regrown y0 d os
    clear x0 x1 x2 x3 x4 x5 x6 x7 y0 z0 z1 z2 z3 z4 z5 z6 z7
    go_wp2_with fail
    have D0 : decide ((0 : Int) < (len : Int)) = true := decide_eq_true I0
    have D1 : decide (0 < len) = true := decide_eq_true L0.out
    refine wp_region_quiet_below (by kernel_rfl) (by kernel_rfl) ?_
    iterate 14 (go_big_quiet_step (exact q1.out _ _))
    refine wpQuiet_nil ?_
    intro w6 hw6
    obtain ⟨p6, hw6⟩ := hw6
    have hb6 : Hid (Below w.heap.size w w6) := by show Below _ _ _; rw [hw6]; exact B1.out.trans ((below_regrown W _ _).mono B1.out.size)
    clear hw6 g0 g1 g2 g3 g4 g5 g6 g7 g8 g9 q1
    go_wp2_with fail
    go_ret
    exact ⟨retB (by rw [EF.out]), hb6.out⟩
set_option maxHeartbeats 2000000 in
theorem holdsNo (r : List Val) (a0 : Option Addr) (n0 cap0 : Nat) (s : Value) (c o d vk vn : Int) (vs : ByteArray) (w : World) (res : Bool) (hr : RowIs w (.slice a0 n0 cap0) r) (k : Int) (hk : ¬ (1 ≤ k ∧ k ≤ 6)) (E : Hid (res = false)) :
    Calls Tryd.prog 34 #[.agg #[.int .i64 k, .int .i64 c, .int .i64 o, .int .i64 d, .int .i64 vk, .int .i64 vn, .string vs, s], .slice a0 n0 cap0] w fun e w' => e = .returned (.bool res) ∧ Below w.heap.size w w' := by
  have b1 : (k == 1) = false := vv_ne (by omega)
  have b2 : (k == 2) = false := vv_ne (by omega)
  have b3 : (k == 3) = false := vv_ne (by omega)
  have b4 : (k == 4) = false := vv_ne (by omega)
  have b5 : (k == 5) = false := vv_ne (by omega)
  have b6 : (k == 6) = false := vv_ne (by omega)
  clear hk hr
  go_enter Tryd.func34, Tryd.ntmps34
  go_wp2_with fail
  go_ret
  exact ⟨retB (by rw [E.out]), two_boxes⟩

theorem holdsStep (n : Nat) (ih : ∀ m, n = m + 1 → HoldsAt m) : HoldsAt n := by
  intro F p s rv r w hp hr
  obtain ⟨a0, cap0, rfl⟩ := hr.form
  obtain ⟨k, c, o, d, ⟨vk, vn, vs⟩, l⟩ := p
  have E := hd_eq ⟨k, c, o, d, (vk, vn, vs), l⟩ r
  simp only at E hp
  unfold pv
  simp only
  by_cases k1 : k = 1
  · subst k1; exact holds1 r a0 _ cap0 s c o d vk vn vs w _ hr E
  by_cases k2 : k = 2
  · subst k2; exact holds2 r a0 _ cap0 s c o d vk vn vs w _ hr E
  by_cases k3 : k = 3
  · subst k3; exact holds3 r a0 _ cap0 s c o d vk vn vs w _ hr E
  by_cases k4 : k = 4
  · subst k4
    refine holds4 r a0 _ cap0 s c o d vk vn vs w _ hr n ih F l hp ?_
    rw [E]
    show (l.map fun q => hd q r).all id = !l.any fun q => !hd q r
    rw [List.all_map, List.all_eq_not_any_not]; rfl
  by_cases k5 : k = 5
  · subst k5
    refine holds5 r a0 _ cap0 s c o d vk vn vs w _ hr n ih F l hp ?_
    rw [E]
    show (l.map fun q => hd q r).any id = l.any fun q => hd q r
    simp
  by_cases k6 : k = 6
  · subst k6; exact holds6 r a0 _ cap0 s c o d vk vn vs w _ hr n ih F l hp E
  · refine holdsNo r a0 _ cap0 s c o d vk vn vs w _ hr k (by omega) ?_
    show hd _ _ = false
    rw [E]; simp [k1, k2, k3, k4, k5, k6]
/-- What pred.Holds answers. -/
theorem predHolds : ∀ n, HoldsAt n := by
  intro n
  induction n with
  | zero => exact holdsStep 0 (fun m h => by omega)
  | succ n ih => exact holdsStep (n + 1) (fun m h => (show n = m by omega) ▸ ih)
end Go.Proofs.YtaccinophamgmaaDoor
