/- What the library's sort.Search answers with a closure of two captured boxes. -/
import Derived.Test.YtjpgnohhgkalbaaSlRef
import Derived.Test.YtjpgnohhgkalbaaOwns
import Derived.Test.YtjpgnohhgkalbaaRowCmp
namespace Go.Proofs.Ytjpgnohhgkalbaa
open Go.RowKit Go.Sort
set_option maxRecDepth 100000
/-- Where a search ends: how many places are still false. -/
def Ends (p : Nat → Bool) (n : Nat) (w : World) (e : Ending) (w' : World) : Prop := ∃ k : Nat, e = .returned (.int .i64 k) ∧ k ≤ n ∧ (∀ t, t < k → p t = false) ∧ (∀ t, t < n → k ≤ t → p t = true) ∧ Below w.heap.size w w'
set_option maxHeartbeats 4000000 in
theorem search (g : Nat) (c0 c1 : Value) (n : Nat) (p : Nat → Bool) (w : World) (hn : n ≤ 65536) (eg : ∀ args w, (callFunc g args).run Try.prog w = .ok (.enter g args) w)
    (hf : ∀ W, Below w.heap.size w W → ∀ i : Nat, i < n → Calls Try.prog g #[.int .i64 i, c0, c1] W fun e w' => e = .returned (.bool (p i)) ∧ Below W.heap.size W w')
    (hm : ∀ a b, a ≤ b → b < n → p a = true → p b = true) :
    Calls Try.prog 35 #[.int .i64 n, .func (.func g) #[] #[c0, c1]] w fun e w' => Ends p n w e w' := by
  have HF : Hid (∀ W, Below w.heap.size w W → ∀ i : Nat, i < n → Calls Try.prog g #[.int .i64 i, c0, c1] W fun e w' => e = .returned (.bool (p i)) ∧ Below W.heap.size W w') := hf
  have HM : Hid (∀ a b, a ≤ b → b < n → p a = true → p b = true) := hm
  clear hf hm
  go_enter Try.func35, Try.ntmps35
  go_wp2_with fail
  go_loopw [5, 6] (fun s5 s6 wr => ∃ lo hi : Nat, s5 = .int .i64 lo ∧ s6 = .int .i64 hi ∧ lo ≤ hi ∧ hi ≤ n ∧ Hid (∀ t, t < lo → p t = false) ∧ Hid (∀ t, t < n → hi ≤ t → p t = true) ∧ Below w.heap.size w wr) (fun s5 s6 _ => (intOf s6).toNat - (intOf s5).toNat)
  case atStart => exact ⟨0, n, rfl, rfl, Nat.zero_le _, Nat.le_refl _, fun t h => by omega, fun t _ h => by omega, Below.refl _ _⟩
  case round =>
    obtain ⟨lo, hi, rfl, rfl, h1, h2, hL, hH, hB⟩ := hrel
    by_cases hlt : lo < hi
    · obtain ⟨k, hk⟩ : ∃ k : Nat, k = (lo + hi) / 2 := ⟨_, rfl⟩
      have hk1 : k < n := by omega
      have I1 : (lo : Int) < (hi : Int) := by omega
      have E1 : Hid (((lo : Int) + (hi : Int)) / 2 = (k : Int) ∧ lo ≤ k ∧ k < hi) := ⟨by omega, by omega, by omega⟩
      have q : Hid (Calls Try.prog g #[.int .i64 (((lo : Int) + (hi : Int)) / 2), c0, c1] wr fun e w' => e = .returned (.bool (p k)) ∧ Below wr.heap.size wr w') := by rw [E1.out.1]; exact HF.out wr hB k hk1
      have HS : Hid (p k = false → ∀ t, t < k + 1 → p t = false) := fun h t ht => by
        cases hp : p t with
        | false => rfl
        | true => have := HM.out t k (by omega) hk1 hp; rw [h] at this; cases this
      have HG : Hid (p k = true → ∀ t, t < n → k ≤ t → p t = true) := fun h t ht htk => HM.out k t htk ht h
      clear hk hk1
      generalize p k = c at *
      go_wp2_with fail
      refine q.out.mono ?_
      rintro e w1 ⟨rfl, hb1⟩
      have hB1 : Hid (Below w.heap.size w w1) := hB.trans (hb1.mono hB.size)
      clear hb1 q
      cases c
      · have F : Hid (∀ t, t < k + 1 → p t = false) := HS.out rfl
        clear HS HG hL
        go_wp2_with fail
        go_roundw
        case rel => exact ⟨k + 1, hi, by rw [E1.out.1]; rfl, rfl, by have := E1.out.2; omega, h2, F.out, hH.out, hB1.out⟩
        case measure => rw [E1.out.1]; have := E1.out.2; simp only [intOf]; omega
      · have F : Hid (∀ t, t < n → k ≤ t → p t = true) := HG.out rfl
        clear HS HG hH
        go_wp2_with fail
        go_roundw
        case rel => exact ⟨lo, k, rfl, by rw [E1.out.1], by have := E1.out.2; omega, by have := E1.out.2; omega, hL.out, F.out, hB1.out⟩
        case measure => rw [E1.out.1]; have := E1.out.2; simp only [intOf]; omega
    · obtain rfl : lo = hi := by omega
      have I0 : ¬ (lo : Int) < (lo : Int) := by omega
      clear hlt
      go_wp2_with fail
      go_ret
      exact ⟨lo, rfl, h2, hL.out, hH.out, hB⟩
/-- What a closure over a list and a row is handed. -/
def Boxed (w : World) (b c : Nat) (va vb : Value) : Prop := w.cell? ⟨b, 0, none⟩ = some va ∧ w.cell? ⟨c, 0, none⟩ = some vb
theorem Boxed.on {w w' : World} {b c : Nat} {va vb : Value} (h : Boxed w b c va vb) (hb : Below w.heap.size w w') : Boxed w' b c va vb := ⟨cell_on h.1 hb, cell_on h.2 hb⟩
theorem split_at {l : List Ent} {P : Ent → Bool} {k : Nat} (h1 : ∀ t (h : t < l.length), t < k → P l[t] = false) (h2 : ∀ t (h : t < l.length), k ≤ t → P l[t] = true) : l.filter P = l.drop k ∧ l.filter (fun e => !P e) = l.take k := by
  have a1 : (l.take k).filter P = [] := List.filter_eq_nil_iff.2 (fun x hx => by
    obtain ⟨i, hi, rfl⟩ := List.getElem_of_mem hx
    rw [List.length_take] at hi
    rw [List.getElem_take, h1 i (by omega) (by omega)]; decide)
  have a2 : (l.drop k).filter P = l.drop k := List.filter_eq_self.2 (fun x hx => by
    obtain ⟨i, hi, rfl⟩ := List.getElem_of_mem hx
    rw [List.length_drop] at hi
    rw [List.getElem_drop]; exact h2 _ (by omega) (by omega))
  have b1 : (l.take k).filter (fun e => !P e) = l.take k := List.filter_eq_self.2 (fun x hx => by
    obtain ⟨i, hi, rfl⟩ := List.getElem_of_mem hx
    rw [List.length_take] at hi
    rw [List.getElem_take, h1 i (by omega) (by omega)]; rfl)
  have b2 : (l.drop k).filter (fun e => !P e) = [] := List.filter_eq_nil_iff.2 (fun x hx => by
    obtain ⟨i, hi, rfl⟩ := List.getElem_of_mem hx
    rw [List.length_drop] at hi
    rw [List.getElem_drop, h2 _ (by omega) (by omega)]; decide)
  constructor
  · conv => lhs; rw [← List.take_append_drop k l]
    rw [List.filter_append, a1, a2]; rfl
  · conv => lhs; rw [← List.take_append_drop k l]
    rw [List.filter_append, b1, b2, List.append_nil]
theorem z_after {l : List Ent} (h : SortedZ l) {r : List Val} {a b : Nat} (hab : a ≤ b) (hb : b < l.length) (hc : 0 < cR (l[a]'(by omega)).1 r) : 0 < cR l[b].1 r := by
  rcases Nat.lt_or_eq_of_le hab with hlt | rfl
  · have h1 := List.pairwise_iff_getElem.1 h a b (by omega) hb hlt
    have h3 := cR_anti (l[a]'(by omega)).1 r
    have h5 := cR_anti (l[a]'(by omega)).1 l[b].1
    by_cases hh : 0 < cR l[b].1 r
    · exact hh
    · have := cR_trans l[b].1 r (l[a]'(by omega)).1 (by omega) (by omega)
      omega
  · exact hc
theorem z_from {l : List Ent} (h : SortedZ l) {r : List Val} {a b : Nat} (hab : a ≤ b) (hb : b < l.length) (hc : 0 ≤ cR (l[a]'(by omega)).1 r) : 0 ≤ cR l[b].1 r := by
  rcases Nat.lt_or_eq_of_le hab with hlt | rfl
  · have h1 := List.pairwise_iff_getElem.1 h a b (by omega) hb hlt
    by_cases hh : 0 ≤ cR l[b].1 r
    · exact hh
    · have := cR_lt_trans h1 (show cR l[b].1 r < 0 by omega)
      omega
  · exact hc
set_option maxHeartbeats 1000000 in
theorem uptoFn (l : List Ent) (r : List Val) (va vb : Value) (b c : Nat) (i : Nat) (hi : i < l.length) (w : World) (ha : EntsIs w va l) (hb : RowIs w vb r) (hx : Boxed w b c va vb) :
    Calls Try.prog 36 #[.int .i64 i, .pointer (some ⟨b, 0, none⟩), .pointer (some ⟨c, 0, none⟩)] w fun e w' => e = .returned (.bool (decide (0 < cR l[i].1 r))) ∧ Below w.heap.size w w' := by
  obtain ⟨a0, cap, rfl⟩ := ha.form
  obtain ⟨b0, cap', rfl⟩ := hb.form
  obtain ⟨b1, o1, a1, c1, rfl, x1, x2, x3⟩ := ha.at i hi
  obtain ⟨y1, y2⟩ := hx
  have I1 : (i : Int) < (l.length : Int) := by omega
  have q : Hid (∀ d os, Calls Try.prog 37 #[.slice a1 l[i].1.length c1, .slice b0 r.length cap'] (grow (redrawn w d) os) fun e w'' => e = .returned (.int .i64 (cR l[i].1 r)) ∧ ∃ p : Regrown, w'' = grow (redrawn w p.d) p.os) :=
    fun d os => Calls.regrown_of (rowCompare l[i].1 r _ _ _ (x3.on (below_regrown w d os)) (hb.on (below_regrown w d os)))
  have g1 := fun d os => cell_regrown x1 d os
  have g2 := fun d os => cell_regrown y1 d os
  have g3 := fun d os => cell_regrown y2 d os
  clear ha hb x3 x2
  generalize cR l[i].1 r = s at *
  generalize l[i].1.length = n1 at *
  generalize l[i].2 = i1 at *
  go_enter Try.func36, Try.ntmps36
  go_wp2_with fail
  refine wp_region_quiet_below (by kernel_rfl) (by kernel_rfl) ?_
  iterate 9 (quiet_step (exact q.out _ _))
  refine wpQuiet_nil ?_
  intro w6 hw6
  obtain ⟨p6, hw6⟩ := hw6
  have hb6 : Hid (Below w.heap.size w w6) := by rw [hw6]; exact below_regrown w _ _
  clear hw6 g1 g2 g3 q x1 y1 y2
  go_wp2_with fail
  go_ret
  exact ⟨rfl, hb6.out⟩
set_option maxHeartbeats 1000000 in
theorem aheadFn (l : List Ent) (r : List Val) (va vb : Value) (b c : Nat) (i : Nat) (hi : i < l.length) (w : World) (ha : EntsIs w va l) (hb : RowIs w vb r) (hx : Boxed w b c va vb) :
    Calls Try.prog 39 #[.int .i64 i, .pointer (some ⟨b, 0, none⟩), .pointer (some ⟨c, 0, none⟩)] w fun e w' => e = .returned (.bool (decide (0 ≤ cR l[i].1 r))) ∧ Below w.heap.size w w' := by
  obtain ⟨a0, cap, rfl⟩ := ha.form
  obtain ⟨b0, cap', rfl⟩ := hb.form
  obtain ⟨b1, o1, a1, c1, rfl, x1, x2, x3⟩ := ha.at i hi
  obtain ⟨y1, y2⟩ := hx
  have I1 : (i : Int) < (l.length : Int) := by omega
  have q : Hid (∀ d os, Calls Try.prog 37 #[.slice a1 l[i].1.length c1, .slice b0 r.length cap'] (grow (redrawn w d) os) fun e w'' => e = .returned (.int .i64 (cR l[i].1 r)) ∧ ∃ p : Regrown, w'' = grow (redrawn w p.d) p.os) :=
    fun d os => Calls.regrown_of (rowCompare l[i].1 r _ _ _ (x3.on (below_regrown w d os)) (hb.on (below_regrown w d os)))
  have g1 := fun d os => cell_regrown x1 d os
  have g2 := fun d os => cell_regrown y1 d os
  have g3 := fun d os => cell_regrown y2 d os
  clear ha hb x3 x2
  generalize cR l[i].1 r = s at *
  generalize l[i].1.length = n1 at *
  generalize l[i].2 = i1 at *
  go_enter Try.func39, Try.ntmps39
  go_wp2_with fail
  refine wp_region_quiet_below (by kernel_rfl) (by kernel_rfl) ?_
  iterate 9 (quiet_step (exact q.out _ _))
  refine wpQuiet_nil ?_
  intro w6 hw6
  obtain ⟨p6, hw6⟩ := hw6
  have hb6 : Hid (Below w.heap.size w w6) := by rw [hw6]; exact below_regrown w _ _
  clear hw6 g1 g2 g3 q x1 y1 y2
  go_wp2_with fail
  go_ret
  exact ⟨rfl, hb6.out⟩
/-- Boxes of a list and a row, new. -/
theorem boxed_new (w : World) (va vb : Value) : Boxed ((w.alloc (.cells #[va] 27)).alloc (.cells #[vb] 30)) w.heap.size (w.heap.size + 1) va vb := by
  constructor
  · exact cell_on (by rw [World.cell?_alloc_at _ _ _ _ (by simp)]; rfl) one_box
  · rw [World.cell?_alloc_at _ _ _ _ (by simp)]; rfl
set_option maxHeartbeats 1000000 in
theorem slUptoT (l : List Ent) (r : List Val) (va vb : Value) (w : World) (hn : l.length ≤ 65536) (hl : SortedZ l) (ha : EntsIs w va l) (hb : RowIs w vb r) :
    Calls Try.prog 27 #[va, vb, .bool true] w fun e w' => ∃ k : Nat, e = .returned (.int .i64 k) ∧ k ≤ l.length ∧ l.filter (fun e => decide (0 < cR e.1 r)) = l.drop k ∧ l.filter (fun e => !decide (0 < cR e.1 r)) = l.take k ∧ Below w.heap.size w w' := by
  have hq : ∀ W, Below w.heap.size w W → Boxed W w.heap.size (w.heap.size + 1) va vb → Calls Try.prog 35 #[.int .i64 l.length, .func (.func 36) #[] #[.pointer (some ⟨w.heap.size, 0, none⟩), .pointer (some ⟨w.heap.size + 1, 0, none⟩)]] W fun e w' => Ends (fun i => decide (0 < cR (l.getD i ([], 0)).1 r)) l.length W e w' := by
    intro W hW hX
    refine search _ _ _ l.length _ W hn (enters_of Try.func36 (by kernel_rfl) rfl) (fun V hV i hi => ?_) (fun a b hab hb' h => ?_)
    · have e : l.getD i ([], 0) = l[i] := by rw [List.getD_eq_getElem?_getD, List.getElem?_eq_getElem hi]; rfl
      rw [e]
      exact uptoFn l r va vb _ _ i hi V ((ha.on hW).on hV) ((hb.on hW).on hV) (hX.on hV)
    · have e1 : l.getD a ([], 0) = l[a]'(by omega) := by rw [List.getD_eq_getElem?_getD, List.getElem?_eq_getElem (by omega)]; rfl
      have e2 : l.getD b ([], 0) = l[b] := by rw [List.getD_eq_getElem?_getD, List.getElem?_eq_getElem hb']; rfl
      rw [e1] at h
      rw [e2]
      exact decide_eq_true (z_after hl hab hb' (of_decide_eq_true h))
  have q : Hid (Calls Try.prog 35 #[.int .i64 l.length, .func (.func 36) #[] #[.pointer (some ⟨w.heap.size, 0, none⟩), .pointer (some ⟨w.heap.size + 1, 0, none⟩)]] ((w.alloc (.cells #[va] 27)).alloc (.cells #[vb] 30)) fun e w' => Ends (fun i => decide (0 < cR (l.getD i ([], 0)).1 r)) l.length ((w.alloc (.cells #[va] 27)).alloc (.cells #[vb] 30)) e w') := hq _ below_two (boxed_new w va vb)
  clear hq
  obtain ⟨a0, cap, rfl⟩ := ha.form
  obtain ⟨b0, cap', rfl⟩ := hb.form
  clear ha hb
  go_enter Try.func27, Try.ntmps27
  go_wp2_with fail
  refine q.out.mono ?_
  rintro e w1 ⟨k, rfl, h1, h2, h3, h4⟩
  have hB : Hid (Below w.heap.size w w1) := below_two.trans (h4.mono (by simp; omega))
  have hS := split_at (l := l) (P := fun e => decide (0 < cR e.1 r)) (k := k) (fun t h ht => by have := h2 t ht; dsimp only at this; rw [List.getD_eq_getElem?_getD, List.getElem?_eq_getElem h] at this; exact this) (fun t h ht => by have := h3 t h ht; dsimp only at this; rw [List.getD_eq_getElem?_getD, List.getElem?_eq_getElem h] at this; exact this)
  have HS : Hid _ := hS
  clear q h2 h3 h4 hS
  go_wp2_with fail
  go_ret
  exact ⟨k, rfl, h1, HS.out.1, HS.out.2, hB.out⟩
set_option maxHeartbeats 1000000 in
theorem slAhead (l : List Ent) (r : List Val) (va vb : Value) (w : World) (hn : l.length ≤ 65536) (hl : SortedZ l) (ha : EntsIs w va l) (hb : RowIs w vb r) :
    Calls Try.prog 29 #[va, vb] w fun e w' => ∃ k : Nat, e = .returned (.int .i64 k) ∧ k ≤ l.length ∧ l.filter (fun e => decide (0 ≤ cR e.1 r)) = l.drop k ∧ l.filter (fun e => !decide (0 ≤ cR e.1 r)) = l.take k ∧ Below w.heap.size w w' := by
  have hq : ∀ W, Below w.heap.size w W → Boxed W w.heap.size (w.heap.size + 1) va vb → Calls Try.prog 35 #[.int .i64 l.length, .func (.func 39) #[] #[.pointer (some ⟨w.heap.size, 0, none⟩), .pointer (some ⟨w.heap.size + 1, 0, none⟩)]] W fun e w' => Ends (fun i => decide (0 ≤ cR (l.getD i ([], 0)).1 r)) l.length W e w' := by
    intro W hW hX
    refine search _ _ _ l.length _ W hn (enters_of Try.func39 (by kernel_rfl) rfl) (fun V hV i hi => ?_) (fun a b hab hb' h => ?_)
    · have e : l.getD i ([], 0) = l[i] := by rw [List.getD_eq_getElem?_getD, List.getElem?_eq_getElem hi]; rfl
      rw [e]
      exact aheadFn l r va vb _ _ i hi V ((ha.on hW).on hV) ((hb.on hW).on hV) (hX.on hV)
    · have e1 : l.getD a ([], 0) = l[a]'(by omega) := by rw [List.getD_eq_getElem?_getD, List.getElem?_eq_getElem (by omega)]; rfl
      have e2 : l.getD b ([], 0) = l[b] := by rw [List.getD_eq_getElem?_getD, List.getElem?_eq_getElem hb']; rfl
      rw [e1] at h
      rw [e2]
      exact decide_eq_true (z_from hl hab hb' (of_decide_eq_true h))
  have q : Hid (Calls Try.prog 35 #[.int .i64 l.length, .func (.func 39) #[] #[.pointer (some ⟨w.heap.size, 0, none⟩), .pointer (some ⟨w.heap.size + 1, 0, none⟩)]] ((w.alloc (.cells #[va] 27)).alloc (.cells #[vb] 30)) fun e w' => Ends (fun i => decide (0 ≤ cR (l.getD i ([], 0)).1 r)) l.length ((w.alloc (.cells #[va] 27)).alloc (.cells #[vb] 30)) e w') := hq _ below_two (boxed_new w va vb)
  clear hq
  obtain ⟨a0, cap, rfl⟩ := ha.form
  obtain ⟨b0, cap', rfl⟩ := hb.form
  clear ha hb
  go_enter Try.func29, Try.ntmps29
  go_wp2_with fail
  refine q.out.mono ?_
  rintro e w1 ⟨k, rfl, h1, h2, h3, h4⟩
  have hB : Hid (Below w.heap.size w w1) := below_two.trans (h4.mono (by simp; omega))
  have hS := split_at (l := l) (P := fun e => decide (0 ≤ cR e.1 r)) (k := k) (fun t h ht => by have := h2 t ht; dsimp only at this; rw [List.getD_eq_getElem?_getD, List.getElem?_eq_getElem h] at this; exact this) (fun t h ht => by have := h3 t h ht; dsimp only at this; rw [List.getD_eq_getElem?_getD, List.getElem?_eq_getElem h] at this; exact this)
  have HS : Hid _ := hS
  clear q h2 h3 h4 hS
  go_wp2_with fail
  go_ret
  exact ⟨k, rfl, h1, HS.out.1, HS.out.2, hB.out⟩
set_option maxHeartbeats 1000000 in
/-- slice.upto: where what is behind a row begins. -/
theorem slU (l : List Ent) (r : List Val) (va vb : Value) (any : Bool) (w : World) (hn : l.length ≤ 65536) (hl : SortedZ l) (ha : EntsIs w va l) (hb : RowIs w vb r) :
    Calls Try.prog 27 #[va, vb, .bool any] w fun e w' => ∃ k : Nat, e = .returned (.int .i64 k) ∧ k ≤ l.length ∧ l.filter (afP any r) = l.drop k ∧ l.filter (upP any r) = l.take k ∧ Below w.heap.size w w' := by
  cases any
  · have E : Hid (l.filter (afP false r) = l.drop 0 ∧ l.filter (upP false r) = l.take 0) :=
      ⟨List.filter_eq_self.2 (fun e _ => by simp [afP]), by rw [List.take_zero]; exact List.filter_eq_nil_iff.2 (fun e _ => by simp [upP])⟩
    obtain ⟨a0, cap, rfl⟩ := ha.form
    obtain ⟨b0, cap', rfl⟩ := hb.form
    clear ha hb
    go_enter Try.func27, Try.ntmps27
    go_wp2_with fail
    go_ret
    exact ⟨0, rfl, Nat.zero_le _, E.out.1, E.out.2, below_two⟩
  · refine (slUptoT l r va vb w hn hl ha hb).mono ?_
    rintro e w' ⟨k, h1, h2, h3, h4, h5⟩
    refine ⟨k, h1, h2, ?_, ?_, h5⟩
    · rw [← h3]; congr 1
    · rw [← h4]; congr 1; funext e
      simp only [upP, Bool.true_and]
      rw [← decide_not]; congr 1; exact propext ⟨fun h => by omega, fun h => by omega⟩
end Go.Proofs.Ytjpgnohhgkalbaa
