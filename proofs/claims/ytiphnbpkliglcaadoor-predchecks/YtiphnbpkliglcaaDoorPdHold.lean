/- What pred.Holds answers of predicates in memory: a column, how two values stand, all and one of the parts. -/
import Derived.Test.YtiphnbpkliglcaaDoorPdMem
import Derived.Test.YtiphnbpkliglcaaDoorStepCall
import Derived.Lib.QuietBelow
import Derived.BigQuiet
namespace Go.Proofs.YtiphnbpkliglcaaDoor
open Go.RowKit
set_option maxRecDepth 100000
set_option linter.unusedVariables false

/-- A value as a value. -/
def vv (v : Val) : Value := .agg #[.int .i64 v.1, .int .i64 v.2.1, .string v.2.2]
set_option maxHeartbeats 1000000 in
theorem predColumn (r : List Val) (rv : Value) (c : Int) (w : World) (hr : RowIs w rv r) :
    Calls Tryd.prog 21 #[rv, .int .i64 c] w fun e w' => e = .returned (vv (colR r c)) ∧ Below w.heap.size w w' := by
  obtain ⟨a0, cap0, rfl⟩ := hr.form
  have la := hr.le
  unfold maxLen at la
  by_cases k0 : c < 0
  · have E : Hid (colR r c = nul) := by show colR r c = nul; unfold colR; rw [if_neg (by omega)]
    clear hr
    go_enter Tryd.func21, Tryd.ntmps21
    go_wp2_with fail
    exact bodyPost_ret (v := .agg #[.int .i64 0, .int .i64 0, .string ⟨#[]⟩]) (by simp [results, Tryd.results21, go_sem]) rfl ⟨by rw [E.out]; rfl, one_box⟩
  · by_cases k1 : c < (r.length : Int)
    · have hl : c.toNat < r.length := by omega
      obtain ⟨b, o, rfl, x1, x2, x3, hb⟩ := hr.at c.toNat hl
      have E : Hid (colR r c = r[c.toNat]) := by show colR r c = _; unfold colR; rw [if_pos (by omega), List.getD_eq_getElem?_getD, List.getElem?_eq_getElem hl]; rfl
      have I4 : 0 ≤ c := by omega
      clear hr
      generalize r[c.toNat] = x at *
      go_enter Tryd.func21, Tryd.ntmps21
      go_wp2_with fail
      exact bodyPost_ret (v := .agg #[.int .i64 x.1, .int .i64 x.2.1, .string x.2.2]) (by simp [results, Tryd.results21, go_sem]) rfl ⟨by rw [E.out]; rfl, one_box⟩
    · have I3 : (r.length : Int) ≤ c := by omega
      have E : Hid (colR r c = nul) := by show colR r c = nul; unfold colR; rw [if_pos (by omega), List.getD_eq_getElem?_getD, List.getElem?_eq_none (by omega)]; rfl
      clear hr
      go_enter Tryd.func21, Tryd.ntmps21
      go_wp2_with fail
      exact bodyPost_ret (v := .agg #[.int .i64 0, .int .i64 0, .string ⟨#[]⟩]) (by simp [results, Tryd.results21, go_sem]) rfl ⟨by rw [E.out]; rfl, one_box⟩
theorem vv_ne {a b : Int} (h : a ≠ b) : (a == b) = false := by simp [h]
set_option maxHeartbeats 2000000 in
theorem predAgainst (a b : Val) (o : Int) (w : World) :
    Calls Tryd.prog 20 #[vv a, .int .i64 o, vv b] w fun e w' => e = .returned (.bool (ag a o b)) ∧ Below w.heap.size w w' := by
  obtain ⟨k, n, s⟩ := a
  obtain ⟨k', n', s'⟩ := b
  unfold vv
  by_cases h1 : k = k'
  · by_cases h0 : k = 0
    · subst h1 h0
      go_enter Tryd.func20, Tryd.ntmps20
      go_wp2_with fail
      go_ret
      exact ⟨rfl, two_boxes⟩
    · subst h1
      have E : Hid (ag (k, n, s) o (k, n', s') = agO o (cV k n s k n' s')) := by
        show ag _ _ _ = _
        unfold ag
        rw [if_pos ⟨rfl, h0⟩]; rfl
      have b0 : (k == 0) = false := vv_ne h0
      clear h0
      have q : ∀ W, Calls Tryd.prog 32 #[.agg #[.int .i64 k, .int .i64 n, .string s], .agg #[.int .i64 k, .int .i64 n', .string s']] W fun e w' => e = .returned (.int .i64 (cV k n s k n' s')) ∧ Below W.heap.size W w' := valueCompare k n s k n' s'
      have Q : Hid (∀ W, Calls Tryd.prog 32 #[.agg #[.int .i64 k, .int .i64 n, .string s], .agg #[.int .i64 k, .int .i64 n', .string s']] W fun e w' => e = .returned (.int .i64 (cV k n s k n' s')) ∧ Below W.heap.size W w') := q
      clear q
      have hc := cV_sq k n s k n' s'
      generalize cV k n s k n' s' = c at *
      generalize ag (k, n, s) o (k, n', s') = res at *
      go_enter Tryd.func20, Tryd.ntmps20
      go_wp2_with fail
      refine (Q.out _).mono ?_
      rintro e w1 ⟨rfl, hb1⟩
      have B1 : Hid (Below w.heap.size w w1) := two_boxes.trans (hb1.mono (by simp; omega))
      clear Q hb1
      by_cases o1 : o = 1
      · subst o1
        go_wp2_with fail
        go_ret
        exact ⟨retB (by rw [E.out]; rfl), B1.out⟩
      by_cases o2 : o = 2
      · subst o2
        go_wp2_with fail
        go_ret
        exact ⟨retB (by rw [E.out]; by_cases hz : c = 0 <;> simp [agO, hz]), B1.out⟩
      by_cases o3 : o = 3
      · subst o3
        go_wp2_with fail
        go_ret
        exact ⟨retB (by rw [E.out]; simp [agO]), B1.out⟩
      by_cases o4 : o = 4
      · subst o4
        go_wp2_with fail
        go_ret
        exact ⟨retB (by rw [E.out]; simp [agO]), B1.out⟩
      by_cases o5 : o = 5
      · subst o5
        go_wp2_with fail
        go_ret
        exact ⟨retB (by rw [E.out]; simp [agO]), B1.out⟩
      by_cases o6 : o = 6
      · subst o6
        go_wp2_with fail
        go_ret
        exact ⟨retB (by rw [E.out]; simp [agO]), B1.out⟩
      have b1 := vv_ne o1
      have b2 := vv_ne o2
      have b3 := vv_ne o3
      have b4 := vv_ne o4
      have b5 := vv_ne o5
      have b6 := vv_ne o6
      have EF : Hid (res = false) := by show res = false; rw [E.out]; simp [agO, o1, o2, o3, o4, o5, o6]
      clear o1 o2 o3 o4 o5 o6
      go_wp2_with fail
      go_ret
      exact ⟨retB (by rw [EF.out]), B1.out⟩
  · have E : Hid (ag (k, n, s) o (k', n', s') = false) := by
      show ag _ _ _ = _
      unfold ag
      rw [if_neg (fun h => h1 h.1)]
    generalize ag (k, n, s) o (k', n', s') = res at *
    have b1 : (k == k') = false := vv_ne h1
    go_enter Tryd.func20, Tryd.ntmps20
    go_wp2_with fail
    go_ret
    exact ⟨retB (by rw [E.out]), two_boxes⟩
set_option maxHeartbeats 2000000 in
/-- Of a list of predicates: is one of them so? -/
theorem predIndex (g : Nat) (c0 : Value) (t : Pd → Bool) (F : Nat → Prop) (n : Nat) (sv : Value) (l : List Pd) (w : World) (h : PdL F n w sv l) (eg : ∀ args w, (callFunc g args).run Tryd.prog w = .ok (.enter g args) w)
    (hf : ∀ W, Below w.heap.size w W → ∀ (i : Nat) (hi : i < l.length) (m : Nat) (s : Value), n = m + 1 → PdL F m W s l[i].l → Calls Tryd.prog g #[pv l[i] s, c0] W fun e w' => e = .returned (.bool (t l[i])) ∧ Below W.heap.size W w') :
    Calls Tryd.prog 33 #[sv, .func (.func g) #[] #[c0]] w fun e w' => ∃ k : Int, e = .returned (.int .i64 k) ∧ decide (0 ≤ k) = l.any t ∧ Below w.heap.size w w' := by
  obtain ⟨a0, cap0, rfl⟩ := h.form
  have la := h.le
  unfold maxLen at la
  have H : Hid (PdL F n w (.slice a0 l.length cap0) l) := h
  have HF : Hid (∀ W, Below w.heap.size w W → ∀ (i : Nat) (hi : i < l.length) (m : Nat) (s : Value), n = m + 1 → PdL F m W s l[i].l → Calls Tryd.prog g #[pv l[i] s, c0] W fun e w' => e = .returned (.bool (t l[i])) ∧ Below W.heap.size W w') := hf
  clear h hf
  go_enter Tryd.func33, Tryd.ntmps33
  go_wp2_with fail
  go_loopw [8] (fun i wr => ∃ j : Nat, j ≤ l.length ∧ i = .int .i64 j ∧ Hid (∀ k (hk : k < l.length), k < j → t l[k] = false) ∧ Below w.heap.size w wr) (fun i _ => l.length - (intOf i).toNat)
  case atStart => exact ⟨0, by omega, rfl, fun k _ h => by omega, Below.refl _ _⟩
  case round =>
    obtain ⟨j, hj, rfl, hN, hB⟩ := hrel
    by_cases hlt : j < l.length
    · obtain ⟨m, b, o, s, hm, rfl, ⟨x0, x1, x2, x3, x4, x5, x6, x7⟩, hp, hbs⟩ := (H.out.on hB).at j hlt
      have q : Hid (Calls Tryd.prog g #[pv l[j] s, c0] wr fun e w' => e = .returned (.bool (t l[j])) ∧ Below wr.heap.size wr w') := HF.out wr hB j hlt m s hm hp
      have I1 : (j : Int) < (l.length : Int) := by omega
      have HT : Hid (t l[j] = true → l.any t = true) := fun h => List.any_eq_true.2 ⟨l[j], List.getElem_mem hlt, h⟩
      have HS : Hid (t l[j] = false → ∀ k (hk : k < l.length), k < j + 1 → t l[k] = false) := fun h k hk hkj => by
        by_cases e : k = j
        · subst e; exact h
        · exact hN.out k hk (by omega)
      clear hp hN hm
      generalize t l[j] = tj at *
      generalize l[j] = p at *
      go_wp2_with fail
      refine q.out.mono ?_
      rintro e w1 ⟨rfl, hb1⟩
      have hB1 : Hid (Below w.heap.size w w1) := hB.trans (hb1.mono hB.size)
      clear hb1 q x0 x1 x2 x3 x4 x5 x6 x7
      cases tj
      · have F1 := HS.out rfl
        clear HT HS
        go_wp2_with fail
        go_roundw
        case rel => exact ⟨j + 1, by omega, by go_num, F1, hB1.out⟩
        case measure => simp [intOf]; omega
      · have F1 : Hid (l.any t = true) := HT.out rfl
        clear HT HS
        go_wp2_with fail
        go_ret
        exact ⟨j, rfl, by rw [F1.out]; simp, hB1.out⟩
    · obtain rfl : j = l.length := by omega
      have I1 : ¬ (l.length : Int) < (l.length : Int) := by omega
      have F1 : Hid (l.any t = false) := by
        show l.any t = false
        rw [List.any_eq_false]
        intro x hx
        obtain ⟨i, hi, rfl⟩ := List.getElem_of_mem hx
        rw [hN.out i hi hi]; decide
      clear hN
      go_wp2_with fail
      go_ret
      exact ⟨-1, rfl, by rw [F1.out]; rfl, hB⟩
theorem predSome (g : Nat) (c0 : Value) (t : Pd → Bool) (F : Nat → Prop) (n : Nat) (sv : Value) (l : List Pd) (w : World) (h : PdL F n w sv l) (eg : ∀ args w, (callFunc g args).run Tryd.prog w = .ok (.enter g args) w)
    (hf : ∀ W, Below w.heap.size w W → ∀ (i : Nat) (hi : i < l.length) (m : Nat) (s : Value), n = m + 1 → PdL F m W s l[i].l → Calls Tryd.prog g #[pv l[i] s, c0] W fun e w' => e = .returned (.bool (t l[i])) ∧ Below W.heap.size W w') :
    Calls Tryd.prog 22 #[sv, .func (.func g) #[] #[c0]] w fun e w' => e = .returned (.bool (l.any t)) ∧ Below w.heap.size w w' := by
  have q := predIndex g c0 t F n sv l w h eg hf
  clear h hf eg
  go_enter Tryd.func22, Tryd.ntmps22
  go_wp2_with fail
  refine q.mono ?_
  rintro e w1 ⟨k, rfl, hk, hb⟩
  have HK : Hid (decide (0 ≤ k) = l.any t) := hk
  clear hk q
  by_cases h0 : 0 ≤ k
  · go_wp2_with fail
    go_ret
    exact ⟨retB (by rw [← HK.out] <;> simp [h0]), hb⟩
  · go_wp2_with fail
    go_ret
    exact ⟨retB (by rw [← HK.out] <;> simp [h0]), hb⟩
end Go.Proofs.YtiphnbpkliglcaaDoor
