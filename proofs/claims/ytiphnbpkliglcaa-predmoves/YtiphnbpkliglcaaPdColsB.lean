/- What pred.Cols answers: numbers, rising, each of them a column that is asked, and all of these. -/
import Derived.Test.YtiphnbpkliglcaaPdColsA
import Derived.Test.YtiphnbpkliglcaaShelf
import Derived.Lib.OwnBridge
namespace Go.Proofs.Ytiphnbpkliglcaa
open Go.RowKit Go.Sort
set_option maxRecDepth 100000
set_option linter.unusedVariables false

/-- Rising. -/
def Rising (l : List Int) : Prop := l.Pairwise (· < ·)
theorem cmp_keep {zs : List Int} (hs : zs.Pairwise (· ≤ ·)) : ∀ m, m ≤ zs.length → (Lib.compactUpTo zs.toArray m).Pairwise (· < ·) ∧ (∀ x, x ∈ Lib.compactUpTo zs.toArray m ↔ x ∈ zs.take m) := by
  intro m
  induction m with
  | zero => intro _; simp [Lib.compactUpTo]
  | succ m ih =>
    intro hm
    obtain ⟨h1, h2⟩ := ih (by omega)
    have hml : m < zs.length := by omega
    have hz : zs.toArray[m]! = zs[m] := by simp [hml]
    have htk : zs.take (m + 1) = zs.take m ++ [zs[m]] := List.take_succ_eq_append_getElem hml
    have hle : ∀ x ∈ zs.take m, x ≤ zs[m] := by
      intro x hx
      obtain ⟨i, hi, rfl⟩ := List.getElem_of_mem hx
      rw [List.length_take] at hi
      rw [List.getElem_take]
      exact List.pairwise_iff_getElem.1 hs i m (by omega) hml (by omega)
    rw [Lib.compactUpTo_succ, htk]
    by_cases hk : Lib.keeps zs.toArray m = true
    · rw [if_pos hk, hz]
      refine ⟨?_, fun x => by rw [List.mem_append, List.mem_append, h2]⟩
      rw [List.pairwise_append]
      refine ⟨h1, by simp, fun x hx y hy => ?_⟩
      rw [List.mem_singleton.1 hy]
      have hx' := (h2 x).1 hx
      have hxl := hle x hx'
      by_cases e : x = zs[m]
      · exfalso
        have h0 : 0 < m := by
          rcases Nat.eq_zero_or_pos m with h | h
          · subst h; simp at hx'
          · exact h
        have hk' : m = 0 ∨ zs.toArray[m]! ≠ zs.toArray[m - 1]! := by simpa [Lib.keeps] using hk
        have hne : zs[m] ≠ zs[m - 1] := by
          rcases hk' with h | h
          · omega
          · rw [hz] at h
            simpa [show m - 1 < zs.length by omega] using h
        obtain ⟨i, hi, hxe⟩ := List.getElem_of_mem hx'
        rw [List.length_take] at hi
        rw [List.getElem_take] at hxe
        have a1 : zs[i] ≤ zs[m - 1] := by
          by_cases ei : i = m - 1
          · subst ei; exact Int.le_refl _
          · exact List.pairwise_iff_getElem.1 hs i (m - 1) (by omega) (by omega) (by omega)
        have a2 : zs[m - 1] ≤ zs[m] := List.pairwise_iff_getElem.1 hs (m - 1) m (by omega) hml (by omega)
        omega
      · omega
    · rw [if_neg hk, List.append_nil]
      have h0 : ¬ m = 0 ∧ zs.toArray[m]! = zs.toArray[m - 1]! := by simpa [Lib.keeps] using hk
      have he : zs[m] = zs[m - 1] := by
        have := h0.2
        rw [hz] at this
        simpa [show m - 1 < zs.length by omega] using this
      have hin : zs[m] ∈ zs.take m := by
        rw [he]
        exact List.mem_iff_getElem.2 ⟨m - 1, by rw [List.length_take]; omega, by rw [List.getElem_take]⟩
      refine ⟨h1, fun x => ?_⟩
      rw [h2, List.mem_append, List.mem_singleton]
      exact ⟨.inl, fun h => h.elim id (fun e => e ▸ hin)⟩
/-- The numbers of a list, rising, each once. -/
def riseOf (zs : List Int) : List Int := Lib.compact (zs.mergeSort fun x y => decide (x ≤ y))
theorem riseOf_ok (zs : List Int) : Rising (riseOf zs) ∧ ∀ x, x ∈ riseOf zs ↔ x ∈ zs := by
  have hs : (zs.mergeSort fun x y => decide (x ≤ y)).Pairwise (· ≤ ·) := by
    have := List.pairwise_mergeSort (le := fun x y : Int => decide (x ≤ y)) (fun a b c h1 h2 => by simp at *; omega) (fun a b => by simp; omega) zs
    exact List.pairwise_iff_getElem.2 fun i j hi hj h => by simpa using List.pairwise_iff_getElem.1 this i j hi hj h
  obtain ⟨h1, h2⟩ := cmp_keep hs _ (Nat.le_refl _)
  refine ⟨h1, fun x => ?_⟩
  have := h2 x
  rw [List.take_length] at this
  rw [show riseOf zs = Lib.compactUpTo (zs.mergeSort fun x y => decide (x ≤ y)).toArray (zs.mergeSort fun x y => decide (x ≤ y)).length from rfl, this, List.mem_mergeSort]
theorem IntsIs.of_own {w : World} {base n : Nat} {v : Value} {l : List Int} (h : w.ownsRow base 3 1 v n (iv l)) : IntsIs w v l := by
  have hlt := h.lt
  have hl : l.length = n := by have := h.1; rw [iv_len] at this; omega
  subst hl
  obtain ⟨h1, h2 | ⟨g, cap, cur, rfl, hg, hh, hc, hm, hs, ht⟩⟩ := h
  · exact .inl ⟨none, 0, h2.1, List.eq_nil_of_length_eq_zero h2.2⟩
  · have own : w.ownsRow base 3 1 (.slice (some ⟨g, 0, none⟩) l.length cap) l.length (iv l) := ⟨h1, .inr ⟨g, cap, cur, rfl, hg, hh, hc, hm, hs, ht⟩⟩
    refine .inr ⟨g, 0, cap, rfl, hc, hm, (hlt g rfl).2, fun i hi => ?_⟩
    rw [Nat.zero_add, own.cellAt i (by omega)]
    simp [iv, hi]
theorem grow_below {B : Nat} {w0 w : World} (h : Below B w0 w) (hB : B ≤ w.heap.size) (os : Array Obj) : Below B w0 (grow w os) := by
  have e : Below B w (grow w os) := by
    have := below_regrown w w.drawn os
    exact this.mono hB
  exact h.trans e
set_option maxHeartbeats 4000000 in
theorem predCols (F : Nat → Prop) (n : Nat) (k c o d vk vn : Int) (vs : ByteArray) (l : List Pd) (s : Value) (w : World) (h : PdL F n w s l) (hle : (csP ⟨k, c, o, d, (vk, vn, vs), l⟩).length ≤ 65536) :
    Calls Try.prog 12 #[.agg #[.int .i64 k, .int .i64 c, .int .i64 o, .int .i64 d, .int .i64 vk, .int .i64 vn, .string vs, s]] w fun e w' => ∃ v, e = .returned v ∧ IntsIs w' v (riseOf (csP ⟨k, c, o, d, (vk, vn, vs), l⟩)) ∧ Below w.heap.size w w' := by
  have qa : Calls Try.prog 21 #[.slice none 0 0, .agg #[.int .i64 k, .int .i64 c, .int .i64 o, .int .i64 d, .int .i64 vk, .int .i64 vn, .string vs, s]] (w.alloc (.cells #[.int .i64 k, .int .i64 c, .int .i64 o, .int .i64 d, .int .i64 vk, .int .i64 vn, .string vs, s] 31)) (AppEnd (w.heap.size + 1) [] ⟨k, c, o, d, (vk, vn, vs), l⟩ (w.alloc (.cells #[.int .i64 k, .int .i64 c, .int .i64 o, .int .i64 d, .int .i64 vk, .int .i64 vn, .string vs, s] 31))) :=
    predApp n (w.heap.size + 1) ⟨k, c, o, d, (vk, vn, vs), l⟩ s (.slice none 0 0) [] _ ((h.mono (F' := fun k => k < w.heap.size + 1) (fun b _ hb => by omega)).on one_box) (by simp) (World.ownsRow_nil _ _ _ _) (by simpa using hle)
  obtain ⟨as1, cs1, hs1⟩ := h.form
  unfold AppEnd at qa
  generalize csP ⟨k, c, o, d, (vk, vn, vs), l⟩ = Z at *
  subst hs1
  clear h
  go_enter Try.func12, Try.ntmps12
  go_wp2_with fail
  refine qa.mono ?_
  rintro e w2 ⟨v2, rfl, o2, b2⟩
  rw [List.nil_append] at o2
  have O2 : Hid (w2.ownsRow (w.heap.size + 1) 3 1 v2 Z.length (iv Z)) := o2
  have B2 : Hid (Below w.heap.size w w2) := one_box.trans (b2.mono (Nat.le_succ _))
  clear qa o2 b2
  by_cases hv : v2 = .slice none 0 0
  · have hZ : Z = [] := by
      obtain ⟨_, _, e⟩ := own_formP O2.out
      rw [hv] at e
      simp only [Value.slice.injEq] at e
      exact List.eq_nil_of_length_eq_zero e.2.1.symm
    have HZ : Hid (riseOf Z = []) := by
      show riseOf Z = []
      rw [hZ]
      exact List.eq_nil_iff_forall_not_mem.2 (fun x hx => by have := ((riseOf_ok []).2 x).1 hx; cases this)
    subst hv
    clear hZ
    go_wp2_with fail
    refine (Try.slices_Sort_int_none none 0 w2).mono ?_
    rintro e w3 ⟨rfl, rfl⟩
    go_wp2_with fail
    refine (Try.slices_Compact_int_empty none 0 w3).mono ?_
    rintro e w4 ⟨rfl, rfl⟩
    go_wp2_with fail
    go_ret
    exact ⟨_, rfl, by rw [HZ.out]; exact .inl ⟨none, 0, rfl, rfl⟩, B2.out⟩
  · obtain ⟨g, cap, hve, hb, hlt, hn, hm, hl, hH⟩ := Lib.holds_of_ownsRow (enc := Value.int .i64) O2.out hv
    obtain ⟨Y, hY⟩ : ∃ Y, (Z.mergeSort fun x y => decide (x ≤ y)) = Y := ⟨_, rfl⟩
    have hYl : Y.length = Z.length := by rw [← hY, List.length_mergeSort]
    have q1 := Try.slices_Sort_int g 0 cap Z w2 hH hlt (by omega)
    rw [hY] at q1
    have HC : Hid (∀ w3, w3.ownsRow (w.heap.size + 1) 3 1 (.slice (some ⟨g, 0, none⟩) Z.length cap) Z.length (iv Y) → Calls Try.prog 23 #[.slice (some ⟨g, 0, none⟩) Z.length cap] w3 fun e w' => ∃ v, e = .returned v ∧ IntsIs w' v (riseOf Z) ∧ (Below w.heap.size w w3 → Below w.heap.size w w')) := fun w3 o3 => by
      obtain ⟨g3, cap3, e3, _, hlt3, hn3, hm3, hl3, hH3⟩ := Lib.holds_of_ownsRow (enc := Value.int .i64) o3 (by simp)
      simp only [Value.slice.injEq, Option.some.injEq, Addr.mk.injEq, and_true] at e3
      obtain ⟨rfl, _, rfl⟩ := e3
      have q := Try.slices_Compact_int g 0 cap Y w3 hH3 (by omega) (by omega)
      rw [hYl] at q
      refine q.mono ?_
      rintro e w4 ⟨rfl, qq, rfl⟩
      have hcl := Lib.compact_length_le Y
      refine ⟨_, rfl, ?_, fun hB => Lib.below_putRow hB (by omega)⟩
      have o4 := Lib.ownsRow_putRow (q := qq) (ys := Lib.compact Y ++ List.replicate (Z.length - (Lib.compact Y).length) 0) (k := (Lib.compact Y).length) o3 (by rw [List.length_append, List.length_replicate]; omega) (by omega)
      rw [List.take_left' rfl] at o4
      have e : riseOf Z = Lib.compact Y := by unfold riseOf; rw [hY]
      rw [e]
      have := IntsIs.of_own o4
      exact this
    have HW : Hid (∀ q os, (grow (putRow (Value.int .i64) (Sort.ahead w2 q) g 0 Y.toArray) os).ownsRow (w.heap.size + 1) 3 1 (.slice (some ⟨g, 0, none⟩) Z.length cap) Z.length (iv Y) ∧ Below w.heap.size w (grow (putRow (Value.int .i64) (Sort.ahead w2 q) g 0 Y.toArray) os)) := fun q os => by
      have o2 := O2.out
      rw [hve] at o2
      have o3 := Lib.ownsRow_putRow (q := q) (ys := Y) (k := Z.length) o2 hYl (Nat.le_refl _)
      rw [List.take_of_length_le (by omega)] at o3
      have b3 : Below w.heap.size w (putRow (Value.int .i64) (Sort.ahead w2 q) g 0 Y.toArray) := Lib.below_putRow B2.out (by omega)
      exact ⟨own_onP o3 (grow_below (Below.refl _ _) (Nat.le_refl _) os), grow_below b3 b3.size os⟩
    clear hY hYl hH hn hm hl hlt hb hv O2
    subst hve
    go_wp2_with fail
    refine q1.mono ?_
    rintro e w3 ⟨rfl, q, os, hw3⟩
    obtain ⟨o3, b3⟩ := HW.out q os
    rw [← hw3] at o3 b3
    have B3 : Hid (Below w.heap.size w w3) := b3
    have q4 := HC.out w3 o3
    clear hw3 o3 b3 HC HW q1
    go_wp2_with fail
    refine q4.mono ?_
    rintro e w4 ⟨v4, rfl, i4, b4⟩
    have I4 : Hid (IntsIs w4 v4 (riseOf Z)) := i4
    have B4 : Hid (Below w.heap.size w w4) := b4 B3.out
    clear q4 i4 b4
    go_wp2_with fail
    go_ret
    exact ⟨_, rfl, I4.out, B4.out⟩
/-- What pred.Cols answers. -/
theorem predColsP (F : Nat → Prop) (n : Nat) (p : Pd) (s : Value) (w : World) (h : PdL F n w s p.l) (hle : (csP p).length ≤ 65536) :
    Calls Try.prog 12 #[pv p s] w fun e w' => ∃ v, e = .returned v ∧ IntsIs w' v (riseOf (csP p)) ∧ Below w.heap.size w w' := by
  obtain ⟨k, c, o, d, ⟨vk, vn, vs⟩, l⟩ := p
  exact predCols F n k c o d vk vn vs l s w h hle
end Go.Proofs.Ytiphnbpkliglcaa
