/- What a predicate asks, its parts aside; the parts that it asks. -/
import Derived.Test.YtiphnbpkliglcaaDoorPdMk
namespace Go.Proofs.YtiphnbpkliglcaaDoor
open Go.RowKit Go.Sort
set_option maxRecDepth 100000
set_option linter.unusedVariables false

/-- Numbers as values; a slice that reads as these values. -/
def iv (l : List Int) : List Value := l.map (Value.int .i64)
theorem iv_len (l : List Int) : (iv l).length = l.length := by simp [iv]
/-- What asked answers: nothing, or its numbers in a block of its own. -/
def AskIs (l : List Int) (v : Value) (w : World) : Prop := (l = [] ∧ v = .slice none 0 0) ∨ ∃ g, v = .slice (some ⟨g, 0, none⟩) l.length l.length ∧ 0 < l.length ∧ ∀ j u, (iv l)[j]? = some u → w.cell? ((⟨g, 0, none⟩ : Addr).add j) = some u
set_option maxHeartbeats 2000000 in
theorem predAsked (k c o d vk vn : Int) (vs : ByteArray) (l : List Pd) (s : Value) (w : World) :
    Calls Tryd.prog 13 #[.agg #[.int .i64 k, .int .i64 c, .int .i64 o, .int .i64 d, .int .i64 vk, .int .i64 vn, .string vs, s]] w fun e w' => ∃ v, e = .returned v ∧ AskIs (askP ⟨k, c, o, d, (vk, vn, vs), l⟩) v w' ∧ Below w.heap.size w w' := by
  have one : ∀ W : World, AskIs [c] (.slice (some ⟨W.heap.size, 0, none⟩) 1 1) (W.alloc (.cells #[.int .i64 c] 3)) := fun W => .inr ⟨W.heap.size, rfl, by simp, cell_new_of W #[.int .i64 c] _⟩
  have two : ∀ W : World, AskIs [c, d] (.slice (some ⟨W.heap.size, 0, none⟩) 2 2) (W.alloc (.cells #[.int .i64 c, .int .i64 d] 3)) := fun W => .inr ⟨W.heap.size, rfl, by simp, cell_new_of W #[.int .i64 c, .int .i64 d] _⟩
  have H1 : Hid (∀ W : World, AskIs [c] (.slice (some ⟨W.heap.size, 0, none⟩) 1 1) (W.alloc (.cells #[.int .i64 c] 3))) := one
  have H2 : Hid (∀ W : World, AskIs [c, d] (.slice (some ⟨W.heap.size, 0, none⟩) 2 2) (W.alloc (.cells #[.int .i64 c, .int .i64 d] 3))) := two
  clear one two
  by_cases k1 : k = 1
  · subst k1
    have E : Hid (askP ⟨1, c, o, d, (vk, vn, vs), l⟩ = [c]) := rfl
    go_enter Tryd.func13, Tryd.ntmps13
    go_wp2_with fail
    go_ret
    refine ⟨_, rfl, ?_, two_boxes⟩
    rw [E.out]
    have := H1.out (w.alloc (.cells #[.int .i64 1, .int .i64 c, .int .i64 o, .int .i64 d, .int .i64 vk, .int .i64 vn, .string vs, s] 28))
    simpa using this
  by_cases k3 : k = 3
  · subst k3
    have E : Hid (askP ⟨3, c, o, d, (vk, vn, vs), l⟩ = [c]) := rfl
    go_enter Tryd.func13, Tryd.ntmps13
    go_wp2_with fail
    go_ret
    refine ⟨_, rfl, ?_, two_boxes⟩
    rw [E.out]
    have := H1.out (w.alloc (.cells #[.int .i64 3, .int .i64 c, .int .i64 o, .int .i64 d, .int .i64 vk, .int .i64 vn, .string vs, s] 28))
    simpa using this
  by_cases k2 : k = 2
  · subst k2
    have E : Hid (askP ⟨2, c, o, d, (vk, vn, vs), l⟩ = [c, d]) := rfl
    go_enter Tryd.func13, Tryd.ntmps13
    go_wp2_with fail
    go_ret
    refine ⟨_, rfl, ?_, two_boxes⟩
    rw [E.out]
    have := H2.out (w.alloc (.cells #[.int .i64 2, .int .i64 c, .int .i64 o, .int .i64 d, .int .i64 vk, .int .i64 vn, .string vs, s] 28))
    simpa using this
  · have b1 : (k == 1) = false := beq_false_of_ne k1
    have b2 : (k == 2) = false := beq_false_of_ne k2
    have b3 : (k == 3) = false := beq_false_of_ne k3
    have E : Hid (askP ⟨k, c, o, d, (vk, vn, vs), l⟩ = []) := by
      show askP _ = []
      unfold askP
      simp [k1, k2, k3]
    clear k1 k2 k3
    go_enter Tryd.func13, Tryd.ntmps13
    go_wp2_with fail
    go_ret
    exact ⟨_, rfl, .inl ⟨E.out, rfl⟩, one_box⟩
theorem PdL.low {base n : Nat} {w w' : World} {s : Value} {l : List Pd} (h : PdL (fun k => k < base) n w s l) (hb : Below base w w') : PdL (fun k => k < base) n w' s l := h.kept hb.size (fun b hb' _ => hb.block b hb')
theorem PdL.cut {F : Nat → Prop} {n : Nat} {w : World} {a : Option Addr} {k cap : Nat} {l : List Pd} (h : PdL F n w (.slice a k cap) l) (t : Nat) (ht : t ≤ l.length) : PdL F n w (.slice a t cap) (l.take t) := by
  by_cases h0 : t = 0
  · subst h0; rw [List.take_zero]; exact PdL.nil _ _ _ _ _
  · cases n with
    | zero => obtain ⟨_, rfl⟩ := h; simp at ht; exact absurd ht h0
    | succ n =>
      rcases h with ⟨_, _, _, rfl⟩ | ⟨b, o, cap', e, h1, h2, h3, h4, h5⟩
      · simp at ht; exact absurd ht h0
      · simp only [Value.slice.injEq] at e
        obtain ⟨rfl, _, rfl⟩ := e
        have hl : (l.take t).length = t := by rw [List.length_take]; omega
        refine .inr ⟨b, o, cap, by rw [hl], by omega, h2, h3, h4, fun i hi => ?_⟩
        obtain ⟨s, g1, g2⟩ := h5 i (by omega)
        rw [List.getElem_take]
        exact ⟨s, g1, g2⟩
set_option maxHeartbeats 2000000 in
theorem predParts (F : Nat → Prop) (n : Nat) (k c o d vk vn : Int) (vs : ByteArray) (l : List Pd) (s : Value) (w : World) (h : PdL F n w s l) :
    Calls Tryd.prog 15 #[.agg #[.int .i64 k, .int .i64 c, .int .i64 o, .int .i64 d, .int .i64 vk, .int .i64 vn, .string vs, s]] w fun e w' => ∃ v, e = .returned v ∧ PdL F n w' v (ptsP ⟨k, c, o, d, (vk, vn, vs), l⟩) ∧ Below w.heap.size w w' := by
  have H : Hid (PdL F n w s l) := h
  have la := h.le
  unfold maxLen at la
  obtain ⟨a1, cap1, hs⟩ := h.form
  by_cases k4 : k = 4
  · subst k4
    have E : Hid (ptsP ⟨4, c, o, d, (vk, vn, vs), l⟩ = l) := rfl
    subst hs
    clear h
    go_enter Tryd.func15, Tryd.ntmps15
    go_wp2_with fail
    go_ret
    exact ⟨_, rfl, by rw [E.out]; exact H.out.on one_box, one_box⟩
  by_cases k5 : k = 5
  · subst k5
    have E : Hid (ptsP ⟨5, c, o, d, (vk, vn, vs), l⟩ = l) := rfl
    subst hs
    clear h
    go_enter Tryd.func15, Tryd.ntmps15
    go_wp2_with fail
    go_ret
    exact ⟨_, rfl, by rw [E.out]; exact H.out.on one_box, one_box⟩
  by_cases k6 : k = 6
  · subst k6
    have E : Hid (ptsP ⟨6, c, o, d, (vk, vn, vs), l⟩ = l.take 1) := rfl
    subst hs
    clear h
    by_cases hl : l = []
    · subst hl
      go_enter Tryd.func15, Tryd.ntmps15
      go_wp2_with fail
      all_goals go_ret
      all_goals exact ⟨_, rfl, by rw [E.out]; exact PdL.nil _ _ _ _ _, one_box⟩
    · have h0 : 0 < l.length := List.length_pos_iff.2 hl
      have hcut : Hid (PdL F n w (.slice a1 1 cap1) (l.take 1)) := H.out.cut 1 h0
      have I1 : ¬ (l.length : Int) < 1 := by omega
      have I2 : (1 : Int) ≤ (l.length : Int) := by omega
      obtain ⟨m', b, o', s', hm, rfl, _, _, _⟩ := H.out.at 0 h0
      have hcap : l.length ≤ cap1 := by
        rcases hm ▸ H.out with ⟨_, _, _, e⟩ | ⟨_, _, _, e, g1, _⟩
        · exact absurd e hl
        · simp only [Value.slice.injEq] at e; omega
      clear hm hl
      go_enter Tryd.func15, Tryd.ntmps15
      go_wp2_with fail
      all_goals go_ret
      all_goals refine ⟨.slice (some ⟨b, o', none⟩) 1 cap1, ?_, by rw [E.out]; exact hcut.out.on one_box, one_box⟩
      all_goals first | rfl | (rw [show l.length = 1 by omega]; rfl)
  · have b4 : (k == 4) = false := beq_false_of_ne k4
    have b5 : (k == 5) = false := beq_false_of_ne k5
    have b6 : (k == 6) = false := beq_false_of_ne k6
    have E : Hid (ptsP ⟨k, c, o, d, (vk, vn, vs), l⟩ = []) := by
      show ptsP _ = []
      unfold ptsP
      simp [k4, k5, k6]
    clear k4 k5 k6 h
    go_enter Tryd.func15, Tryd.ntmps15
    go_wp2_with fail
    go_ret
    exact ⟨_, rfl, by rw [E.out]; exact PdL.nil _ _ _ _ _, one_box⟩
end Go.Proofs.YtiphnbpkliglcaaDoor
