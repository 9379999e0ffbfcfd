/- What pred.Map answers of predicates of parts. -/
import Derived.Test.YtiphnbpkliglcaaPdMapAll
namespace Go.Proofs.Ytiphnbpkliglcaa
open Go.RowKit Go.Sort
set_option maxRecDepth 100000
set_option linter.unusedVariables false
attribute [local go_sem ↓] Go.wp_at_zero Go.wp_at_succ
set_option maxHeartbeats 4000000 in
theorem map4 (cols : List Int) (a0 : Option Addr) (cap0 : Nat) (n : Nat) (s : Value) (c o d vk vn : Int) (vs : ByteArray) (l : List Pd) (w : World) (hc : IntsIs w (.slice a0 cols.length cap0) cols) (ih : ∀ m, n = m + 1 → MapAt m) (F : Nat → Prop) (h : PdL F n w s l) (hs : ∀ m, n = m + 1 → ∀ q ∈ l, Slim m q) (hl : l.length ≤ 65536) :
    Calls Try.prog 11 #[.agg #[.int .i64 4, .int .i64 c, .int .i64 o, .int .i64 d, .int .i64 vk, .int .i64 vn, .string vs, s], .slice a0 cols.length cap0] w (MapEnd cols n ⟨4, c, o, d, (vk, vn, vs), l⟩ w) := by
  have HE : Hid (∀ w' v, Below w.heap.size w w' → PdL (fun k => w.heap.size ≤ k) n w' v (l.map (mpP cols)) → MapEnd cols n ⟨4, c, o, d, (vk, vn, vs), l⟩ w (.returned (.agg #[.int .i64 4, .int .i64 0, .int .i64 0, .int .i64 0, .int .i64 0, .int .i64 0, .string ⟨#[]⟩, v])) w') := fun w' v h h' => by
    refine ⟨v, ?_, ?_, h⟩
    · rw [mpP_eq]; rfl
    · rw [mpP_eq]; exact h'
  have HW : Hid (∀ W, W = (w.alloc (.cells #[.int .i64 4, .int .i64 c, .int .i64 o, .int .i64 d, .int .i64 vk, .int .i64 vn, .string vs, s] 31)).alloc (.cells #[.int .i64 0, .int .i64 0, .int .i64 0, .int .i64 0, .int .i64 0, .int .i64 0, .string ⟨#[]⟩, .slice none 0 0] 31) → _) := map_boxes w 4 c o d vk vn vs s
  have Hc : Hid (IntsIs w (.slice a0 cols.length cap0) cols) := hc
  have HQ : Hid (∀ W', Below w.heap.size w W' → Calls Try.prog 20 #[s, .slice a0 cols.length cap0] W' fun e w' => ∃ v, e = .returned v ∧ PdL (fun k => W'.heap.size ≤ k) n w' v (l.map (mpP cols)) ∧ Below W'.heap.size W' w') := fun W' hW => predMapAll n ih F s _ l cols W' (h.on hW) hs hl (Hc.out.on hW)
  obtain ⟨as1, cs1, hs1⟩ := h.form
  subst hs1
  clear hc ih h hs
  go_enter Try.func11, Try.ntmps11
  go_wp2_with fail
  obtain ⟨W, hW⟩ : ∃ W, W = (w.alloc (.cells #[.int .i64 4, .int .i64 c, .int .i64 o, .int .i64 d, .int .i64 vk, .int .i64 vn, .string vs, .slice as1 l.length cs1] 31)).alloc (.cells #[.int .i64 0, .int .i64 0, .int .i64 0, .int .i64 0, .int .i64 0, .int .i64 0, .string ⟨#[]⟩, .slice none 0 0] 31) := ⟨_, rfl⟩
  rw [← hW]
  obtain ⟨⟨x0, x1, x2, x3, x4, x5, x6, x7⟩, ⟨yc, yf⟩, hB, hz⟩ := HW.out W hW
  have B1 : Hid (Below w.heap.size w W) := hB
  have QQ : Hid (Calls Try.prog 20 #[.slice as1 l.length cs1, .slice a0 cols.length cap0] W.drew fun e w' => ∃ v, e = .returned v ∧ PdL (fun k => W.drew.heap.size ≤ k) n w' v (l.map (mpP cols)) ∧ Below W.drew.heap.size W.drew w') := HQ.out W.drew hB.drew
  simp only [Nat.zero_add] at x7
  have HF : Hid (∀ w7 v, PdL (fun k => W.drew.heap.size ≤ k) n w7 v (l.map (mpP cols)) → Below W.drew.heap.size W.drew w7 → (w7.cell? ⟨w.heap.size, 0, none⟩ = some (.int .i64 4) ∧ w7.cell? ⟨w.heap.size, 7, none⟩ = some (.slice as1 l.length cs1)) ∧ (∀ q, w7.cell? ⟨w.heap.size + 1, q, none⟩ = (w.alloc (.cells #[.int .i64 0, .int .i64 0, .int .i64 0, .int .i64 0, .int .i64 0, .int .i64 0, .string ⟨#[]⟩, .slice none 0 0] 31)).cell? ⟨w.heap.size, q, none⟩) ∧ (∀ q, w7.frozen? ⟨w.heap.size + 1, q, none⟩ = false) ∧ Below w.heap.size w w7 ∧ PdL (fun k => w.heap.size + 2 ≤ k) n w7 v (l.map (mpP cols)) ∧ w7.heap[w.heap.size]? = W.heap[w.heap.size]?) := fun w7 v h1 h2 => by
    have e : ∀ b, b < W.heap.size → w7.heap[b]? = W.heap[b]? := fun b hb => h2.block b hb
    have e0 := e w.heap.size (by omega)
    have e1 := e (w.heap.size + 1) (by omega)
    refine ⟨⟨(World.cell?_of_block (w := W) e0).trans x0, (World.cell?_of_block (w := W) e0).trans x7⟩, fun q => (World.cell?_of_block (w := W) e1).trans (yc q), fun q => (World.frozen?_of_block (w := W) e1).trans (yf q), hB.drew.trans (h2.mono hB.size), h1.mono (fun k hk _ => ?_), e0⟩
    have : W.heap.size ≤ k := hk
    omega
  have HG : Hid (∀ w7 v x0 x1 x2 x3 x4 x5 x6 x7, PdL (fun k => w.heap.size + 2 ≤ k) n w7 v (l.map (mpP cols)) → PdL (fun k => w.heap.size ≤ k) n ((((((((w7.setCell ⟨w.heap.size + 1, 0, none⟩ x0).setCell ⟨w.heap.size + 1, 1, none⟩ x1).setCell ⟨w.heap.size + 1, 2, none⟩ x2).setCell ⟨w.heap.size + 1, 3, none⟩ x3).setCell ⟨w.heap.size + 1, 4, none⟩ x4).setCell ⟨w.heap.size + 1, 5, none⟩ x5).setCell ⟨w.heap.size + 1, 6, none⟩ x6).setCell ⟨w.heap.size + 1, 7, none⟩ x7) v (l.map (mpP cols))) := fun w7 v x0 x1 x2 x3 x4 x5 x6 x7 h => by
    have e := put8_heap (w := w7) (R := w.heap.size + 1) x0 x1 x2 x3 x4 x5 x6 x7
    exact (h.kept (Nat.le_of_eq e.2.symm) (fun k hk _ => e.1 k (by omega))).mono (fun k hk _ => by omega)
  have KX : Hid (∀ V : World, V.heap[w.heap.size]? = W.heap[w.heap.size]? → V.cell? ⟨w.heap.size, 0, none⟩ = some (.int .i64 4) ∧ V.cell? ⟨w.heap.size, 7, none⟩ = some (.slice as1 l.length cs1)) := fun V hV => ⟨(World.cell?_of_block (w := W) hV).trans x0, (World.cell?_of_block (w := W) hV).trans x7⟩
  have KD : Hid (W.drew.cell? ⟨w.heap.size, 0, none⟩ = some (.int .i64 4) ∧ W.drew.cell? ⟨w.heap.size, 7, none⟩ = some (.slice as1 l.length cs1)) := KX.out _ (drew_heap _ _)
  have K8 : Hid (∀ (V : World) (x0 x1 x2 x3 x4 x5 x6 x7 : Value), V.heap[w.heap.size]? = W.heap[w.heap.size]? → ((((((((V.setCell ⟨w.heap.size + 1, 0, none⟩ x0).setCell ⟨w.heap.size + 1, 1, none⟩ x1).setCell ⟨w.heap.size + 1, 2, none⟩ x2).setCell ⟨w.heap.size + 1, 3, none⟩ x3).setCell ⟨w.heap.size + 1, 4, none⟩ x4).setCell ⟨w.heap.size + 1, 5, none⟩ x5).setCell ⟨w.heap.size + 1, 6, none⟩ x6).setCell ⟨w.heap.size + 1, 7, none⟩ x7).cell? ⟨w.heap.size, 0, none⟩ = some (.int .i64 4) ∧ ((((((((V.setCell ⟨w.heap.size + 1, 0, none⟩ x0).setCell ⟨w.heap.size + 1, 1, none⟩ x1).setCell ⟨w.heap.size + 1, 2, none⟩ x2).setCell ⟨w.heap.size + 1, 3, none⟩ x3).setCell ⟨w.heap.size + 1, 4, none⟩ x4).setCell ⟨w.heap.size + 1, 5, none⟩ x5).setCell ⟨w.heap.size + 1, 6, none⟩ x6).setCell ⟨w.heap.size + 1, 7, none⟩ x7).cell? ⟨w.heap.size, 7, none⟩ = some (.slice as1 l.length cs1)) := fun V x0 x1 x2 x3 x4 x5 x6 x7 hV => KX.out _ (((put8_heap (w := V) (R := w.heap.size + 1) x0 x1 x2 x3 x4 x5 x6 x7).1 _ (Nat.ne_of_lt (Nat.lt_succ_self _))).trans hV)
  clear HW hW hB HQ Hc hz x1 x2 x3 x4 x5 x6
  go_wp2_with fail
  go_region_held3 (fun w' => w'.cell? ⟨w.heap.size, 0, none⟩ = some (.int .i64 4) ∧ w'.cell? ⟨w.heap.size, 7, none⟩ = some (.slice as1 l.length cs1))
    (first | with_reducible exact KD.out | with_reducible exact S7.out | with_reducible exact K8.out _ _ _ _ _ _ _ _ _ E7.out)
    ((go_at_call 20; refine QQ.out.mono ?_; rintro e w7 ⟨v7, rfl, g1, g2⟩; obtain ⟨s7, yc7, yf7, hb7, g7, e7⟩ := HF.out _ _ g1 g2; obtain ⟨a7, n7, hv7⟩ := g1.form; subst hv7; have H7 : Hid _ := hb7; have G7 : Hid _ := g7; have S7 : Hid _ := s7; have E7 : Hid _ := e7; clear g1 g2 hb7 g7 s7 e7))
  all_goals
    go_wp2_with fail
    have fin := below8 H7.out (.int .i64 4) (.int .i64 0) (.int .i64 0) (.int .i64 0) (.int .i64 0) (.int .i64 0) (.string ⟨#[]⟩) (.slice a7 l.length n7)
    have G8 := G7.out
    rw [List.length_map] at G8
    exact bodyPost_ret (v := .agg #[.int .i64 4, .int .i64 0, .int .i64 0, .int .i64 0, .int .i64 0, .int .i64 0, .string ⟨#[]⟩, .slice a7 l.length n7]) (by simp [results, Try.results11, go_sem, yc7]) rfl (HE.out _ _ fin (HG.out _ _ _ _ _ _ _ _ _ _ G8))
set_option maxHeartbeats 4000000 in
theorem map5 (cols : List Int) (a0 : Option Addr) (cap0 : Nat) (n : Nat) (s : Value) (c o d vk vn : Int) (vs : ByteArray) (l : List Pd) (w : World) (hc : IntsIs w (.slice a0 cols.length cap0) cols) (ih : ∀ m, n = m + 1 → MapAt m) (F : Nat → Prop) (h : PdL F n w s l) (hs : ∀ m, n = m + 1 → ∀ q ∈ l, Slim m q) (hl : l.length ≤ 65536) :
    Calls Try.prog 11 #[.agg #[.int .i64 5, .int .i64 c, .int .i64 o, .int .i64 d, .int .i64 vk, .int .i64 vn, .string vs, s], .slice a0 cols.length cap0] w (MapEnd cols n ⟨5, c, o, d, (vk, vn, vs), l⟩ w) := by
  have HE : Hid (∀ w' v, Below w.heap.size w w' → PdL (fun k => w.heap.size ≤ k) n w' v (l.map (mpP cols)) → MapEnd cols n ⟨5, c, o, d, (vk, vn, vs), l⟩ w (.returned (.agg #[.int .i64 5, .int .i64 0, .int .i64 0, .int .i64 0, .int .i64 0, .int .i64 0, .string ⟨#[]⟩, v])) w') := fun w' v h h' => by
    refine ⟨v, ?_, ?_, h⟩
    · rw [mpP_eq]; rfl
    · rw [mpP_eq]; exact h'
  have HW : Hid (∀ W, W = (w.alloc (.cells #[.int .i64 5, .int .i64 c, .int .i64 o, .int .i64 d, .int .i64 vk, .int .i64 vn, .string vs, s] 31)).alloc (.cells #[.int .i64 0, .int .i64 0, .int .i64 0, .int .i64 0, .int .i64 0, .int .i64 0, .string ⟨#[]⟩, .slice none 0 0] 31) → _) := map_boxes w 5 c o d vk vn vs s
  have Hc : Hid (IntsIs w (.slice a0 cols.length cap0) cols) := hc
  have HQ : Hid (∀ W', Below w.heap.size w W' → Calls Try.prog 20 #[s, .slice a0 cols.length cap0] W' fun e w' => ∃ v, e = .returned v ∧ PdL (fun k => W'.heap.size ≤ k) n w' v (l.map (mpP cols)) ∧ Below W'.heap.size W' w') := fun W' hW => predMapAll n ih F s _ l cols W' (h.on hW) hs hl (Hc.out.on hW)
  obtain ⟨as1, cs1, hs1⟩ := h.form
  subst hs1
  clear hc ih h hs
  go_enter Try.func11, Try.ntmps11
  go_wp2_with fail
  obtain ⟨W, hW⟩ : ∃ W, W = (w.alloc (.cells #[.int .i64 5, .int .i64 c, .int .i64 o, .int .i64 d, .int .i64 vk, .int .i64 vn, .string vs, .slice as1 l.length cs1] 31)).alloc (.cells #[.int .i64 0, .int .i64 0, .int .i64 0, .int .i64 0, .int .i64 0, .int .i64 0, .string ⟨#[]⟩, .slice none 0 0] 31) := ⟨_, rfl⟩
  rw [← hW]
  obtain ⟨⟨x0, x1, x2, x3, x4, x5, x6, x7⟩, ⟨yc, yf⟩, hB, hz⟩ := HW.out W hW
  have B1 : Hid (Below w.heap.size w W) := hB
  have QQ : Hid (Calls Try.prog 20 #[.slice as1 l.length cs1, .slice a0 cols.length cap0] W.drew fun e w' => ∃ v, e = .returned v ∧ PdL (fun k => W.drew.heap.size ≤ k) n w' v (l.map (mpP cols)) ∧ Below W.drew.heap.size W.drew w') := HQ.out W.drew hB.drew
  simp only [Nat.zero_add] at x7
  have HF : Hid (∀ w7 v, PdL (fun k => W.drew.heap.size ≤ k) n w7 v (l.map (mpP cols)) → Below W.drew.heap.size W.drew w7 → (w7.cell? ⟨w.heap.size, 0, none⟩ = some (.int .i64 5) ∧ w7.cell? ⟨w.heap.size, 7, none⟩ = some (.slice as1 l.length cs1)) ∧ (∀ q, w7.cell? ⟨w.heap.size + 1, q, none⟩ = (w.alloc (.cells #[.int .i64 0, .int .i64 0, .int .i64 0, .int .i64 0, .int .i64 0, .int .i64 0, .string ⟨#[]⟩, .slice none 0 0] 31)).cell? ⟨w.heap.size, q, none⟩) ∧ (∀ q, w7.frozen? ⟨w.heap.size + 1, q, none⟩ = false) ∧ Below w.heap.size w w7 ∧ PdL (fun k => w.heap.size + 2 ≤ k) n w7 v (l.map (mpP cols)) ∧ w7.heap[w.heap.size]? = W.heap[w.heap.size]?) := fun w7 v h1 h2 => by
    have e : ∀ b, b < W.heap.size → w7.heap[b]? = W.heap[b]? := fun b hb => h2.block b hb
    have e0 := e w.heap.size (by omega)
    have e1 := e (w.heap.size + 1) (by omega)
    refine ⟨⟨(World.cell?_of_block (w := W) e0).trans x0, (World.cell?_of_block (w := W) e0).trans x7⟩, fun q => (World.cell?_of_block (w := W) e1).trans (yc q), fun q => (World.frozen?_of_block (w := W) e1).trans (yf q), hB.drew.trans (h2.mono hB.size), h1.mono (fun k hk _ => ?_), e0⟩
    have : W.heap.size ≤ k := hk
    omega
  have HG : Hid (∀ w7 v x0 x1 x2 x3 x4 x5 x6 x7, PdL (fun k => w.heap.size + 2 ≤ k) n w7 v (l.map (mpP cols)) → PdL (fun k => w.heap.size ≤ k) n ((((((((w7.setCell ⟨w.heap.size + 1, 0, none⟩ x0).setCell ⟨w.heap.size + 1, 1, none⟩ x1).setCell ⟨w.heap.size + 1, 2, none⟩ x2).setCell ⟨w.heap.size + 1, 3, none⟩ x3).setCell ⟨w.heap.size + 1, 4, none⟩ x4).setCell ⟨w.heap.size + 1, 5, none⟩ x5).setCell ⟨w.heap.size + 1, 6, none⟩ x6).setCell ⟨w.heap.size + 1, 7, none⟩ x7) v (l.map (mpP cols))) := fun w7 v x0 x1 x2 x3 x4 x5 x6 x7 h => by
    have e := put8_heap (w := w7) (R := w.heap.size + 1) x0 x1 x2 x3 x4 x5 x6 x7
    exact (h.kept (Nat.le_of_eq e.2.symm) (fun k hk _ => e.1 k (by omega))).mono (fun k hk _ => by omega)
  have KX : Hid (∀ V : World, V.heap[w.heap.size]? = W.heap[w.heap.size]? → V.cell? ⟨w.heap.size, 0, none⟩ = some (.int .i64 5) ∧ V.cell? ⟨w.heap.size, 7, none⟩ = some (.slice as1 l.length cs1)) := fun V hV => ⟨(World.cell?_of_block (w := W) hV).trans x0, (World.cell?_of_block (w := W) hV).trans x7⟩
  have KD : Hid (W.drew.cell? ⟨w.heap.size, 0, none⟩ = some (.int .i64 5) ∧ W.drew.cell? ⟨w.heap.size, 7, none⟩ = some (.slice as1 l.length cs1)) := KX.out _ (drew_heap _ _)
  have K8 : Hid (∀ (V : World) (x0 x1 x2 x3 x4 x5 x6 x7 : Value), V.heap[w.heap.size]? = W.heap[w.heap.size]? → ((((((((V.setCell ⟨w.heap.size + 1, 0, none⟩ x0).setCell ⟨w.heap.size + 1, 1, none⟩ x1).setCell ⟨w.heap.size + 1, 2, none⟩ x2).setCell ⟨w.heap.size + 1, 3, none⟩ x3).setCell ⟨w.heap.size + 1, 4, none⟩ x4).setCell ⟨w.heap.size + 1, 5, none⟩ x5).setCell ⟨w.heap.size + 1, 6, none⟩ x6).setCell ⟨w.heap.size + 1, 7, none⟩ x7).cell? ⟨w.heap.size, 0, none⟩ = some (.int .i64 5) ∧ ((((((((V.setCell ⟨w.heap.size + 1, 0, none⟩ x0).setCell ⟨w.heap.size + 1, 1, none⟩ x1).setCell ⟨w.heap.size + 1, 2, none⟩ x2).setCell ⟨w.heap.size + 1, 3, none⟩ x3).setCell ⟨w.heap.size + 1, 4, none⟩ x4).setCell ⟨w.heap.size + 1, 5, none⟩ x5).setCell ⟨w.heap.size + 1, 6, none⟩ x6).setCell ⟨w.heap.size + 1, 7, none⟩ x7).cell? ⟨w.heap.size, 7, none⟩ = some (.slice as1 l.length cs1)) := fun V x0 x1 x2 x3 x4 x5 x6 x7 hV => KX.out _ (((put8_heap (w := V) (R := w.heap.size + 1) x0 x1 x2 x3 x4 x5 x6 x7).1 _ (Nat.ne_of_lt (Nat.lt_succ_self _))).trans hV)
  clear HW hW hB HQ Hc hz x1 x2 x3 x4 x5 x6
  go_wp2_with fail
  go_region_held3 (fun w' => w'.cell? ⟨w.heap.size, 0, none⟩ = some (.int .i64 5) ∧ w'.cell? ⟨w.heap.size, 7, none⟩ = some (.slice as1 l.length cs1))
    (first | with_reducible exact KD.out | with_reducible exact S7.out | with_reducible exact K8.out _ _ _ _ _ _ _ _ _ E7.out)
    ((go_at_call 20; refine QQ.out.mono ?_; rintro e w7 ⟨v7, rfl, g1, g2⟩; obtain ⟨s7, yc7, yf7, hb7, g7, e7⟩ := HF.out _ _ g1 g2; obtain ⟨a7, n7, hv7⟩ := g1.form; subst hv7; have H7 : Hid _ := hb7; have G7 : Hid _ := g7; have S7 : Hid _ := s7; have E7 : Hid _ := e7; clear g1 g2 hb7 g7 s7 e7))
  all_goals
    go_wp2_with fail
    have fin := below8 H7.out (.int .i64 5) (.int .i64 0) (.int .i64 0) (.int .i64 0) (.int .i64 0) (.int .i64 0) (.string ⟨#[]⟩) (.slice a7 l.length n7)
    have G8 := G7.out
    rw [List.length_map] at G8
    exact bodyPost_ret (v := .agg #[.int .i64 5, .int .i64 0, .int .i64 0, .int .i64 0, .int .i64 0, .int .i64 0, .string ⟨#[]⟩, .slice a7 l.length n7]) (by simp [results, Try.results11, go_sem, yc7]) rfl (HE.out _ _ fin (HG.out _ _ _ _ _ _ _ _ _ _ G8))
set_option maxHeartbeats 4000000 in
theorem map6 (cols : List Int) (a0 : Option Addr) (cap0 : Nat) (n : Nat) (s : Value) (c o d vk vn : Int) (vs : ByteArray) (l : List Pd) (w : World) (hc : IntsIs w (.slice a0 cols.length cap0) cols) (ih : ∀ m, n = m + 1 → MapAt m) (F : Nat → Prop) (h : PdL F n w s l) (hs : ∀ m, n = m + 1 → ∀ q ∈ l, Slim m q) (hl : l.length ≤ 65536) :
    Calls Try.prog 11 #[.agg #[.int .i64 6, .int .i64 c, .int .i64 o, .int .i64 d, .int .i64 vk, .int .i64 vn, .string vs, s], .slice a0 cols.length cap0] w (MapEnd cols n ⟨6, c, o, d, (vk, vn, vs), l⟩ w) := by
  have HE : Hid (∀ w' v, Below w.heap.size w w' → PdL (fun k => w.heap.size ≤ k) n w' v (l.map (mpP cols)) → MapEnd cols n ⟨6, c, o, d, (vk, vn, vs), l⟩ w (.returned (.agg #[.int .i64 6, .int .i64 0, .int .i64 0, .int .i64 0, .int .i64 0, .int .i64 0, .string ⟨#[]⟩, v])) w') := fun w' v h h' => by
    refine ⟨v, ?_, ?_, h⟩
    · rw [mpP_eq]; rfl
    · rw [mpP_eq]; exact h'
  have HW : Hid (∀ W, W = (w.alloc (.cells #[.int .i64 6, .int .i64 c, .int .i64 o, .int .i64 d, .int .i64 vk, .int .i64 vn, .string vs, s] 31)).alloc (.cells #[.int .i64 0, .int .i64 0, .int .i64 0, .int .i64 0, .int .i64 0, .int .i64 0, .string ⟨#[]⟩, .slice none 0 0] 31) → _) := map_boxes w 6 c o d vk vn vs s
  have Hc : Hid (IntsIs w (.slice a0 cols.length cap0) cols) := hc
  have HQ : Hid (∀ W', Below w.heap.size w W' → Calls Try.prog 20 #[s, .slice a0 cols.length cap0] W' fun e w' => ∃ v, e = .returned v ∧ PdL (fun k => W'.heap.size ≤ k) n w' v (l.map (mpP cols)) ∧ Below W'.heap.size W' w') := fun W' hW => predMapAll n ih F s _ l cols W' (h.on hW) hs hl (Hc.out.on hW)
  obtain ⟨as1, cs1, hs1⟩ := h.form
  subst hs1
  clear hc ih h hs
  go_enter Try.func11, Try.ntmps11
  go_wp2_with fail
  obtain ⟨W, hW⟩ : ∃ W, W = (w.alloc (.cells #[.int .i64 6, .int .i64 c, .int .i64 o, .int .i64 d, .int .i64 vk, .int .i64 vn, .string vs, .slice as1 l.length cs1] 31)).alloc (.cells #[.int .i64 0, .int .i64 0, .int .i64 0, .int .i64 0, .int .i64 0, .int .i64 0, .string ⟨#[]⟩, .slice none 0 0] 31) := ⟨_, rfl⟩
  rw [← hW]
  obtain ⟨⟨x0, x1, x2, x3, x4, x5, x6, x7⟩, ⟨yc, yf⟩, hB, hz⟩ := HW.out W hW
  have B1 : Hid (Below w.heap.size w W) := hB
  have QQ : Hid (Calls Try.prog 20 #[.slice as1 l.length cs1, .slice a0 cols.length cap0] W.drew fun e w' => ∃ v, e = .returned v ∧ PdL (fun k => W.drew.heap.size ≤ k) n w' v (l.map (mpP cols)) ∧ Below W.drew.heap.size W.drew w') := HQ.out W.drew hB.drew
  simp only [Nat.zero_add] at x7
  have HF : Hid (∀ w7 v, PdL (fun k => W.drew.heap.size ≤ k) n w7 v (l.map (mpP cols)) → Below W.drew.heap.size W.drew w7 → (w7.cell? ⟨w.heap.size, 0, none⟩ = some (.int .i64 6) ∧ w7.cell? ⟨w.heap.size, 7, none⟩ = some (.slice as1 l.length cs1)) ∧ (∀ q, w7.cell? ⟨w.heap.size + 1, q, none⟩ = (w.alloc (.cells #[.int .i64 0, .int .i64 0, .int .i64 0, .int .i64 0, .int .i64 0, .int .i64 0, .string ⟨#[]⟩, .slice none 0 0] 31)).cell? ⟨w.heap.size, q, none⟩) ∧ (∀ q, w7.frozen? ⟨w.heap.size + 1, q, none⟩ = false) ∧ Below w.heap.size w w7 ∧ PdL (fun k => w.heap.size + 2 ≤ k) n w7 v (l.map (mpP cols)) ∧ w7.heap[w.heap.size]? = W.heap[w.heap.size]?) := fun w7 v h1 h2 => by
    have e : ∀ b, b < W.heap.size → w7.heap[b]? = W.heap[b]? := fun b hb => h2.block b hb
    have e0 := e w.heap.size (by omega)
    have e1 := e (w.heap.size + 1) (by omega)
    refine ⟨⟨(World.cell?_of_block (w := W) e0).trans x0, (World.cell?_of_block (w := W) e0).trans x7⟩, fun q => (World.cell?_of_block (w := W) e1).trans (yc q), fun q => (World.frozen?_of_block (w := W) e1).trans (yf q), hB.drew.trans (h2.mono hB.size), h1.mono (fun k hk _ => ?_), e0⟩
    have : W.heap.size ≤ k := hk
    omega
  have HG : Hid (∀ w7 v x0 x1 x2 x3 x4 x5 x6 x7, PdL (fun k => w.heap.size + 2 ≤ k) n w7 v (l.map (mpP cols)) → PdL (fun k => w.heap.size ≤ k) n ((((((((w7.setCell ⟨w.heap.size + 1, 0, none⟩ x0).setCell ⟨w.heap.size + 1, 1, none⟩ x1).setCell ⟨w.heap.size + 1, 2, none⟩ x2).setCell ⟨w.heap.size + 1, 3, none⟩ x3).setCell ⟨w.heap.size + 1, 4, none⟩ x4).setCell ⟨w.heap.size + 1, 5, none⟩ x5).setCell ⟨w.heap.size + 1, 6, none⟩ x6).setCell ⟨w.heap.size + 1, 7, none⟩ x7) v (l.map (mpP cols))) := fun w7 v x0 x1 x2 x3 x4 x5 x6 x7 h => by
    have e := put8_heap (w := w7) (R := w.heap.size + 1) x0 x1 x2 x3 x4 x5 x6 x7
    exact (h.kept (Nat.le_of_eq e.2.symm) (fun k hk _ => e.1 k (by omega))).mono (fun k hk _ => by omega)
  have KX : Hid (∀ V : World, V.heap[w.heap.size]? = W.heap[w.heap.size]? → V.cell? ⟨w.heap.size, 0, none⟩ = some (.int .i64 6) ∧ V.cell? ⟨w.heap.size, 7, none⟩ = some (.slice as1 l.length cs1)) := fun V hV => ⟨(World.cell?_of_block (w := W) hV).trans x0, (World.cell?_of_block (w := W) hV).trans x7⟩
  have KD : Hid (W.drew.cell? ⟨w.heap.size, 0, none⟩ = some (.int .i64 6) ∧ W.drew.cell? ⟨w.heap.size, 7, none⟩ = some (.slice as1 l.length cs1)) := KX.out _ (drew_heap _ _)
  have K8 : Hid (∀ (V : World) (x0 x1 x2 x3 x4 x5 x6 x7 : Value), V.heap[w.heap.size]? = W.heap[w.heap.size]? → ((((((((V.setCell ⟨w.heap.size + 1, 0, none⟩ x0).setCell ⟨w.heap.size + 1, 1, none⟩ x1).setCell ⟨w.heap.size + 1, 2, none⟩ x2).setCell ⟨w.heap.size + 1, 3, none⟩ x3).setCell ⟨w.heap.size + 1, 4, none⟩ x4).setCell ⟨w.heap.size + 1, 5, none⟩ x5).setCell ⟨w.heap.size + 1, 6, none⟩ x6).setCell ⟨w.heap.size + 1, 7, none⟩ x7).cell? ⟨w.heap.size, 0, none⟩ = some (.int .i64 6) ∧ ((((((((V.setCell ⟨w.heap.size + 1, 0, none⟩ x0).setCell ⟨w.heap.size + 1, 1, none⟩ x1).setCell ⟨w.heap.size + 1, 2, none⟩ x2).setCell ⟨w.heap.size + 1, 3, none⟩ x3).setCell ⟨w.heap.size + 1, 4, none⟩ x4).setCell ⟨w.heap.size + 1, 5, none⟩ x5).setCell ⟨w.heap.size + 1, 6, none⟩ x6).setCell ⟨w.heap.size + 1, 7, none⟩ x7).cell? ⟨w.heap.size, 7, none⟩ = some (.slice as1 l.length cs1)) := fun V x0 x1 x2 x3 x4 x5 x6 x7 hV => KX.out _ (((put8_heap (w := V) (R := w.heap.size + 1) x0 x1 x2 x3 x4 x5 x6 x7).1 _ (Nat.ne_of_lt (Nat.lt_succ_self _))).trans hV)
  clear HW hW hB HQ Hc hz x1 x2 x3 x4 x5 x6
  go_wp2_with fail
  go_region_held3 (fun w' => w'.cell? ⟨w.heap.size, 0, none⟩ = some (.int .i64 6) ∧ w'.cell? ⟨w.heap.size, 7, none⟩ = some (.slice as1 l.length cs1))
    (first | with_reducible exact KD.out | with_reducible exact S7.out | with_reducible exact K8.out _ _ _ _ _ _ _ _ _ E7.out)
    ((go_at_call 20; refine QQ.out.mono ?_; rintro e w7 ⟨v7, rfl, g1, g2⟩; obtain ⟨s7, yc7, yf7, hb7, g7, e7⟩ := HF.out _ _ g1 g2; obtain ⟨a7, n7, hv7⟩ := g1.form; subst hv7; have H7 : Hid _ := hb7; have G7 : Hid _ := g7; have S7 : Hid _ := s7; have E7 : Hid _ := e7; clear g1 g2 hb7 g7 s7 e7))
  all_goals
    go_wp2_with fail
    have fin := below8 H7.out (.int .i64 6) (.int .i64 0) (.int .i64 0) (.int .i64 0) (.int .i64 0) (.int .i64 0) (.string ⟨#[]⟩) (.slice a7 l.length n7)
    have G8 := G7.out
    rw [List.length_map] at G8
    exact bodyPost_ret (v := .agg #[.int .i64 6, .int .i64 0, .int .i64 0, .int .i64 0, .int .i64 0, .int .i64 0, .string ⟨#[]⟩, .slice a7 l.length n7]) (by simp [results, Try.results11, go_sem, yc7]) rfl (HE.out _ _ fin (HG.out _ _ _ _ _ _ _ _ _ _ G8))
set_option maxHeartbeats 2000000 in
theorem mapNo (cols : List Int) (a0 : Option Addr) (cap0 : Nat) (n : Nat) (s : Value) (k c o d vk vn : Int) (vs : ByteArray) (l : List Pd) (w : World) (hk : ¬ (1 ≤ k ∧ k ≤ 6)) :
    Calls Try.prog 11 #[.agg #[.int .i64 k, .int .i64 c, .int .i64 o, .int .i64 d, .int .i64 vk, .int .i64 vn, .string vs, s], .slice a0 cols.length cap0] w (MapEnd cols n ⟨k, c, o, d, (vk, vn, vs), l⟩ w) := by
  have HE : Hid (∀ w', Below w.heap.size w w' → MapEnd cols n ⟨k, c, o, d, (vk, vn, vs), l⟩ w (.returned (.agg #[.int .i64 k, .int .i64 0, .int .i64 0, .int .i64 0, .int .i64 0, .int .i64 0, .string ⟨#[]⟩, .slice none 0 0])) w') := fun w' h => by
    have e : mpP cols ⟨k, c, o, d, (vk, vn, vs), l⟩ = ⟨k, 0, 0, 0, nul, []⟩ := by
      rw [mpP_eq]
      simp only
      rw [if_neg (by omega), if_neg (by omega), if_neg (by omega), if_neg (by omega)]
    refine ⟨.slice none 0 0, ?_, ?_, h⟩
    · rw [e]; rfl
    · rw [e]; exact PdL.nil _ _ _ _ _
  have b1 : (k == 1) = false := beq_false_of_ne (by omega)
  have b2 : (k == 2) = false := beq_false_of_ne (by omega)
  have b3 : (k == 3) = false := beq_false_of_ne (by omega)
  have b4 : (k == 4) = false := beq_false_of_ne (by omega)
  have b5 : (k == 5) = false := beq_false_of_ne (by omega)
  have b6 : (k == 6) = false := beq_false_of_ne (by omega)
  clear hk
  go_enter Try.func11, Try.ntmps11
  go_wp2_with fail
  exact bodyPost_ret (v := .agg #[.int .i64 k, .int .i64 0, .int .i64 0, .int .i64 0, .int .i64 0, .int .i64 0, .string ⟨#[]⟩, .slice none 0 0]) (by simp [results, Try.results11, go_sem]) rfl (HE.out _ two_boxes)
theorem mapStep (n : Nat) (ih : ∀ m, n = m + 1 → MapAt m) : MapAt n := by
  intro F p s cv cols w hS hp hc
  obtain ⟨a0, cap0, rfl⟩ := hc.form
  have hl := hS.len
  have hs : ∀ m, n = m + 1 → ∀ q ∈ p.l, Slim m q := fun m e => by subst e; exact hS.2
  obtain ⟨k, c, o, d, ⟨vk, vn, vs⟩, l⟩ := p
  simp only at hp hl hs
  unfold pv
  simp only
  by_cases k1 : k = 1
  · subst k1; exact map1 cols a0 cap0 n s c o d vk vn vs l w hc
  by_cases k2 : k = 2
  · subst k2; exact map2 cols a0 cap0 n s c o d vk vn vs l w hc
  by_cases k3 : k = 3
  · subst k3; exact map3 cols a0 cap0 n s c o d vk vn vs l w hc
  by_cases k4 : k = 4
  · subst k4; exact map4 cols a0 cap0 n s c o d vk vn vs l w hc ih F hp hs hl
  by_cases k5 : k = 5
  · subst k5; exact map5 cols a0 cap0 n s c o d vk vn vs l w hc ih F hp hs hl
  by_cases k6 : k = 6
  · subst k6; exact map6 cols a0 cap0 n s c o d vk vn vs l w hc ih F hp hs hl
  · exact mapNo cols a0 cap0 n s k c o d vk vn vs l w (by omega)
/-- What pred.Map answers. -/
theorem predMap : ∀ n, MapAt n := by
  intro n
  induction n with
  | zero => exact mapStep 0 (fun m h => by omega)
  | succ n ih => exact mapStep (n + 1) (fun m h => (show n = m by omega) ▸ ih)
end Go.Proofs.Ytiphnbpkliglcaa
