/- What pred.Map answers of predicates in memory: a predicate by other columns, in new memory. -/
import Derived.Test.YtiphnbpkliglcaaPdMk
import Derived.Maps.AppendAt
import Derived.Deep.RegionHeld3
import Derived.Deep.DrawnRows
import Derived.Test.YtiphnbpkliglcaaPdHolds
namespace Go.Proofs.Ytiphnbpkliglcaa
open Go.RowKit Go.Sort
set_option maxRecDepth 100000
set_option linter.unusedVariables false
attribute [local go_sem ↓] Go.wp_at_zero Go.wp_at_succ

set_option maxHeartbeats 1000000 in
theorem predMapped (cols : List Int) (cv : Value) (c : Int) (w : World) (hc : IntsIs w cv cols) :
    Calls Try.prog 19 #[.int .i64 c, cv] w fun e w' => e = .returned (.int .i64 (mpC cols c)) ∧ w' = w := by
  have la := hc.le
  unfold maxLen at la
  obtain ⟨a0, cap0, rfl⟩ := hc.form
  by_cases k0 : c < 0
  · have E : Hid (mpC cols c = c) := by show mpC cols c = c; unfold mpC; rw [if_neg (by omega)]
    clear hc
    go_enter Try.func19, Try.ntmps19
    go_wp2_with fail
    go_ret
    exact ⟨retI (by rw [E.out]), rfl⟩
  · by_cases k1 : c < (cols.length : Int)
    · have hl : c.toNat < cols.length := by omega
      obtain ⟨b, o, cap, e⟩ := hc.addr (by intro e; rw [e] at hl; simp at hl)
      rw [e] at hc ⊢
      have x0 := hc.at c.toNat hl
      have E : Hid (mpC cols c = cols[c.toNat]) := by show mpC cols c = _; unfold mpC; rw [if_pos (by omega), List.getD_eq_getElem?_getD, List.getElem?_eq_getElem hl]; rfl
      have I4 : 0 ≤ c := by omega
      clear hc e
      generalize cols[c.toNat] = x at *
      go_enter Try.func19, Try.ntmps19
      go_wp2_with fail
      go_ret
      exact ⟨retI (by rw [E.out]), rfl⟩
    · have I3 : (cols.length : Int) ≤ c := by omega
      have E : Hid (mpC cols c = c) := by show mpC cols c = c; unfold mpC; rw [if_pos (by omega), List.getD_eq_getElem?_getD, List.getElem?_eq_none (by omega)]; rfl
      clear hc
      go_enter Try.func19, Try.ntmps19
      go_wp2_with fail
      go_ret
      exact ⟨retI (by rw [E.out]), rfl⟩
/-- No part has more parts than may be asked. -/
def Slim : Nat → Pd → Prop
  | 0, p => p.l.length ≤ 65536
  | n + 1, p => p.l.length ≤ 65536 ∧ ∀ q ∈ p.l, Slim n q
theorem Slim.len {n : Nat} {p : Pd} (h : Slim n p) : p.l.length ≤ 65536 := by
  cases n with
  | zero => exact h
  | succ n => exact h.1
theorem MkP.slim {ok : Val → Prop} {ks : List Int} : ∀ {n : Nat} {p : Pd}, MkP ok ks n p → Slim n p := by
  have leaf : ∀ p, LeafP ks p → p.l = [] := by
    intro p h
    rcases h with ⟨i, o, v, hi, _, _, _, _, rfl⟩ | ⟨i, j, o, hi, hj, _, _, _, rfl⟩ | ⟨i, hi, rfl⟩ <;> rfl
  intro n
  induction n with
  | zero => intro p h; show p.l.length ≤ 65536; rw [leaf p h.1]; simp
  | succ n ih =>
    intro p h
    rcases h with h | ⟨q, rfl, hq⟩ | ⟨k, l, rfl, hk, h2, h3, hl⟩
    · exact ⟨by rw [leaf p h.1]; simp, fun q hq => by rw [leaf p h.1] at hq; cases hq⟩
    · exact ⟨by simp, fun x hx => by rw [List.mem_singleton.1 hx]; exact ih hq⟩
    · exact ⟨by show l.length ≤ 65536; omega, fun x hx => ih (hl x hx)⟩
/-- What a call of Map leaves. -/
def MapEnd (cols : List Int) (n : Nat) (p : Pd) (w : World) (e : Ending) (w' : World) : Prop :=
  ∃ s', e = .returned (pv (mpP cols p) s') ∧ PdL (fun k => w.heap.size ≤ k) n w' s' (mpP cols p).l ∧ Below w.heap.size w w'
def MapAt (n : Nat) : Prop := ∀ (F : Nat → Prop) (p : Pd) (s cv : Value) (cols : List Int) (w : World), Slim n p → PdL F n w s p.l → IntsIs w cv cols → Calls Try.prog 11 #[pv p s, cv] w (MapEnd cols n p w)
theorem drew_heap (W : World) (k : Nat) : W.drew.heap[k]? = W.heap[k]? := rfl
theorem hb_refl {w : World} : Hid (Below w.heap.size w w) := Below.refl _ _
theorem hb_drew {w w' : World} (h : Hid (Below w.heap.size w w')) : Hid (Below w.heap.size w w'.drew) := Below.drew h
/-- The cells of the box of the result, while they may be written. -/
def resAt (R : Nat) (w' : World) : Prop := PdBox R ⟨0, 0, 0, 0, nul, []⟩ (.slice none 0 0) w'
/-- The two boxes that a call lays: the predicate, the result. -/
theorem map_boxes (w : World) (k c o d vk vn : Int) (vs : ByteArray) (s : Value) (W : World) (hW : W = (w.alloc (.cells #[.int .i64 k, .int .i64 c, .int .i64 o, .int .i64 d, .int .i64 vk, .int .i64 vn, .string vs, s] 31)).alloc (.cells #[.int .i64 0, .int .i64 0, .int .i64 0, .int .i64 0, .int .i64 0, .int .i64 0, .string ⟨#[]⟩, .slice none 0 0] 31)) :
    PdAt W w.heap.size 0 ⟨k, c, o, d, (vk, vn, vs), []⟩ s ∧ ((∀ q, W.cell? ⟨w.heap.size + 1, q, none⟩ = (w.alloc (.cells #[.int .i64 0, .int .i64 0, .int .i64 0, .int .i64 0, .int .i64 0, .int .i64 0, .string ⟨#[]⟩, .slice none 0 0] 31)).cell? ⟨w.heap.size, q, none⟩) ∧ ∀ q, W.frozen? ⟨w.heap.size + 1, q, none⟩ = false) ∧ Below w.heap.size w W ∧ W.heap.size = w.heap.size + 2 := by
  have h1 := PdAt.box w ⟨k, c, o, d, (vk, vn, vs), []⟩ s 31
  have hk : W.heap[w.heap.size]? = (w.alloc (.cells (hc ⟨k, c, o, d, (vk, vn, vs), []⟩ s).toArray 31)).heap[w.heap.size]? := by
    rw [hW]
    exact (one_box (w := w.alloc _)).block _ (by simp)
  refine ⟨h1.kept hk, ⟨fun q => ?_, fun q => by rw [hW]; simp [go_sem]⟩, by rw [hW]; exact two_boxes, by rw [hW]; simp⟩
  rw [hW, World.cell?_alloc_at _ _ _ _ (by simp), World.cell?_alloc_at _ _ _ _ rfl]
theorem below_set {w V : World} (h : Below w.heap.size w V) (o : Nat) (v : Value) : Below w.heap.size w (V.setCell ⟨w.heap.size + 1, o, none⟩ v) := h.setCell (p := ⟨w.heap.size + 1, o, none⟩) (Nat.le_succ _) v
theorem below8 {w W : World} (h : Below w.heap.size w W) (x0 x1 x2 x3 x4 x5 x6 x7 : Value) : Below w.heap.size w ((((((((W.setCell ⟨w.heap.size + 1, 0, none⟩ x0).setCell ⟨w.heap.size + 1, 1, none⟩ x1).setCell ⟨w.heap.size + 1, 2, none⟩ x2).setCell ⟨w.heap.size + 1, 3, none⟩ x3).setCell ⟨w.heap.size + 1, 4, none⟩ x4).setCell ⟨w.heap.size + 1, 5, none⟩ x5).setCell ⟨w.heap.size + 1, 6, none⟩ x6).setCell ⟨w.heap.size + 1, 7, none⟩ x7) :=
  below_set (below_set (below_set (below_set (below_set (below_set (below_set (below_set h 0 x0) 1 x1) 2 x2) 3 x3) 4 x4) 5 x5) 6 x6) 7 x7
set_option maxHeartbeats 2000000 in
theorem map1 (cols : List Int) (a0 : Option Addr) (cap0 : Nat) (n : Nat) (s : Value) (c o d vk vn : Int) (vs : ByteArray) (l : List Pd) (w : World) (hc : IntsIs w (.slice a0 cols.length cap0) cols) :
    Calls Try.prog 11 #[.agg #[.int .i64 1, .int .i64 c, .int .i64 o, .int .i64 d, .int .i64 vk, .int .i64 vn, .string vs, s], .slice a0 cols.length cap0] w (MapEnd cols n ⟨1, c, o, d, (vk, vn, vs), l⟩ w) := by
  have HE : Hid (∀ w', Below w.heap.size w w' → MapEnd cols n ⟨1, c, o, d, (vk, vn, vs), l⟩ w (.returned (.agg #[.int .i64 1, .int .i64 (mpC cols c), .int .i64 o, .int .i64 0, .int .i64 vk, .int .i64 vn, .string vs, .slice none 0 0])) w') := fun w' h => by
    refine ⟨.slice none 0 0, ?_, ?_, h⟩
    · rw [mpP_eq]; rfl
    · rw [mpP_eq]; exact PdL.nil _ _ _ _ _
  have HW : Hid (∀ W, W = (w.alloc (.cells #[.int .i64 1, .int .i64 c, .int .i64 o, .int .i64 d, .int .i64 vk, .int .i64 vn, .string vs, s] 31)).alloc (.cells #[.int .i64 0, .int .i64 0, .int .i64 0, .int .i64 0, .int .i64 0, .int .i64 0, .string ⟨#[]⟩, .slice none 0 0] 31) → _) := map_boxes w 1 c o d vk vn vs s
  have Hc : Hid (IntsIs w (.slice a0 cols.length cap0) cols) := hc
  clear hc
  go_enter Try.func11, Try.ntmps11
  go_wp2_with fail
  obtain ⟨W, hW⟩ : ∃ W, W = (w.alloc (.cells #[.int .i64 1, .int .i64 c, .int .i64 o, .int .i64 d, .int .i64 vk, .int .i64 vn, .string vs, s] 31)).alloc (.cells #[.int .i64 0, .int .i64 0, .int .i64 0, .int .i64 0, .int .i64 0, .int .i64 0, .string ⟨#[]⟩, .slice none 0 0] 31) := ⟨_, rfl⟩
  rw [← hW]
  obtain ⟨h1, ⟨yc, yf⟩, hB, hz⟩ := HW.out W hW
  have B1 : Hid (Below w.heap.size w W) := hB
  have C1 : Hid (IntsIs W (.slice a0 cols.length cap0) cols) := Hc.out.on hB
  have KS : Hid (∀ w' : World, w'.heap[w.heap.size]? = W.heap[w.heap.size]? → w'.cell? ⟨w.heap.size, 0, none⟩ = some (.int .i64 1) ∧ w'.cell? ⟨w.heap.size, 1, none⟩ = some (.int .i64 c) ∧ w'.cell? ⟨w.heap.size, 2, none⟩ = some (.int .i64 o) ∧ w'.cell? ⟨w.heap.size, 4, none⟩ = some (.int .i64 vk) ∧ w'.cell? ⟨w.heap.size, 5, none⟩ = some (.int .i64 vn) ∧ w'.cell? ⟨w.heap.size, 6, none⟩ = some (.string vs)) := fun w' hk => by
    obtain ⟨x0, x1, x2, x3, x4, x5, x6, x7⟩ := h1.kept hk
    simp only [Nat.zero_add] at x1 x2 x3 x4 x5 x6 x7
    exact ⟨x0, x1, x2, x4, x5, x6⟩
  have qc : Hid (∀ W', Below W.heap.size W W' → Calls Try.prog 19 #[.int .i64 c, .slice a0 cols.length cap0] W' fun e w' => e = .returned (.int .i64 (mpC cols c)) ∧ w' = W') := fun W' hW => predMapped cols _ c W' (C1.out.on hW)
  generalize mpC cols c = mc at *
  have HD : Hid (Below W.heap.size W W.drew) := (Below.refl _ _).drew
  have KD : Hid (W.drew.cell? ⟨w.heap.size, 0, none⟩ = some (.int .i64 1) ∧ W.drew.cell? ⟨w.heap.size, 1, none⟩ = some (.int .i64 c) ∧ W.drew.cell? ⟨w.heap.size, 2, none⟩ = some (.int .i64 o) ∧ W.drew.cell? ⟨w.heap.size, 4, none⟩ = some (.int .i64 vk) ∧ W.drew.cell? ⟨w.heap.size, 5, none⟩ = some (.int .i64 vn) ∧ W.drew.cell? ⟨w.heap.size, 6, none⟩ = some (.string vs)) := KS.out _ (drew_heap _ _)
  have K8 : Hid (∀ x0 x1 x2 x3 x4 x5 x6 x7 : Value, ((((((((W.setCell ⟨w.heap.size + 1, 0, none⟩ x0).setCell ⟨w.heap.size + 1, 1, none⟩ x1).setCell ⟨w.heap.size + 1, 2, none⟩ x2).setCell ⟨w.heap.size + 1, 3, none⟩ x3).setCell ⟨w.heap.size + 1, 4, none⟩ x4).setCell ⟨w.heap.size + 1, 5, none⟩ x5).setCell ⟨w.heap.size + 1, 6, none⟩ x6).setCell ⟨w.heap.size + 1, 7, none⟩ x7).drew.cell? ⟨w.heap.size, 0, none⟩ = some (.int .i64 1) ∧ ((((((((W.setCell ⟨w.heap.size + 1, 0, none⟩ x0).setCell ⟨w.heap.size + 1, 1, none⟩ x1).setCell ⟨w.heap.size + 1, 2, none⟩ x2).setCell ⟨w.heap.size + 1, 3, none⟩ x3).setCell ⟨w.heap.size + 1, 4, none⟩ x4).setCell ⟨w.heap.size + 1, 5, none⟩ x5).setCell ⟨w.heap.size + 1, 6, none⟩ x6).setCell ⟨w.heap.size + 1, 7, none⟩ x7).drew.cell? ⟨w.heap.size, 1, none⟩ = some (.int .i64 c) ∧ ((((((((W.setCell ⟨w.heap.size + 1, 0, none⟩ x0).setCell ⟨w.heap.size + 1, 1, none⟩ x1).setCell ⟨w.heap.size + 1, 2, none⟩ x2).setCell ⟨w.heap.size + 1, 3, none⟩ x3).setCell ⟨w.heap.size + 1, 4, none⟩ x4).setCell ⟨w.heap.size + 1, 5, none⟩ x5).setCell ⟨w.heap.size + 1, 6, none⟩ x6).setCell ⟨w.heap.size + 1, 7, none⟩ x7).drew.cell? ⟨w.heap.size, 2, none⟩ = some (.int .i64 o) ∧ ((((((((W.setCell ⟨w.heap.size + 1, 0, none⟩ x0).setCell ⟨w.heap.size + 1, 1, none⟩ x1).setCell ⟨w.heap.size + 1, 2, none⟩ x2).setCell ⟨w.heap.size + 1, 3, none⟩ x3).setCell ⟨w.heap.size + 1, 4, none⟩ x4).setCell ⟨w.heap.size + 1, 5, none⟩ x5).setCell ⟨w.heap.size + 1, 6, none⟩ x6).setCell ⟨w.heap.size + 1, 7, none⟩ x7).drew.cell? ⟨w.heap.size, 4, none⟩ = some (.int .i64 vk) ∧ ((((((((W.setCell ⟨w.heap.size + 1, 0, none⟩ x0).setCell ⟨w.heap.size + 1, 1, none⟩ x1).setCell ⟨w.heap.size + 1, 2, none⟩ x2).setCell ⟨w.heap.size + 1, 3, none⟩ x3).setCell ⟨w.heap.size + 1, 4, none⟩ x4).setCell ⟨w.heap.size + 1, 5, none⟩ x5).setCell ⟨w.heap.size + 1, 6, none⟩ x6).setCell ⟨w.heap.size + 1, 7, none⟩ x7).drew.cell? ⟨w.heap.size, 5, none⟩ = some (.int .i64 vn) ∧ ((((((((W.setCell ⟨w.heap.size + 1, 0, none⟩ x0).setCell ⟨w.heap.size + 1, 1, none⟩ x1).setCell ⟨w.heap.size + 1, 2, none⟩ x2).setCell ⟨w.heap.size + 1, 3, none⟩ x3).setCell ⟨w.heap.size + 1, 4, none⟩ x4).setCell ⟨w.heap.size + 1, 5, none⟩ x5).setCell ⟨w.heap.size + 1, 6, none⟩ x6).setCell ⟨w.heap.size + 1, 7, none⟩ x7).drew.cell? ⟨w.heap.size, 6, none⟩ = some (.string vs)) := fun x0 x1 x2 x3 x4 x5 x6 x7 => KS.out _ ((drew_heap _ _).trans ((put8_heap (w := W) (R := w.heap.size + 1) x0 x1 x2 x3 x4 x5 x6 x7).1 _ (Nat.ne_of_lt (Nat.lt_succ_self _))))
  clear HW hW hB Hc h1 hz KS
  go_region_held3 (fun w' => w'.cell? ⟨w.heap.size, 0, none⟩ = some (.int .i64 1) ∧ w'.cell? ⟨w.heap.size, 1, none⟩ = some (.int .i64 c) ∧ w'.cell? ⟨w.heap.size, 2, none⟩ = some (.int .i64 o) ∧ w'.cell? ⟨w.heap.size, 4, none⟩ = some (.int .i64 vk) ∧ w'.cell? ⟨w.heap.size, 5, none⟩ = some (.int .i64 vn) ∧ w'.cell? ⟨w.heap.size, 6, none⟩ = some (.string vs))
    (first | with_reducible exact KD.out | with_reducible exact K8.out _ _ _ _ _ _ _ _)
    ((go_at_call 19; (first | with_reducible refine (qc.out _ HD.out).mono ?_); rintro e w7 ⟨rfl, rfl⟩))
  go_wp2_with fail
  have fin := Below.drew (below8 B1.out (.int .i64 1) (.int .i64 mc) (.int .i64 o) (.int .i64 0) (.int .i64 vk) (.int .i64 vn) (.string vs) (.slice none 0 0))
  exact bodyPost_ret (v := .agg #[.int .i64 1, .int .i64 mc, .int .i64 o, .int .i64 0, .int .i64 vk, .int .i64 vn, .string vs, .slice none 0 0]) (by simp [results, Try.results11, go_sem, yc]) rfl (HE.out _ fin)
set_option maxHeartbeats 2000000 in
theorem map2 (cols : List Int) (a0 : Option Addr) (cap0 : Nat) (n : Nat) (s : Value) (c o d vk vn : Int) (vs : ByteArray) (l : List Pd) (w : World) (hc : IntsIs w (.slice a0 cols.length cap0) cols) :
    Calls Try.prog 11 #[.agg #[.int .i64 2, .int .i64 c, .int .i64 o, .int .i64 d, .int .i64 vk, .int .i64 vn, .string vs, s], .slice a0 cols.length cap0] w (MapEnd cols n ⟨2, c, o, d, (vk, vn, vs), l⟩ w) := by
  have HE : Hid (∀ w', Below w.heap.size w w' → MapEnd cols n ⟨2, c, o, d, (vk, vn, vs), l⟩ w (.returned (.agg #[.int .i64 2, .int .i64 (mpC cols c), .int .i64 o, .int .i64 (mpC cols d), .int .i64 0, .int .i64 0, .string ⟨#[]⟩, .slice none 0 0])) w') := fun w' h => by
    refine ⟨.slice none 0 0, ?_, ?_, h⟩
    · rw [mpP_eq]; rfl
    · rw [mpP_eq]; exact PdL.nil _ _ _ _ _
  have HW : Hid (∀ W, W = (w.alloc (.cells #[.int .i64 2, .int .i64 c, .int .i64 o, .int .i64 d, .int .i64 vk, .int .i64 vn, .string vs, s] 31)).alloc (.cells #[.int .i64 0, .int .i64 0, .int .i64 0, .int .i64 0, .int .i64 0, .int .i64 0, .string ⟨#[]⟩, .slice none 0 0] 31) → _) := map_boxes w 2 c o d vk vn vs s
  have Hc : Hid (IntsIs w (.slice a0 cols.length cap0) cols) := hc
  clear hc
  go_enter Try.func11, Try.ntmps11
  go_wp2_with fail
  obtain ⟨W, hW⟩ : ∃ W, W = (w.alloc (.cells #[.int .i64 2, .int .i64 c, .int .i64 o, .int .i64 d, .int .i64 vk, .int .i64 vn, .string vs, s] 31)).alloc (.cells #[.int .i64 0, .int .i64 0, .int .i64 0, .int .i64 0, .int .i64 0, .int .i64 0, .string ⟨#[]⟩, .slice none 0 0] 31) := ⟨_, rfl⟩
  rw [← hW]
  obtain ⟨h1, ⟨yc, yf⟩, hB, hz⟩ := HW.out W hW
  have B1 : Hid (Below w.heap.size w W) := hB
  have C1 : Hid (IntsIs W (.slice a0 cols.length cap0) cols) := Hc.out.on hB
  have KS : Hid (∀ w' : World, w'.heap[w.heap.size]? = W.heap[w.heap.size]? → w'.cell? ⟨w.heap.size, 0, none⟩ = some (.int .i64 2) ∧ w'.cell? ⟨w.heap.size, 1, none⟩ = some (.int .i64 c) ∧ w'.cell? ⟨w.heap.size, 2, none⟩ = some (.int .i64 o) ∧ w'.cell? ⟨w.heap.size, 3, none⟩ = some (.int .i64 d)) := fun w' hk => by
    obtain ⟨x0, x1, x2, x3, x4, x5, x6, x7⟩ := h1.kept hk
    simp only [Nat.zero_add] at x1 x2 x3 x4 x5 x6 x7
    exact ⟨x0, x1, x2, x3⟩
  have qc : Hid (∀ W', Below W.heap.size W W' → Calls Try.prog 19 #[.int .i64 c, .slice a0 cols.length cap0] W' fun e w' => e = .returned (.int .i64 (mpC cols c)) ∧ w' = W') := fun W' hW => predMapped cols _ c W' (C1.out.on hW)
  generalize mpC cols c = mc at *
  have qd : Hid (∀ W', Below W.heap.size W W' → Calls Try.prog 19 #[.int .i64 d, .slice a0 cols.length cap0] W' fun e w' => e = .returned (.int .i64 (mpC cols d)) ∧ w' = W') := fun W' hW => predMapped cols _ d W' (C1.out.on hW)
  generalize mpC cols d = md at *
  have HD : Hid (Below W.heap.size W W.drew) := (Below.refl _ _).drew
  have KD : Hid (W.drew.cell? ⟨w.heap.size, 0, none⟩ = some (.int .i64 2) ∧ W.drew.cell? ⟨w.heap.size, 1, none⟩ = some (.int .i64 c) ∧ W.drew.cell? ⟨w.heap.size, 2, none⟩ = some (.int .i64 o) ∧ W.drew.cell? ⟨w.heap.size, 3, none⟩ = some (.int .i64 d)) := KS.out _ (drew_heap _ _)
  have K8 : Hid (∀ x0 x1 x2 x3 x4 x5 x6 x7 : Value, ((((((((W.setCell ⟨w.heap.size + 1, 0, none⟩ x0).setCell ⟨w.heap.size + 1, 1, none⟩ x1).setCell ⟨w.heap.size + 1, 2, none⟩ x2).setCell ⟨w.heap.size + 1, 3, none⟩ x3).setCell ⟨w.heap.size + 1, 4, none⟩ x4).setCell ⟨w.heap.size + 1, 5, none⟩ x5).setCell ⟨w.heap.size + 1, 6, none⟩ x6).setCell ⟨w.heap.size + 1, 7, none⟩ x7).drew.cell? ⟨w.heap.size, 0, none⟩ = some (.int .i64 2) ∧ ((((((((W.setCell ⟨w.heap.size + 1, 0, none⟩ x0).setCell ⟨w.heap.size + 1, 1, none⟩ x1).setCell ⟨w.heap.size + 1, 2, none⟩ x2).setCell ⟨w.heap.size + 1, 3, none⟩ x3).setCell ⟨w.heap.size + 1, 4, none⟩ x4).setCell ⟨w.heap.size + 1, 5, none⟩ x5).setCell ⟨w.heap.size + 1, 6, none⟩ x6).setCell ⟨w.heap.size + 1, 7, none⟩ x7).drew.cell? ⟨w.heap.size, 1, none⟩ = some (.int .i64 c) ∧ ((((((((W.setCell ⟨w.heap.size + 1, 0, none⟩ x0).setCell ⟨w.heap.size + 1, 1, none⟩ x1).setCell ⟨w.heap.size + 1, 2, none⟩ x2).setCell ⟨w.heap.size + 1, 3, none⟩ x3).setCell ⟨w.heap.size + 1, 4, none⟩ x4).setCell ⟨w.heap.size + 1, 5, none⟩ x5).setCell ⟨w.heap.size + 1, 6, none⟩ x6).setCell ⟨w.heap.size + 1, 7, none⟩ x7).drew.cell? ⟨w.heap.size, 2, none⟩ = some (.int .i64 o) ∧ ((((((((W.setCell ⟨w.heap.size + 1, 0, none⟩ x0).setCell ⟨w.heap.size + 1, 1, none⟩ x1).setCell ⟨w.heap.size + 1, 2, none⟩ x2).setCell ⟨w.heap.size + 1, 3, none⟩ x3).setCell ⟨w.heap.size + 1, 4, none⟩ x4).setCell ⟨w.heap.size + 1, 5, none⟩ x5).setCell ⟨w.heap.size + 1, 6, none⟩ x6).setCell ⟨w.heap.size + 1, 7, none⟩ x7).drew.cell? ⟨w.heap.size, 3, none⟩ = some (.int .i64 d)) := fun x0 x1 x2 x3 x4 x5 x6 x7 => KS.out _ ((drew_heap _ _).trans ((put8_heap (w := W) (R := w.heap.size + 1) x0 x1 x2 x3 x4 x5 x6 x7).1 _ (Nat.ne_of_lt (Nat.lt_succ_self _))))
  clear HW hW hB Hc h1 hz KS
  go_region_held3 (fun w' => w'.cell? ⟨w.heap.size, 0, none⟩ = some (.int .i64 2) ∧ w'.cell? ⟨w.heap.size, 1, none⟩ = some (.int .i64 c) ∧ w'.cell? ⟨w.heap.size, 2, none⟩ = some (.int .i64 o) ∧ w'.cell? ⟨w.heap.size, 3, none⟩ = some (.int .i64 d))
    (first | with_reducible exact KD.out | with_reducible exact K8.out _ _ _ _ _ _ _ _)
    ((go_at_call 19; (first | with_reducible refine (qc.out _ HD.out).mono ?_ | with_reducible refine (qd.out _ HD.out).mono ?_); rintro e w7 ⟨rfl, rfl⟩))
  go_wp2_with fail
  have fin := Below.drew (below8 B1.out (.int .i64 2) (.int .i64 mc) (.int .i64 o) (.int .i64 md) (.int .i64 0) (.int .i64 0) (.string ⟨#[]⟩) (.slice none 0 0))
  exact bodyPost_ret (v := .agg #[.int .i64 2, .int .i64 mc, .int .i64 o, .int .i64 md, .int .i64 0, .int .i64 0, .string ⟨#[]⟩, .slice none 0 0]) (by simp [results, Try.results11, go_sem, yc]) rfl (HE.out _ fin)
set_option maxHeartbeats 2000000 in
theorem map3 (cols : List Int) (a0 : Option Addr) (cap0 : Nat) (n : Nat) (s : Value) (c o d vk vn : Int) (vs : ByteArray) (l : List Pd) (w : World) (hc : IntsIs w (.slice a0 cols.length cap0) cols) :
    Calls Try.prog 11 #[.agg #[.int .i64 3, .int .i64 c, .int .i64 o, .int .i64 d, .int .i64 vk, .int .i64 vn, .string vs, s], .slice a0 cols.length cap0] w (MapEnd cols n ⟨3, c, o, d, (vk, vn, vs), l⟩ w) := by
  have HE : Hid (∀ w', Below w.heap.size w w' → MapEnd cols n ⟨3, c, o, d, (vk, vn, vs), l⟩ w (.returned (.agg #[.int .i64 3, .int .i64 (mpC cols c), .int .i64 0, .int .i64 0, .int .i64 0, .int .i64 0, .string ⟨#[]⟩, .slice none 0 0])) w') := fun w' h => by
    refine ⟨.slice none 0 0, ?_, ?_, h⟩
    · rw [mpP_eq]; rfl
    · rw [mpP_eq]; exact PdL.nil _ _ _ _ _
  have HW : Hid (∀ W, W = (w.alloc (.cells #[.int .i64 3, .int .i64 c, .int .i64 o, .int .i64 d, .int .i64 vk, .int .i64 vn, .string vs, s] 31)).alloc (.cells #[.int .i64 0, .int .i64 0, .int .i64 0, .int .i64 0, .int .i64 0, .int .i64 0, .string ⟨#[]⟩, .slice none 0 0] 31) → _) := map_boxes w 3 c o d vk vn vs s
  have Hc : Hid (IntsIs w (.slice a0 cols.length cap0) cols) := hc
  clear hc
  go_enter Try.func11, Try.ntmps11
  go_wp2_with fail
  obtain ⟨W, hW⟩ : ∃ W, W = (w.alloc (.cells #[.int .i64 3, .int .i64 c, .int .i64 o, .int .i64 d, .int .i64 vk, .int .i64 vn, .string vs, s] 31)).alloc (.cells #[.int .i64 0, .int .i64 0, .int .i64 0, .int .i64 0, .int .i64 0, .int .i64 0, .string ⟨#[]⟩, .slice none 0 0] 31) := ⟨_, rfl⟩
  rw [← hW]
  obtain ⟨h1, ⟨yc, yf⟩, hB, hz⟩ := HW.out W hW
  have B1 : Hid (Below w.heap.size w W) := hB
  have C1 : Hid (IntsIs W (.slice a0 cols.length cap0) cols) := Hc.out.on hB
  have KS : Hid (∀ w' : World, w'.heap[w.heap.size]? = W.heap[w.heap.size]? → w'.cell? ⟨w.heap.size, 0, none⟩ = some (.int .i64 3) ∧ w'.cell? ⟨w.heap.size, 1, none⟩ = some (.int .i64 c)) := fun w' hk => by
    obtain ⟨x0, x1, x2, x3, x4, x5, x6, x7⟩ := h1.kept hk
    simp only [Nat.zero_add] at x1 x2 x3 x4 x5 x6 x7
    exact ⟨x0, x1⟩
  have qc : Hid (∀ W', Below W.heap.size W W' → Calls Try.prog 19 #[.int .i64 c, .slice a0 cols.length cap0] W' fun e w' => e = .returned (.int .i64 (mpC cols c)) ∧ w' = W') := fun W' hW => predMapped cols _ c W' (C1.out.on hW)
  generalize mpC cols c = mc at *
  have HD : Hid (Below W.heap.size W W.drew) := (Below.refl _ _).drew
  have KD : Hid (W.drew.cell? ⟨w.heap.size, 0, none⟩ = some (.int .i64 3) ∧ W.drew.cell? ⟨w.heap.size, 1, none⟩ = some (.int .i64 c)) := KS.out _ (drew_heap _ _)
  have K8 : Hid (∀ x0 x1 x2 x3 x4 x5 x6 x7 : Value, ((((((((W.setCell ⟨w.heap.size + 1, 0, none⟩ x0).setCell ⟨w.heap.size + 1, 1, none⟩ x1).setCell ⟨w.heap.size + 1, 2, none⟩ x2).setCell ⟨w.heap.size + 1, 3, none⟩ x3).setCell ⟨w.heap.size + 1, 4, none⟩ x4).setCell ⟨w.heap.size + 1, 5, none⟩ x5).setCell ⟨w.heap.size + 1, 6, none⟩ x6).setCell ⟨w.heap.size + 1, 7, none⟩ x7).drew.cell? ⟨w.heap.size, 0, none⟩ = some (.int .i64 3) ∧ ((((((((W.setCell ⟨w.heap.size + 1, 0, none⟩ x0).setCell ⟨w.heap.size + 1, 1, none⟩ x1).setCell ⟨w.heap.size + 1, 2, none⟩ x2).setCell ⟨w.heap.size + 1, 3, none⟩ x3).setCell ⟨w.heap.size + 1, 4, none⟩ x4).setCell ⟨w.heap.size + 1, 5, none⟩ x5).setCell ⟨w.heap.size + 1, 6, none⟩ x6).setCell ⟨w.heap.size + 1, 7, none⟩ x7).drew.cell? ⟨w.heap.size, 1, none⟩ = some (.int .i64 c)) := fun x0 x1 x2 x3 x4 x5 x6 x7 => KS.out _ ((drew_heap _ _).trans ((put8_heap (w := W) (R := w.heap.size + 1) x0 x1 x2 x3 x4 x5 x6 x7).1 _ (Nat.ne_of_lt (Nat.lt_succ_self _))))
  clear HW hW hB Hc h1 hz KS
  go_region_held3 (fun w' => w'.cell? ⟨w.heap.size, 0, none⟩ = some (.int .i64 3) ∧ w'.cell? ⟨w.heap.size, 1, none⟩ = some (.int .i64 c))
    (first | with_reducible exact KD.out | with_reducible exact K8.out _ _ _ _ _ _ _ _)
    ((go_at_call 19; (first | with_reducible refine (qc.out _ HD.out).mono ?_); rintro e w7 ⟨rfl, rfl⟩))
  go_wp2_with fail
  have fin := Below.drew (below8 B1.out (.int .i64 3) (.int .i64 mc) (.int .i64 0) (.int .i64 0) (.int .i64 0) (.int .i64 0) (.string ⟨#[]⟩) (.slice none 0 0))
  exact bodyPost_ret (v := .agg #[.int .i64 3, .int .i64 mc, .int .i64 0, .int .i64 0, .int .i64 0, .int .i64 0, .string ⟨#[]⟩, .slice none 0 0]) (by simp [results, Try.results11, go_sem, yc]) rfl (HE.out _ fin)
end Go.Proofs.Ytiphnbpkliglcaa
