/- Texts of one claim, one behind the other. -/
import Derived.Test.YtglbipnppldkmaaGreatDoorPackGoB
import Derived.Test.YtglbipnppldkmaaGreatDoorSpEndAB
import Derived.Test.YtglbipnppldkmaaGreatDoorSpEndBB
/- What a spine's Work answers. -/
namespace Go.Proofs.YtglbipnppldkmaaGreatDoor
open Go.RowKit Go.Sort
set_option maxRecDepth 100000
theorem SpX.many {F : Nat → Prop} {sb : Sb} {A : List Ent} {n m mb many y : Nat} {w : World} (h : SpX F sb A n m (some (mb, many, y)) w) : 1 ≤ many ∧ many ≤ n ∧ y ≤ m := by
  obtain ⟨R, bv, pv, X, h1, h2, h3, h4, h5, h6, h7⟩ := h
  obtain ⟨ab, cap, sv, us, S, Y, g1, g2, g3, g4, g5, g6, g7, g8, g9, g10, g11⟩ := h7
  refine ⟨g9, by omega, ?_⟩
  have e1 := g7.2.2.2.2.2.2
  have e2 : (flat (X.take many)).length ≤ m := by
    rw [← h4]; conv => rhs; rw [← List.take_append_drop many X]
    rw [flat_app, List.length_append]; omega
  omega
theorem grow_grow {F : Nat → Prop} {a b c : World} (h1 : a.heap.size ≤ b.heap.size) (h2 : b.heap.size ≤ c.heap.size) {k : Nat} (h : Grow (Grow F a b) b c k) : Grow F a c k := by
  rcases h with (h | h) | h
  · exact .inl h
  · exact .inr ⟨h.1, by omega⟩
  · exact .inr ⟨by omega, h.2⟩
theorem SpX.grow2 {F : Nat → Prop} {sb : Sb} {A : List Ent} {n m : Nat} {st : Option (Nat × Nat × Nat)} {a b c : World} (h : SpX (Grow (Grow F a b) b c) sb A n m st c) (hab : a.heap.size ≤ b.heap.size) (hbc : b.heap.size ≤ c.heap.size) (hF : ∀ k, F k → k < a.heap.size) : SpX (Grow F a c) sb A n m st c :=
  h.mono (fun k e => grow_grow hab hbc e) (fun k e => e.elim (fun e => by have := hF k e; omega) (fun e => e.2))
/-- Where goOn ends, of a spine. -/
def GxIs (F : Nat → Prop) (sb : Sb) (A : List Ent) (n m mb many y : Nat) (f : Int) (w : World) (e : Ending) (w' : World) : Prop := ∃ k : Nat, e = .returned (.int .i64 k) ∧ SpX (Grow F w w') sb A n m (some (mb, many, y - k)) w' ∧ Chg F w w' ∧ (k : Int) ≤ f ∧ k ≤ y ∧ ((k : Int) = f ∨ k = y)
theorem spGoX (F : Nat → Prop) (sb : Sb) (A : List Ent) (n m mb many y : Nat) (f : Int) (w : World) (h : SpX F sb A n m (some (mb, many, y)) w) (hf : 0 ≤ f ∧ f ≤ 9223372036854775807) (hm : m ≤ 30000) :
    Calls Tryz.prog 87 #[.pointer (some ⟨mb, 0, none⟩), .int .i64 f] w fun e w' => GxIs F sb A n m mb many y f w e w' := by
  have hy := h.many.2.2
  obtain ⟨R, bv, pv, X, h1, h2, h3, h4, h5, h6, h7⟩ := h
  obtain ⟨ab, cap, sv, us, S, Y, g1, g2, g3, g4, g5, g6, g7, g8, g9, g10, g11⟩ := h7
  have hT : (flat (X.take many)).length ≤ 30000 := by
    have e2 : (flat (X.take many)).length ≤ m := by
      rw [← h4]; conv => rhs; rw [← List.take_append_drop many X]
      rw [flat_app, List.length_append]; omega
    omega
  obtain ⟨G, hG⟩ : ∃ G : Nat → Prop, G = fun k => k = mb ∨ k = ab ∨ sv.ownBlock = some k := ⟨_, rfl⟩
  have hGF : ∀ k, G k → F k := fun k e => by
    rw [hG] at e
    rcases e with rfl | rfl | e
    · exact g3
    · exact g4
    · exact g5 k e
  have q := spGoOn R mb ab cap many G (flat (X.take many)) w y Y f ⟨sv, us, S, g2, g7, by omega, Chg.refl _ _, fun b e => .inl (by rw [hG]; exact .inr (.inr e))⟩ (by rw [hG]; exact .inl rfl) (by rw [hG]; exact .inr (.inl rfl)) hf (by omega) hT
  refine q.mono ?_
  rintro e w' ⟨k, Y', rfl, ⟨sv', us', S', k1, k2, k3, k4, k5⟩, kf, ke⟩
  have hc : Chg F w w' := ⟨k4.1, k4.2.1, k4.2.2.1, k4.size, fun b hb hl => k4.2.2.2.2 b (fun e => hb (hGF b e)) hl⟩
  have hsb : ¬ G sb.b := fun e => by
    rw [hG] at e
    rcases e with e | e | e
    · exact blk_ne h1.1 g2.1.1.mg (by decide) e
    · obtain ⟨cur, c1, _⟩ := g2.1.1.block
      exact blk_ne h1.1 c1 (by decide) e
    · obtain ⟨c, hc⟩ := own_blk g2.2.2.1 e
      exact blk_ne h1.1 hc (by decide) rfl
  have hbb : ∀ b, bv.ownBlock = some b → ¬ G b := fun b hb e => by
    obtain ⟨c, hc⟩ := own_blk h1.2.1 hb
    rw [hG] at e
    rcases e with e | e | e
    · exact blk_ne hc g2.1.1.mg (by decide) e
    · exact g6 (by rw [← e]; exact hb)
    · obtain ⟨c', hc'⟩ := own_blk g2.2.2.1 e
      exact blk_ne hc hc' (by decide) rfl
  refine ⟨k, rfl, ⟨R, bv, pv, X, ⟨?_, own_same h1.2.1 (fun b e => k4.2.2.2.2 b (hbb b e) (h2.2.1 b (h2.2.2.2 b e))), h1.2.2.1, k1.1.2.2.1, h1.2.2.2.2⟩, ⟨fun b e => .inl (h2.1 b e), fun b e => e.elim (fun e => Nat.lt_of_lt_of_le (h2.2.1 b e) hc.size) (fun e => e.2), .inl h2.2.2.1, fun b e => .inl (h2.2.2.2 b e)⟩, h3, h4, h5, h6, ?_⟩, hc, kf, by omega, ?_⟩
  · rw [k4.2.2.2.2 sb.b hsb (h2.2.1 sb.b h2.2.2.1)]; exact h1.1
  · refine ⟨ab, cap, sv', us', S', Y', g1, k1, .inl g3, .inl g4, fun b e => ?_, g6, k2, by omega, g9, g10, g11⟩
    rcases k5 b e with hb | hb
    · exact .inl (hGF b hb)
    · exact .inr ⟨hb, (k1.2.2.1.lt b e).2⟩
  · rcases ke with ke | ke
    · exact .inl ke
    · right
      rw [List.eq_nil_of_length_eq_zero ke] at k3
      simp [flat] at k3; exact k3
theorem spEndX (F : Nat → Prop) (sb : Sb) (A : List Ent) (n m mb many : Nat) (f : Int) (w : World) (h : SpX F sb A n m (some (mb, many, 0)) w) (hm : m ≤ 30000) :
    Calls Tryz.prog 83 #[.pointer (some ⟨sb.b, 1, none⟩), .int .i64 f] w fun e w' => e = .returned (.int .i64 0) ∧ EndIs F sb A n m many w w' := by
  obtain ⟨R, bv, pv, X, h1, h2, h3, h4, h5, h6, h7⟩ := h
  obtain ⟨ab, cap, sv, us, S, Y, g1, g2, g3, g4, g5, g6, g7, g8, g9, g10, g11⟩ := h7
  have hY : Y = [] := by
    by_cases h0 : Y.length = 0
    · exact List.eq_nil_of_length_eq_zero h0
    · have := flat_pos g2.1.inOrder (by omega); omega
  subst hY
  subst g1
  have ho := h1.2.1
  obtain ⟨bb, cb, e0⟩ : ∃ bb cb, bv = .slice (some ⟨bb, 0, none⟩) n cb := by
    rcases ho.2 with ⟨_, e⟩ | ⟨g, c, cur, e, _⟩
    · omega
    · exact ⟨g, c, by rw [e, h3]⟩
  subst e0
  by_cases hc : cb = many
  · exact spEnd1 F sb A n m mb many f w R X bb cb ab cap sv us S h1 h2 h3 h4 h5 h6 g2 g5 g7 g9 g10 g11 hm hc
  · exact spEnd2 F sb A n m mb many f w R X bb cb ab cap sv us S h1 h2 h3 h4 h5 h6 g2 g5 g7 g9 g10 g11 hm hc
/-- Fuel for all that there is. -/
def Full (n m : Nat) (st : Option (Nat × Nat × Nat)) (f : Int) : Prop :=
  n ≤ 1 ∨ (st = none ∧ (m : Int) ≤ f) ∨ ∃ mb many y, st = some (mb, many, y) ∧ ((0 < y ∧ many < n ∧ (m : Int) ≤ f) ∨ (n ≤ many ∧ (y : Int) ≤ f))
/-- How far Work has come. -/
def WkSt (F : Nat → Prop) (sb : Sb) (A : List Ent) (n m : Nat) (f : Int) (w : World) (t : Int) (n' m' : Nat) (st : Option (Nat × Nat × Nat)) (wr : World) : Prop :=
  SpX (Grow F w wr) sb A n' m' st wr ∧ Chg F w wr ∧ n' ≤ n ∧ m' ≤ m ∧ 0 ≤ t ∧ (t = 0 ∨ t ≤ f) ∧ (f < 1 → n' = n ∧ ∀ mb many y, st = some (mb, many, y) → 0 < y) ∧ ((m : Int) ≤ f → Full n' m' st (f - t))
/-- Where Work ends. -/
def WkIs (F : Nat → Prop) (sb : Sb) (A : List Ent) (n m : Nat) (f : Int) (w : World) (k : Int) (w' : World) : Prop :=
  ∃ n' m', SpIs (Grow F w w') sb A n' m' w' ∧ Chg F w w' ∧ 0 ≤ k ∧ (k = 0 ∨ k ≤ f) ∧ n' ≤ n ∧ m' ≤ m ∧ (f < 1 → n' = n) ∧ ((m : Int) ≤ f → n' ≤ 1)
theorem WkSt.on {F : Nat → Prop} {sb : Sb} {A : List Ent} {n m : Nat} {f : Int} {w : World} {t : Int} {n' m' : Nat} {st : Option (Nat × Nat × Nat)} {wr w2 : World} (h : WkSt F sb A n m f w t n' m' st wr) (hF : ∀ k, F k → k < w.heap.size) (hB : Below wr.heap.size wr w2) : WkSt F sb A n m f w t n' m' st w2 :=
  ⟨((h.1.on hB).grow (w := wr)).grow2 h.2.1.size hB.size hF, h.2.1.trans (Chg.of_below hB), h.2.2⟩
theorem WkSt.start {F : Nat → Prop} {sb : Sb} {A : List Ent} {n m : Nat} {f : Int} {w : World} {st : Option (Nat × Nat × Nat)} (h : SpX F sb A n m st w) (hst : ∀ mb many y, st = some (mb, many, y) → 0 < y) : WkSt F sb A n m f w 0 n m st w := by
  refine ⟨h.grow, Chg.refl _ _, Nat.le_refl _, Nat.le_refl _, by omega, .inl rfl, fun _ => ⟨rfl, hst⟩, fun hf => ?_⟩
  rw [Int.sub_zero]
  cases st with
  | none => exact .inr (.inl ⟨rfl, hf⟩)
  | some p =>
    obtain ⟨mb, many, y⟩ := p
    obtain ⟨m1, m2, m3⟩ := h.many
    have hy := hst mb many y rfl
    refine .inr (.inr ⟨mb, many, y, rfl, ?_⟩)
    by_cases hl : many < n
    · exact .inl ⟨hy, hl, hf⟩
    · exact .inr ⟨by omega, by omega⟩
theorem WkSt.fin {F : Nat → Prop} {sb : Sb} {A : List Ent} {n m : Nat} {f : Int} {w : World} {t : Int} {n' m' : Nat} {st : Option (Nat × Nat × Nat)} {wr : World} (h : WkSt F sb A n m f w t n' m' st wr) (h1 : f - t < 1 ∨ n' < 2) (h2 : ∀ mb many y, st = some (mb, many, y) → 0 < y) : WkIs F sb A n m f w t wr := by
  obtain ⟨k1, k2, k3, k4, k5, k6, k7, k8⟩ := h
  refine ⟨n', m', ⟨st, k1, h2⟩, k2, k5, k6, k3, k4, fun e => (k7 e).1, fun e => ?_⟩
  have hle := k1.le.1
  rcases k8 e with j | ⟨j1, j2⟩ | ⟨mb, many, y, j1, j2⟩
  · exact j
  · rcases h1 with h1 | h1
    · omega
    · omega
  · have := h2 _ _ _ j1
    rcases h1 with h1 | h1
    · rcases j2 with j2 | j2 <;> omega
    · omega
theorem WkSt.ended {F : Nat → Prop} {sb : Sb} {A : List Ent} {n m : Nat} {f : Int} {w : World} {t : Int} {n' m' mb many : Nat} {wr w2 : World} (h : WkSt F sb A n m f w t n' m' (some (mb, many, 0)) wr) (hF : ∀ k, F k → k < w.heap.size) (he : EndIs (Grow F w wr) sb A n' m' many wr w2) : ∃ n2 m2, WkSt F sb A n m f w t n2 m2 none w2 := by
  obtain ⟨k1, k2, k3, k4, k5, k6, k7, k8⟩ := h
  obtain ⟨n2, m2, e1, e2, e3, e4⟩ := he
  obtain ⟨m1, m2', m3⟩ := k1.many
  refine ⟨n2, m2, e1.grow2 k2.size e2.size hF, k2.trans e2, by omega, by omega, k5, k6, fun e => ?_, fun e => ?_⟩
  · have := (k7 e).2 _ _ _ rfl; omega
  · rcases k8 e with j | ⟨j1, j2⟩ | ⟨mb', many', y, j1, j2⟩
    · exact .inl (by omega)
    · cases j1
    · simp only [Option.some.injEq, Prod.mk.injEq] at j1
      obtain ⟨_, rfl, rfl⟩ := j1
      rcases j2 with j2 | j2
      · omega
      · exact .inl (by omega)
theorem WkSt.begun {F : Nat → Prop} {sb : Sb} {A : List Ent} {n m : Nat} {f : Int} {w : World} {t : Int} {n' m' : Nat} {st : Option (Nat × Nat × Nat)} {wr w2 : World} (h : WkSt F sb A n m f w t n' m' st wr) (hF : ∀ k, F k → k < w.heap.size) (h1 : 1 ≤ f - t) (h2 : 2 ≤ n') (h3 : st = none ∨ ∃ mb many y, st = some (mb, many, y) ∧ 0 < y ∧ many < n' ∧ (m' : Int) ≤ f - t) (he : BegIs (Grow F w wr) sb A n' m' wr w2) : ∃ mb, WkSt F sb A n m f w t n' m' (some (mb, n', m')) w2 := by
  obtain ⟨k1, k2, k3, k4, k5, k6, k7, k8⟩ := h
  obtain ⟨mb, e1, e2⟩ := he
  refine ⟨mb, e1.grow2 k2.size e2.size hF, k2.trans e2, k3, k4, k5, k6, fun e => by omega, fun e => ?_⟩
  refine .inr (.inr ⟨mb, n', m', rfl, .inr ⟨Nat.le_refl _, ?_⟩⟩)
  rcases k8 e with j | ⟨j1, j2⟩ | ⟨mb', many', y, j1, j2⟩
  · omega
  · exact j2
  · rcases h3 with h3 | ⟨_, many3, y3, h3, h4, h5, h6⟩
    · rw [h3] at j1; cases j1
    · exact h6
theorem WkSt.gone {F : Nat → Prop} {sb : Sb} {A : List Ent} {n m : Nat} {f : Int} {w : World} {t : Int} {n' m' mb many y : Nat} {wr w2 : World} {ed : Ending} (h : WkSt F sb A n m f w t n' m' (some (mb, many, y)) wr) (hF : ∀ k, F k → k < w.heap.size) (h1 : 1 ≤ f - t) (h2 : 2 ≤ n') (hy : 0 < y) (h3 : ¬ (many < n' ∧ (m' : Int) ≤ f - t)) (he : GxIs (Grow F w wr) sb A n' m' mb many y (f - t) wr ed w2) :
    ∃ k : Nat, ed = .returned (.int .i64 k) ∧ 1 ≤ k ∧ t + k ≤ f ∧ WkSt F sb A n m f w (t + k) n' m' (some (mb, many, y - k)) w2 := by
  obtain ⟨k1, k2, k3, k4, k5, k6, k7, k8⟩ := h
  obtain ⟨k, rfl, e1, e2, e3, e4, e5⟩ := he
  refine ⟨k, rfl, by omega, by omega, e1.grow2 k2.size e2.size hF, k2.trans e2, k3, k4, by omega, .inr (by omega), fun e => by omega, fun e => ?_⟩
  rcases k8 e with j | ⟨j1, j2⟩ | ⟨mb', many', y', j1, j2⟩
  · omega
  · cases j1
  · simp only [Option.some.injEq, Prod.mk.injEq] at j1
    obtain ⟨rfl, rfl, rfl⟩ := j1
    rcases j2 with j2 | j2
    · exact absurd ⟨j2.2.1, j2.2.2⟩ h3
    · exact .inr (.inr ⟨mb, many, y - k, rfl, .inr ⟨j2.1, by omega⟩⟩)
/-- At the loop's head. -/
def WkTo (F : Nat → Prop) (sb : Sb) (A : List Ent) (n m : Nat) (f : Int) (w : World) (t : Int) (v : Value) (wr : World) : Prop := ∃ n' m' st, WkSt F sb A n m f w t n' m' st wr ∧ NextIs6 sb n' m' st (f - t) v
/-- How many steps at most are between two that go through entries. -/
def vrank : Value → Nat
  | .func (.func g) _ _ => if g = 83 then 2 else if g = 86 then 1 else 0
  | _ => 0
theorem WkSt.next {F : Nat → Prop} {sb : Sb} {A : List Ent} {n m : Nat} {f : Int} {w : World} {t : Int} {n' m' : Nat} {st : Option (Nat × Nat × Nat)} {wr w2 : World} {e : Ending} (h : WkSt F sb A n m f w t n' m' st wr) (hF : ∀ k, F k → k < w.heap.size) (he : NextEnd sb n' m' st (f - t) wr e w2) : ∃ v, e = .returned v ∧ NextIs6 sb n' m' st (f - t) v ∧ WkTo F sb A n m f w t v w2 := by
  obtain ⟨v, rfl, e1, e2⟩ := he
  exact ⟨v, rfl, e1, n', m', st, h.on hF e2, e1⟩
end Go.Proofs.YtglbipnppldkmaaGreatDoor
/- What a spine's Work answers: the walk. -/
namespace Go.Proofs.YtglbipnppldkmaaGreatDoor
open Go.RowKit Go.Sort
set_option maxRecDepth 100000
def WkEnd (F : Nat → Prop) (sb : Sb) (A : List Ent) (n m : Nat) (f : Int) (w : World) (e : Ending) (w' : World) : Prop := ∃ k, e = .returned (.int .i64 k) ∧ WkIs F sb A n m f w k w'
theorem rankE (sb : Sb) : vrank (bndE sb) = 2 := by unfold bndE vrank; simp
theorem rankB (sb : Sb) : vrank (bndB sb) = 1 := by unfold bndB vrank; simp
theorem rankG (mb : Nat) : vrank (bndG mb) = 0 := by unfold bndG vrank; simp
/-- Behind an end a merge begins, or nothing is done. -/
theorem next_none {sb : Sb} {n m : Nat} {f : Int} {v : Value} (h : NextIs6 sb n m none f v) : vrank v ≤ 1 := by
  rcases h with ⟨_, _, _, e⟩ | ⟨rfl, _⟩ | ⟨rfl, _⟩ | ⟨_, _, _, _, _, _, e, _⟩
  · cases e
  · simp [vrank]
  · rw [rankB]; omega
  · cases e
/-- Behind a beginning it goes on. -/
theorem next_begun {sb : Sb} {n m mb : Nat} {f : Int} {v : Value} (h : NextIs6 sb n m (some (mb, n, m)) f v) (h1 : 1 ≤ f) (h2 : 2 ≤ n) (h3 : n ≤ m) : vrank v = 0 := by
  rcases h with ⟨_, mb', many', e⟩ | ⟨_, e, _⟩ | ⟨_, _, _, e⟩ | ⟨mb', _, _, rfl, _⟩
  · simp only [Option.some.injEq, Prod.mk.injEq] at e; omega
  · omega
  · rcases e with e | ⟨_, many', _, e, _, e2, _⟩
    · cases e
    · simp only [Option.some.injEq, Prod.mk.injEq] at e; omega
  · exact rankG _
theorem vrank_le (v : Value) : vrank v ≤ 2 := by
  unfold vrank
  split
  · split
    · omega
    · split <;> omega
  · omega
theorem neqE (a : Addr) (g : Nat) (W : World) : Sem.run Tryz.prog (binOp BinOp.neq 102 (.func (.func g) #[.pointer (some a)] #[]) .nilFunc) W = .ok (.bool true) W := by kernel_rfl
theorem neqN (W : World) : Sem.run Tryz.prog (binOp BinOp.neq 102 .nilFunc .nilFunc) W = .ok (.bool false) W := by kernel_rfl
set_option maxHeartbeats 2000000 in
theorem spWork (F : Nat → Prop) (sb : Sb) (A : List Ent) (n m : Nat) (f : Int) (w : World) (h : SpIs F sb A n m w) (hm : m ≤ 30000) (hf : -1000000 ≤ f ∧ f ≤ 9223372036854775807) :
    Calls Tryz.prog 35 #[.pointer (some ⟨sb.b, 1, none⟩), .int .i64 f] w fun e w' => WkEnd F sb A n m f w e w' := by
  obtain ⟨hf0, hf1⟩ := hf
  obtain ⟨st, h1, h2⟩ := h
  have HF : Hid (∀ k, F k → k < w.heap.size) := h1.lt
  have q0 := spNext F sb A n m st f w h1 hm
  have hS := WkSt.start (f := f) h1 h2
  have S0 : Hid (∀ e w1, NextEnd sb n m st f w e w1 → ∃ v, e = .returned v ∧ NextIs6 sb n m st (f - 0) v ∧ WkTo F sb A n m f w 0 v w1) := fun e w1 he => hS.next HF.out (by rw [Int.sub_zero]; exact he)
  clear h1 h2 hS
  go_enter Tryz.func35, Tryz.ntmps35
  go_wp2_with fail
  refine q0.mono ?_
  intro e w1 he
  obtain ⟨v0, rfl, _, hT0⟩ := S0.out e w1 he
  have T0 : Hid (WkTo F sb A n m f w 0 v0 w1) := hT0
  clear q0 S0 he hT0
  go_wp2_with fail
  go_loopw [5, 6] (fun s5 s6 wr => ∃ t : Int, s5 = .int .i64 t ∧ Hid (WkTo F sb A n m f w t s6 wr)) (fun s5 s6 _ => 3 * (f - intOf s5).toNat + vrank s6)
  case atStart => exact ⟨0, rfl, T0⟩
  case round =>
    clear T0
    obtain ⟨t, rfl, hT⟩ := hrel
    obtain ⟨n', m', st', hS, hN⟩ := hT.out
    have ht := hS.2.2.2.2.1
    have htf := hS.2.2.2.2.2.1
    have hm' : m' ≤ 30000 := Nat.le_trans hS.2.2.2.1 hm
    have tb : t ≤ 9223372036854775807 := by omega
    rcases hN with ⟨rfl, mb, many, rfl⟩ | ⟨rfl, e1, e2⟩ | ⟨rfl, e1, e2, e3⟩ | ⟨mb, many, y, rfl, e1, e2, rfl, e4, e5⟩
    · have q := spEndX (Grow F w wr) sb A n' m' mb many (f - t) wr hS.1 hm'
      have HS : Hid (∀ w2, EndIs (Grow F w wr) sb A n' m' many wr w2 → ∃ n2 m2, WkSt F sb A n m f w t n2 m2 none w2) := fun w2 he => hS.ended HF.out he
      have HR := rankE sb
      have HRR : Hid (vrank (bndE sb) = 2) := HR
      clear hS hT HR
      unfold bndE at HRR ⊢
      have nq := neqE ⟨sb.b, 1, none⟩ 83 wr
      go_wp2_with fail
      refine q.mono ?_
      rintro e w2 ⟨rfl, he⟩
      obtain ⟨n2, m2, hS2⟩ := HS.out w2 he
      have q2 := spNext _ sb A n2 m2 none (f - t) w2 hS2.1 (Nat.le_trans hS2.2.2.2.1 hm)
      have H2 : Hid (∀ e w3, NextEnd sb n2 m2 none (f - t) w2 e w3 → ∃ v, e = .returned v ∧ NextIs6 sb n2 m2 none (f - t) v ∧ WkTo F sb A n m f w t v w3) := fun e w3 he => hS2.next HF.out he
      clear q HS he hS2 nq
      go_wp2_with fail
      refine q2.mono ?_
      intro e w3 he
      obtain ⟨v3, rfl, g1, g2⟩ := H2.out e w3 he
      have G1 : Hid (vrank v3 ≤ 1) := next_none g1
      have G2 : Hid (WkTo F sb A n m f w t v3 w3) := g2
      clear q2 H2 he g1 g2
      go_wp2_with fail
      go_roundw
      case rel => exact ⟨t, rfl, G2⟩
      case measure => have := G1.out; have := HRR.out; simp only [intOf]; omega
    · have G : Hid (WkEnd F sb A n m f w (.returned (.int .i64 t)) wr) := ⟨t, rfl, hS.fin e1 e2⟩
      have nq := neqN wr
      clear hS hT
      go_wp2_with fail
      go_ret
      exact G.out
    · have q := spBegin (Grow F w wr) sb A n' m' st' (f - t) wr hS.1 (by omega)
      have HS : Hid (∀ w2, BegIs (Grow F w wr) sb A n' m' wr w2 → ∃ mb, WkSt F sb A n m f w t n' m' (some (mb, n', m')) w2) := fun w2 he => hS.begun HF.out e1 e2 e3 he
      have HR := rankB sb
      have HRR : Hid (vrank (bndB sb) = 1) := HR
      have HLE : Hid (n' ≤ m') := hS.1.le.1
      have HE1 : Hid (1 ≤ f - t) := e1
      clear hS hT HR e1 e3
      unfold bndB at HRR ⊢
      have nq := neqE ⟨sb.b, 1, none⟩ 86 wr
      go_wp2_with fail
      refine q.mono ?_
      rintro e w2 ⟨rfl, he⟩
      obtain ⟨mb2, hS2⟩ := HS.out w2 he
      have q2 := spNext _ sb A n' m' (some (mb2, n', m')) (f - t) w2 hS2.1 (Nat.le_trans hS2.2.2.2.1 hm)
      have H2 : Hid (∀ e w3, NextEnd sb n' m' (some (mb2, n', m')) (f - t) w2 e w3 → ∃ v, e = .returned v ∧ NextIs6 sb n' m' (some (mb2, n', m')) (f - t) v ∧ WkTo F sb A n m f w t v w3) := fun e w3 he => hS2.next HF.out he
      clear q HS he hS2 nq
      go_wp2_with fail
      refine q2.mono ?_
      intro e w3 he
      obtain ⟨v3, rfl, g1, g2⟩ := H2.out e w3 he
      have G1 : Hid (vrank v3 = 0) := next_begun g1 HE1.out e2 HLE.out
      have G2 : Hid (WkTo F sb A n m f w t v3 w3) := g2
      clear q2 H2 he g1 g2
      go_wp2_with fail
      go_roundw
      case rel => exact ⟨t, rfl, G2⟩
      case measure => have := G1.out; have := HRR.out; simp only [intOf]; omega
    · have q := spGoX (Grow F w wr) sb A n' m' mb many y (f - t) wr hS.1 (by omega) hm'
      have HS : Hid (∀ e w2, GxIs (Grow F w wr) sb A n' m' mb many y (f - t) wr e w2 → ∃ k : Nat, e = .returned (.int .i64 k) ∧ 1 ≤ k ∧ t + k ≤ f ∧ WkSt F sb A n m f w (t + k) n' m' (some (mb, many, y - k)) w2) := fun e w2 he => hS.gone HF.out e1 e2 e4 e5 he
      clear hS hT e5
      unfold bndG
      have nq := neqE ⟨mb, 0, none⟩ 87 wr
      go_wp2_with fail
      refine q.mono ?_
      intro e w2 he
      obtain ⟨k, rfl, k1, k2, hS2⟩ := HS.out e w2 he
      have q2 := spNext _ sb A n' m' (some (mb, many, y - k)) (f - (t + k)) w2 hS2.1 (Nat.le_trans hS2.2.2.2.1 hm)
      have H2 : Hid (∀ e w3, NextEnd sb n' m' (some (mb, many, y - k)) (f - (t + k)) w2 e w3 → ∃ v, e = .returned v ∧ NextIs6 sb n' m' (some (mb, many, y - k)) (f - (t + k)) v ∧ WkTo F sb A n m f w (t + k) v w3) := fun e w3 he => hS2.next HF.out he
      clear q HS he hS2 nq
      go_wp2_with fail
      refine q2.mono ?_
      intro e w3 he
      obtain ⟨v3, rfl, g1, g2⟩ := H2.out e w3 he
      have G1 : Hid (vrank v3 ≤ 2) := vrank_le v3
      have G2 : Hid (WkTo F sb A n m f w (t + k) v3 w3) := g2
      clear q2 H2 he g1 g2
      go_wp2_with fail
      go_roundw
      case rel => exact ⟨t + k, rfl, G2⟩
      case measure => have := G1.out; simp only [intOf]; omega
end Go.Proofs.YtglbipnppldkmaaGreatDoor
