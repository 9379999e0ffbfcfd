/- The statements' own maker of predicates: what its leaves leave. -/
import Derived.Test.YtaccinophamgmaaDoorPdMem
import Derived.Test.YtaccinophamgmaaDoorMakeValue
import Derived.Test.YtaccinophamgmaaDoorPackRow
import Derived.Test.YtaccinophamgmaaDoorPackStep
import Derived.Test.YtaccinophamgmaaDoorOn
namespace Go.Proofs.YtaccinophamgmaaDoor
open Go.RowKit
set_option maxRecDepth 100000
set_option linter.unusedVariables false

theorem IntsIs.but {S : Nat} {w w' : World} {v : Value} {l : List Int} (h : IntsIs w v l) (hb : But S w w') (hS : v.ownBlock ≠ some S) : IntsIs w' v l := by
  rcases h with h | ⟨b, o, cap, rfl, h1, h2, h3, h4⟩
  · exact .inl h
  · have hne : b ≠ S := fun e => hS (by rw [e]; rfl)
    exact .inr ⟨b, o, cap, rfl, h1, h2, Nat.lt_of_lt_of_le h3 hb.size, fun i hi => by rw [hb.cell (p := ⟨b, o + i, none⟩) hne h3]; exact h4 i hi⟩
theorem put8 {S : Nat} {a : Option Addr} {len cap : Nat} {zs : List Int} {p : Nat} {w w1 : World} (hS : S < w.heap.size) (h : SeqAt S a len cap zs p w1) (hb : But S w w1) (x0 x1 x2 x3 x4 x5 x6 x7 : Value) :
    SeqAt S a len cap zs p ((((((((w1.setCell ⟨w.heap.size, 0, none⟩ x0).setCell ⟨w.heap.size, 1, none⟩ x1).setCell ⟨w.heap.size, 2, none⟩ x2).setCell ⟨w.heap.size, 3, none⟩ x3).setCell ⟨w.heap.size, 4, none⟩ x4).setCell ⟨w.heap.size, 5, none⟩ x5).setCell ⟨w.heap.size, 6, none⟩ x6).setCell ⟨w.heap.size, 7, none⟩ x7) ∧
    But S w ((((((((w1.setCell ⟨w.heap.size, 0, none⟩ x0).setCell ⟨w.heap.size, 1, none⟩ x1).setCell ⟨w.heap.size, 2, none⟩ x2).setCell ⟨w.heap.size, 3, none⟩ x3).setCell ⟨w.heap.size, 4, none⟩ x4).setCell ⟨w.heap.size, 5, none⟩ x5).setCell ⟨w.heap.size, 6, none⟩ x6).setCell ⟨w.heap.size, 7, none⟩ x7) :=
  ⟨(((((((h.put hS 0 x0).put hS 1 x1).put hS 2 x2).put hS 3 x3).put hS 4 x4).put hS 5 x5).put hS 6 x6).put hS 7 x7,
   (((((((hb.put (Nat.le_refl _) 0 x0).put (Nat.le_refl _) 1 x1).put (Nat.le_refl _) 2 x2).put (Nat.le_refl _) 3 x3).put (Nat.le_refl _) 4 x4).put (Nat.le_refl _) 5 x5).put (Nat.le_refl _) 6 x6).put (Nat.le_refl _) 7 x7⟩
/-- A constant that is made: it may be, and is not Null. -/
def okM (v : Val) : Prop := ckV v.1 v.2.1 v.2.2 = true ∧ v.1 ≠ 0 ∧ -9223372036854775808 ≤ v.2.1 ∧ v.2.1 ≤ 9223372036854775807 ∧ v.2.2.size ≤ 64
/-- What the maker's call leaves: a predicate for the columns' kinds, the maker some numbers on. -/
def PdMade (S : Nat) (a : Option Addr) (len cap : Nat) (zs : List Int) (ks : List Int) (d p : Nat) (w : World) (e : Ending) (w' : World) : Prop :=
  ∃ (P : Pd) (s : Value) (p' : Nat), e = .returned (pv P s) ∧ MkP okM ks d P ∧ PdL (fun k => w.heap.size ≤ k) d w' s P.l ∧ p' ≤ p + 10 * 4 ^ d ∧ SeqAt S a len cap zs p' w' ∧ But S w w'
theorem pow_pos4 (d : Nat) : 1 ≤ 4 ^ d := Nat.pow_pos (by decide)
theorem PdMade.leaf {S : Nat} {a : Option Addr} {len cap : Nat} {zs ks : List Int} {d p : Nat} {w w' : World} {P : Pd} {p' : Nat} (h1 : LeafP ks P) (h2 : P.k = 1 → okM P.v) (h3 : P.l = []) (h4 : p' ≤ p + 10) (h5 : SeqAt S a len cap zs p' w' ∧ But S w w') : PdMade S a len cap zs ks d p w (.returned (pv P (.slice none 0 0))) w' :=
  ⟨P, _, p', rfl, MkP.leaf h1 h2, by rw [h3]; exact PdL.nil _ _ _ _ _, by have := pow_pos4 d; omega, h5.1, h5.2⟩
/-- The cells of the result's own block. -/
theorem res_cells {S : Nat} {w w1 : World} {o : Obj} (h : But S (w.alloc o) w1) (hS : S < w.heap.size) : (∀ q, w1.cell? ⟨w.heap.size, q, none⟩ = (w.alloc o).cell? ⟨w.heap.size, q, none⟩) ∧ (∀ q, w1.frozen? ⟨w.heap.size, q, none⟩ = (w.alloc o).frozen? ⟨w.heap.size, q, none⟩) := bcB h w.heap.size (by omega) (by simp)
/-- How far it is, round a circle of n, from j to c. -/
def cyc (n c j : Nat) : Nat := if j ≤ c then c - j else c + n - j
/-- Cells of a box that holds a predicate, and may be written. -/
def PdBox (X : Nat) (p : Pd) (s : Value) (w : World) : Prop := PdAt w X 0 p s ∧ (∀ q, w.frozen? ⟨X, q, none⟩ = false) ∧ X < w.heap.size
theorem PdBox.kept {X : Nat} {p : Pd} {s : Value} {w w' : World} (h : PdBox X p s w) (hz : w.heap.size ≤ w'.heap.size) (hk : w'.heap[X]? = w.heap[X]?) : PdBox X p s w' :=
  ⟨h.1.kept hk, fun q => by rw [World.frozen?_of_block (w := w) hk]; exact h.2.1 q, Nat.lt_of_lt_of_le h.2.2 hz⟩
theorem PdBox.on {X : Nat} {p : Pd} {s : Value} {w w' : World} (h : PdBox X p s w) (hb : Below w.heap.size w w') : PdBox X p s w' := h.kept hb.size (hb.block X h.2.2)
theorem PdBox.but {S X : Nat} {p : Pd} {s : Value} {w w' : World} (h : PdBox X p s w) (hb : But S w w') (hX : X ≠ S) : PdBox X p s w' := h.kept hb.size (hb.2.2.2.2 X hX h.2.2)
theorem PdBox.grown {X : Nat} {p : Pd} {s : Value} {w w' : World} {row : Option Nat} (h : PdBox X p s w) (hg : w.grownBy w' row) (hX : row ≠ some X) : PdBox X p s w' := h.kept hg.size (hg.block X h.2.2 (fun e => hX e.symm))
theorem PdBox.new (w : World) (p : Pd) (s : Value) : PdBox w.heap.size p s (w.alloc (.cells (hc p s).toArray 33)) := ⟨PdAt.box w p s _, fun q => by simp [go_sem], by simp⟩
theorem PdBox.set {X : Nat} {p : Pd} {s s' : Value} {w : World} (h : PdBox X p s w) : PdBox X p s' (w.setCell ⟨X, 7, none⟩ s') := by
  obtain ⟨⟨x0, x1, x2, x3, x4, x5, x6, x7⟩, hf, hl⟩ := h
  have e : ∀ q, q ≠ 7 → (w.setCell ⟨X, 7, none⟩ s').cell? ⟨X, q, none⟩ = w.cell? ⟨X, q, none⟩ := fun q hq => World.cell?_setCell_other _ _ _ _ (fun e => by have := congrArg Addr.off e; simp at this; omega)
  refine ⟨⟨?_, ?_, ?_, ?_, ?_, ?_, ?_, ?_⟩, fun q => by rw [World.frozen?_setCell]; exact hf q, by simpa [World.setCell] using hl⟩
  · rw [e _ (by omega)]; exact x0
  · rw [e _ (by omega)]; exact x1
  · rw [e _ (by omega)]; exact x2
  · rw [e _ (by omega)]; exact x3
  · rw [e _ (by omega)]; exact x4
  · rw [e _ (by omega)]; exact x5
  · rw [e _ (by omega)]; exact x6
  · have := World.cell?_setCell_same w ⟨X, 7, none⟩ s' (u := s) x7
    exact this
theorem PdBox.other {X Y o : Nat} {p : Pd} {s v : Value} {w : World} (h : PdBox X p s w) (hY : Y ≠ X) : PdBox X p s (w.setCell ⟨Y, o, none⟩ v) :=
  h.kept (by simp [World.setCell]) (Below.heap_setCell _ _ _ _ (fun e => hY e.symm))
theorem own_onP {base : Nat} {w w' : World} {e : TypeId} {size : Nat} {v : Value} {n : Nat} {xs : List Value} (h : w.ownsRow base e size v n xs) (hb : Below w.heap.size w w') : w'.ownsRow base e size v n xs := by
  have hlt := h.lt
  obtain ⟨h1, h2 | ⟨g, cap, cur, hv, hg, hh, r⟩⟩ := h
  · exact ⟨h1, .inl h2⟩
  · refine ⟨h1, .inr ⟨g, cap, cur, hv, hg, ?_, r⟩⟩
    rw [hb.block g (hlt g (by rw [hv]; rfl)).2]; exact hh
theorem own_setP {base X q : Nat} {w : World} {e : TypeId} {size : Nat} {v u : Value} {n : Nat} {xs : List Value} (h : w.ownsRow base e size v n xs) (hX : X < base) : (w.setCell ⟨X, q, none⟩ u).ownsRow base e size v n xs := by
  have hlt := h.lt
  obtain ⟨h1, h2 | ⟨g, cap, cur, hv, hg, hh, r⟩⟩ := h
  · exact ⟨h1, .inl h2⟩
  · refine ⟨h1, .inr ⟨g, cap, cur, hv, hg, ?_, r⟩⟩
    rw [Below.heap_setCell _ _ _ _ (show g ≠ X by omega)]; exact hh
theorem own_formP {base : Nat} {w : World} {e : TypeId} {s : Nat} {v : Value} {n : Nat} {xs : List Value} (h : w.ownsRow base e s v n xs) : ∃ a cap, v = .slice a n cap := by
  rcases h.2 with ⟨h1, h2⟩ | ⟨g, cap, cur, hv, _⟩
  · exact ⟨none, 0, by rw [h1, h2]⟩
  · exact ⟨_, _, hv⟩
theorem step_call3e {P : Program} {ops : Array Oper} {o : Oper} {a : Act} {w : World} {K : Act → World → Prop} {Q : Exit → Act → World → Prop} {E : Prop} (hw : Region.wanted o (yielded ops a.tmps) = true)
    (f : FuncId) (x y z : Operand) (t u s : TypeId) (ho : o.op = .call { callee := .value (.func f), args := #[x, y, z], argTypes := #[t, u, s] }) (he : ∀ args w, (callFunc f args).run P w = .ok (.enter f args) w)
    (vx vy vz : Value) (hx : a.eval x = vx) (hy : a.eval y = vy) (hz : a.eval z = vz) (R : Ending → World → Prop) (hc : Calls P f #[vx, vy, vz] w R) (h : ∀ e w', R e w' → ∃ v, e = .returned v ∧ K (a.put o.dst v) w') :
    if Region.wanted o (yielded ops a.tmps) = true then Oper.wp P o a w K Q else E := by
  rw [if_pos hw]
  subst hx hy hz
  have e0 : a.eval (.func f) = .func (.func f) #[] #[] := rfl
  unfold Oper.wp
  simp [execOp, ho, resolve, invoke, e0, Deferred.ofValue, he, Oper.upon]
  exact hc.mono fun e w' hr => by obtain ⟨v, rfl, hk⟩ := h e w' hr; exact hk
/-- Eight stores into a box leave all else as it was. -/
theorem put8_heap {w : World} {R : Nat} (x0 x1 x2 x3 x4 x5 x6 x7 : Value) :
    (∀ k, k ≠ R → ((((((((w.setCell ⟨R, 0, none⟩ x0).setCell ⟨R, 1, none⟩ x1).setCell ⟨R, 2, none⟩ x2).setCell ⟨R, 3, none⟩ x3).setCell ⟨R, 4, none⟩ x4).setCell ⟨R, 5, none⟩ x5).setCell ⟨R, 6, none⟩ x6).setCell ⟨R, 7, none⟩ x7).heap[k]? = w.heap[k]?) ∧
    ((((((((w.setCell ⟨R, 0, none⟩ x0).setCell ⟨R, 1, none⟩ x1).setCell ⟨R, 2, none⟩ x2).setCell ⟨R, 3, none⟩ x3).setCell ⟨R, 4, none⟩ x4).setCell ⟨R, 5, none⟩ x5).setCell ⟨R, 6, none⟩ x6).setCell ⟨R, 7, none⟩ x7).heap.size = w.heap.size := by
  refine ⟨fun k hk => ?_, by simp [World.setCell]⟩
  have e : ∀ (W : World) (o : Nat) (v : Value), (W.setCell ⟨R, o, none⟩ v).heap[k]? = W.heap[k]? := fun W o v => Below.heap_setCell _ _ _ _ hk
  rw [e, e, e, e, e, e, e, e]
end Go.Proofs.YtaccinophamgmaaDoor
