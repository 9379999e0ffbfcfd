/- A value that is put into a row of the call's own. -/
import Derived.Test.YtmpochhcokmaiaaRowMem
import Derived.Deep.MidRow
namespace Go.Proofs.Ytmpochhcokmaiaa
open Go.RowKit
set_option maxRecDepth 100000

theorem rc_set : ∀ (l : List Val) (i : Nat) (x : Val), i < l.length → rc (l.set i x) = (((rc l).set (i * 3) (.int .i64 x.1)).set (i * 3 + 1) (.int .i64 x.2.1)).set (i * 3 + 2) (.string x.2.2)
  | a :: l, 0, x, _ => rfl
  | a :: l, i + 1, x, h => by
    have e : ∀ m, rc (a :: m) = vc a ++ rc m := fun m => rfl
    have hv : (vc a).length = 3 := rfl
    have ih := rc_set l i x (by simpa using h)
    have s : ∀ (m : List Value) (j : Nat) (u : Value), (vc a ++ m).set (j + 3) u = vc a ++ m.set j u := by
      intro m j u; rw [List.set_append, if_neg (by omega), hv, Nat.add_sub_cancel]
    rw [List.set_cons_succ, e, e, ih, show (i + 1) * 3 = i * 3 + 3 by omega, show i * 3 + 3 + 1 = (i * 3 + 1) + 3 by omega, show i * 3 + 3 + 2 = (i * 3 + 2) + 3 by omega, s, s, s]
theorem grown_trans {a b c : World} {g : Option Nat} (h : a.grownBy b g) (k : b.grownBy c g) : a.grownBy c g :=
  ⟨k.os.trans h.os, k.tape.trans h.tape, k.output.trans h.output, Nat.le_trans h.size k.size, fun i h1 h2 => (k.block i (Nat.lt_of_lt_of_le h1 h.size) h2).trans (h.block i h1 h2)⟩
theorem own_store {w : World} {base g n cap : Nat} {l : List Val} (h : w.ownsRow base 39 3 (.slice (some ⟨g, 0, none⟩) n cap) n (rc l)) (hl : l.length = n) (i : Nat) (hi : i < n) (x : Val) :
    (w.setCells g (i * 3) (vc x)).ownsRow base 39 3 (.slice (some ⟨g, 0, none⟩) n cap) n (rc (l.set i x)) ∧ w.grownBy (w.setCells g (i * 3) (vc x)) (some g) := by
  obtain ⟨a1, g1⟩ := h.stored (i * 3) (.int .i64 x.1)
  obtain ⟨a2, g2⟩ := a1.stored (i * 3 + 1) (.int .i64 x.2.1)
  obtain ⟨a3, g3⟩ := a2.stored (i * 3 + 1 + 1) (.string x.2.2)
  rw [rc_set l i x (by omega)]
  exact ⟨a3, grown_trans (grown_trans g1 g2) g3⟩
theorem own_there {w : World} {base g n cap : Nat} {l : List Val} (h : w.ownsRow base 39 3 (.slice (some ⟨g, 0, none⟩) n cap) n (rc l)) (hl : l.length = n) (i : Nat) (hi : i < n) : w.there g (i * 3) 3 := by
  intro j hj
  refine ⟨?_, h.frozenAt _⟩
  rw [h.cellAt (i * 3 + j) (by omega), List.getElem?_eq_getElem (by rw [rc_len]; omega)]
  rfl
/-- The store, as the walk meets it. -/
theorem wpList_store_val {ops : Array Oper} {rest : List Oper} {op : Oper} {a : Act} {w : World} {Q : Exit → Act → World → Prop} (hgd : op.guard = none) (x y : Operand) (ho : op.op = .store 39 x y)
    {base g n cap : Nat} {l : List Val} (i : Nat) (v : Val) (hown : w.ownsRow base 39 3 (.slice (some ⟨g, 0, none⟩) n cap) n (rc l)) (hl : l.length = n) (hi : i < n)
    (hx : a.eval x = .pointer (some ⟨g, i * 3, none⟩)) (hy : a.eval y = .agg #[.int .i64 v.1, .int .i64 v.2.1, .string v.2.2]) (hinf : (Try.prog.info? 39).map (·.size) = some 3)
    (h : ∀ w', w'.ownsRow base 39 3 (.slice (some ⟨g, 0, none⟩) n cap) n (rc (l.set i v)) → w.grownBy w' (some g) → wpList Try.prog ops Q rest (a.put op.dst undef) w') : wpList Try.prog ops Q (op :: rest) a w :=
  wpList_store_mid hgd 39 x y ho g (i * 3) _ hx hy (own_there hown hl i hi) hinf (by simp [Value.oneCell']) (h _ (own_store hown hl i hi v).1 (own_store hown hl i hi v).2)
theorem own_grown {w w' : World} {base g : Nat} {e : TypeId} {size : Nat} {v : Value} {n : Nat} {xs : List Value} (h : w.ownsRow base e size v n xs) (hb : w.grownBy w' (some g)) (hS : v.ownBlock ≠ some g) : w'.ownsRow base e size v n xs := by
  have hlt := h.lt
  obtain ⟨h1, h2 | ⟨g', cap, cur, hv, hg, hh, r⟩⟩ := h
  · exact ⟨h1, .inl h2⟩
  · refine ⟨h1, .inr ⟨g', cap, cur, hv, hg, ?_, r⟩⟩
    rw [hb.block g' (hlt g' (by rw [hv]; rfl)).2 (fun e => hS (by rw [hv]; exact e))]; exact hh
end Go.Proofs.Ytmpochhcokmaiaa
