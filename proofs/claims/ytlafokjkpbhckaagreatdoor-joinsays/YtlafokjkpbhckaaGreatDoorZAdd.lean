/- What the document's own Entries, Add and Neg answer of entries in memory. -/
import Derived.Test.YtlafokjkpbhckaaGreatDoorPackMake
namespace Go.Proofs.YtlafokjkpbhckaaGreatDoor
open Go.RowKit Go.Sort
set_option maxRecDepth 100000

/-- How far the copy has come. -/
def CopyTo (vs : List VEnt) (w : World) (j : Nat) (v : Value) (wr : World) : Prop := wr.ownsRow w.heap.size 41 2 v j (es (vs.take j)) ∧ Below w.heap.size w wr
theorem es_take {vs : List VEnt} {j : Nat} (h : j < vs.length) : es (vs.take (j + 1)) = es (vs.take j) ++ ec vs[j] := by rw [List.take_succ_eq_append_getElem h, es_snoc]
/-- 'append' of nothing. -/
theorem run_append_zero {P : Program} (w : World) (base : Nat) (t ty e : TypeId) (i : TypeInfo) (size : Nat) (ht : P.underlying t = some (.slice e)) (hi : P.info? e = some i)
    (v : Value) (n : Nat) (xs : List Value) (hown : w.ownsRow base e size v n xs) (a : Option Addr) (cap : Nat) :
    (Builtin.append_ #[t, t] ty #[v, .slice a 0 cap]).run P w = .ok v w := by
  rcases hown.2 with ⟨rfl, rfl⟩ | ⟨g, cap, cur, rfl, _, _, hnc, _⟩
  · cases a <;> simp [Builtin.append_, run_underlying ht, sizeOf, typeInfo, hi, Builtin.lenOf, Builtin.firstCells, loadCells, loadCellsFrom]
  · cases a <;> simp [Builtin.append_, run_underlying ht, sizeOf, typeInfo, hi, Builtin.lenOf, Builtin.firstCells, hnc, storeCells, loadCells, loadCellsFrom]
theorem wpList_append_zero {P : Program} {w : World} {ops : Array Oper} {rest : List Oper} {op : Oper} {f : Act} {Q : Exit → Act → World → Prop} (hgd : op.guard = none) (s x : Operand) (t : TypeId)
    (ho : op.op = .call { callee := .builtin .append, args := #[s, x], argTypes := #[t, t] }) (base : Nat) (e : TypeId) (i : TypeInfo) (size : Nat) (ht : P.underlying t = some (.slice e)) (hi : P.info? e = some i)
    (v : Value) (n : Nat) (xs : List Value) (hs : f.eval s = v) (hown : w.ownsRow base e size v n xs) (a : Option Addr) (cap : Nat) (hx : f.eval x = .slice a 0 cap)
    (h : wpList P ops Q rest (f.put op.dst v) w) : wpList P ops Q (op :: rest) f w := by
  refine wpList_plain hgd fun K hK => ?_
  have hrun := run_append_zero w base t op.type e i size ht hi v n xs hown a cap
  unfold Oper.wp
  simp [execOp, ho, resolve, invoke, builtin, hs, hx, hrun, Result.andThen]
  exact hK _ _ h
theorem EntsAt.cells {w : World} {b o n cap : Nat} {vs : List VEnt} (h : EntsAt w (.slice (some ⟨b, o, none⟩) n cap) vs) : ∀ j u, (es vs)[j]? = some u → w.cell? ((⟨b, o, none⟩ : Addr).add j) = some u := by
  intro j u hu
  have hj : j < (es vs).length := (List.getElem?_eq_some_iff.1 hu).1
  rw [es_len] at hj
  have hi : j / 2 < vs.length := by omega
  obtain ⟨b', o', e, a0, a1, _⟩ := h.at (j / 2) hi
  simp only [Option.some.injEq, Addr.mk.injEq, and_true] at e
  obtain ⟨rfl, rfl⟩ := e
  obtain ⟨c0, c1⟩ := es_at vs (j / 2) hi
  rw [add_plain]
  have hm : j % 2 = 0 ∨ j % 2 = 1 := by omega
  rcases hm with e | e
  · have ej : j = j / 2 * 2 := by omega
    generalize j / 2 = i at *
    subst ej
    rw [c0] at hu; rw [← hu]; exact a0
  · have ej : j = j / 2 * 2 + 1 := by omega
    generalize j / 2 = i at *
    subst ej
    rw [c1] at hu; rw [← hu, ← Nat.add_assoc]; exact a1
theorem Reads.one' {w : World} {vs : List VEnt} {l : List Ent} (h : Reads w vs l) : ∀ u ∈ es vs, u.oneCell' = true := by
  intro u hu
  obtain ⟨v, hv, hu'⟩ := List.mem_flatMap.1 hu
  obtain ⟨i, hi, rfl⟩ := List.getElem_of_mem hv
  obtain ⟨am, cm, em⟩ := (h.2 i hi (by rw [← h.1]; exact hi)).1.form
  simp only [ec, List.mem_cons, List.not_mem_nil, or_false] at hu'
  rcases hu' with rfl | rfl
  · rw [em]; rfl
  · rfl
end Go.Proofs.YtlafokjkpbhckaaGreatDoor
