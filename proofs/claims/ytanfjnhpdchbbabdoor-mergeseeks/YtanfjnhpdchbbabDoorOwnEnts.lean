/- A list of entries that is copied entry by entry. -/
import Derived.Test.YtanfjnhpdchbbabDoorPackSets
import Derived.Test.YtanfjnhpdchbbabDoorPackPut
import Derived.Test.YtanfjnhpdchbbabDoorRowStore
namespace Go.Proofs.YtanfjnhpdchbbabDoor
open Go.RowKit Go.Sort
set_option maxRecDepth 100000
theorem es_set : ∀ (l : List VEnt) (i : Nat) (x : VEnt), i < l.length → es (l.set i x) = ((es l).set (i * 2) x.1).set (i * 2 + 1) (.int .i64 x.2)
  | a :: l, 0, x, _ => rfl
  | a :: l, i + 1, x, h => by
    have hv : (ec a).length = 2 := rfl
    have ih := es_set l i x (by simpa using h)
    have s : ∀ (m : List Value) (j : Nat) (u : Value), (ec a ++ m).set (j + 2) u = ec a ++ m.set j u := by
      intro m j u; rw [List.set_append, if_neg (by omega), hv, Nat.add_sub_cancel]
    rw [List.set_cons_succ, es_cons, es_cons, ih, show (i + 1) * 2 = i * 2 + 2 by omega, show i * 2 + 2 + 1 = (i * 2 + 1) + 2 by omega, s, s]
/-- An entry of nothing. -/
def noEnt : VEnt := (.slice none 0 0, 0)
theorem made_ents (n : Nat) : (madeCells (Value.agg #[.slice none 0 0, .int .i64 0]).cells (n * 2)).toList = es (List.replicate n noEnt) := by
  apply List.ext_getElem?
  intro i
  by_cases h : i < n * 2
  · have hi : i / 2 < (List.replicate n noEnt).length := by simp; omega
    have hat := es_at (List.replicate n noEnt) (i / 2) hi
    rw [List.getElem_replicate] at hat
    have hm : (madeCells (Value.agg #[.slice none 0 0, .int .i64 0]).cells (n * 2)).toList[i]? = some (if i % 2 = 0 then .slice none 0 0 else .int .i64 0) := by
      simp [madeCells, h, Value.cells]
      rcases Nat.mod_two_eq_zero_or_one i with e | e <;> simp [e]
    rw [hm]
    rcases Nat.mod_two_eq_zero_or_one i with e | e
    · rw [if_pos e, show i = i / 2 * 2 by omega, hat.1]; rfl
    · rw [if_neg (by omega), show i = i / 2 * 2 + 1 by omega, hat.2]; rfl
  · rw [List.getElem?_eq_none (by simp [madeCells]; omega), List.getElem?_eq_none (by rw [es_len]; simp; omega)]
/-- A list copied entry by entry, so far. -/
def OwnTo (l : List Ent) (w : World) (j : Nat) (wr : World) : Prop :=
  ∃ us : List VEnt, us.length = j ∧ wr.ownsRow w.heap.size 39 2 (.slice (some ⟨w.heap.size, 0, none⟩) l.length l.length) l.length (es (us ++ List.replicate (l.length - j) noEnt)) ∧ OwnRows w.heap.size wr us (l.take j) ∧ Below w.heap.size w wr
end Go.Proofs.YtanfjnhpdchbbabDoor
