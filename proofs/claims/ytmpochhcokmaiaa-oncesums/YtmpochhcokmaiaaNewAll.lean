/- Answers above a bound: they outlive a maker's next number. -/
import Derived.Test.YtmpochhcokmaiaaOwns
import Derived.Test.YtmpochhcokmaiaaZRef
namespace Go.Proofs.Ytmpochhcokmaiaa
open Go.RowKit Go.Sort
set_option maxRecDepth 100000
set_option linter.unusedVariables false

/-- A row above a bound, in a block of values. -/
theorem row_up {base : Nat} {w : World} {v : Value} {r : List Val} (h : RowIs w v r) (hv : r = [] ∨ ∀ k, v.ownBlock = some k → base ≤ k ∧ ValB k w) : RowIs (above base w) v r := by
  rcases h with ⟨a, cap, rfl, rfl⟩ | ⟨b, o, cap, rfl, h1, h2, h3, h4⟩
  · exact .inl ⟨a, cap, rfl, rfl⟩
  · rcases hv with rfl | hv
    · exact .inl ⟨_, cap, rfl, rfl⟩
    · obtain ⟨hb, hB⟩ := hv b rfl
      refine .inr ⟨b, o, cap, rfl, h1, h2, by rw [above_size]; exact h3, fun i hi => ?_⟩
      rw [above_cell hb hB, above_cell hb hB, above_cell hb hB]
      exact h4 i hi
theorem EntsNew.up {base : Nat} {l : List Ent} {v : Value} {w : World} (h : EntsNew base l v w) : EntsR w (above base w) v l := by
  obtain ⟨us, h1, h2, h3⟩ := h
  exact ⟨us, EntsAt.of_own h1, h2.1, fun i a b => ⟨row_up (h2.2 i a b).1 (h3 i a b), (h2.2 i a b).2⟩⟩
/-- Lists that all lie above a bound. -/
def AllNew (B : Nat) (L : List (List Ent × Value)) (V : World) : Prop := ∀ x ∈ L, EntsNew B x.1 x.2 V
theorem AllNew.on {B : Nat} {L : List (List Ent × Value)} {V V' : World} (h : AllNew B L V) (hb : Below V.heap.size V V') : AllNew B L V' := fun x hx => (h x hx).on hb
theorem AllNew.but {S B : Nat} {L : List (List Ent × Value)} {V V' : World} (h : AllNew B L V) (hb : But S V V') (hB : S < B) : AllNew B L V' := fun x hx => (h x hx).but hb hB
theorem AllNew.nil (B : Nat) (V : World) : AllNew B [] V := fun x hx => by cases hx
theorem AllNew.add {B : Nat} {L : List (List Ent × Value)} {V : World} (h : AllNew B L V) {l : List Ent} {v : Value} (he : EntsNew B l v V) : AllNew B ((l, v) :: L) V := fun x hx => by
  rcases List.mem_cons.1 hx with rfl | hx
  · exact he
  · exact h x hx
theorem AllNew.at {B : Nat} {L : List (List Ent × Value)} {V : World} (h : AllNew B L V) (i : Nat) {l : List Ent} {v : Value} (hi : L[i]? = some (l, v)) : EntsNew B l v V := h (l, v) (List.mem_of_getElem? hi)
end Go.Proofs.Ytmpochhcokmaiaa
