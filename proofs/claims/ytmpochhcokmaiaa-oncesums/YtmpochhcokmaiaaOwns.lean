/- Z-sets that a call owns: the list and its rows. -/
import Derived.Test.YtmpochhcokmaiaaMakeSets
namespace Go.Proofs.Ytmpochhcokmaiaa
open Go.RowKit Go.Sort
set_option maxRecDepth 100000
/-- Entries that may be handed in. -/
def EOk (l : List Ent) : Prop := ∀ e ∈ l, inI e.2 = true ∧ e.1.length ≤ 65536
/-- A z-set under way: a list of the call's own, rows of its own. -/
def ZOwn (base : Nat) (us : List VEnt) (l : List Ent) (v : Value) (w : World) : Prop := w.ownsRow base 36 2 v us.length (es us) ∧ OwnRows base w us l
theorem ZOwn.ents {base : Nat} {us : List VEnt} {l : List Ent} {v : Value} {w : World} (h : ZOwn base us l v w) : EntsIs w v l := ⟨us, EntsAt.of_own h.1, h.2.reads⟩
theorem ZOwn.on {base : Nat} {us : List VEnt} {l : List Ent} {v : Value} {w w' : World} (h : ZOwn base us l v w) (hb : Below w.heap.size w w') : ZOwn base us l v w' := ⟨own_on h.1 hb, h.2.on hb⟩
theorem ZOwn.nil (base : Nat) (w : World) : ZOwn base [] [] (.slice none 0 0) w := ⟨World.ownsRow_nil _ _ _ _, rfl, fun i h => by simp at h⟩
/-- A z-set of the call's own. -/
def ZHas (base : Nat) (l : List Ent) (v : Value) (w : World) : Prop := ∃ us, ZOwn base us l v w
theorem ZHas.ents {base : Nat} {l : List Ent} {v : Value} {w : World} (h : ZHas base l v w) : EntsIs w v l := by obtain ⟨us, h⟩ := h; exact h.ents
theorem ZHas.on {base : Nat} {l : List Ent} {v : Value} {w w' : World} (h : ZHas base l v w) (hb : Below w.heap.size w w') : ZHas base l v w' := by obtain ⟨us, h⟩ := h; exact ⟨us, h.on hb⟩
theorem ZOwn.mono {base base' : Nat} {us : List VEnt} {l : List Ent} {v : Value} {w : World} (h : ZOwn base' us l v w) (hb : base ≤ base') : ZOwn base us l v w :=
  ⟨own_mono h.1 hb, h.2.1, fun i h1 h2 => ⟨own_mono (h.2.2 i h1 h2).1 hb, (h.2.2 i h1 h2).2⟩⟩
theorem own_keep {base : Nat} {w w' : World} {e : TypeId} {s : Nat} {v : Value} {n : Nat} {xs : List Value} {g : Option Nat} (h : w.ownsRow base e s v n xs) (hg : w.grownBy w' g) (hlt : ∀ k, g = some k → k < base) : w'.ownsRow base e s v n xs := by
  refine h.kept hg ?_
  cases hv : v.ownBlock with
  | none => exact .inl rfl
  | some k => exact .inr (fun e' => by have h1 := (h.lt k hv).1; have h2 := hlt k e'.symm; omega)
theorem ZHas.keep {base : Nat} {l : List Ent} {v : Value} {w w' : World} {g : Option Nat} (h : ZHas base l v w) (hg : w.grownBy w' g) (hlt : ∀ k, g = some k → k < base) : ZHas base l v w' := by
  obtain ⟨us, h1, h2⟩ := h
  exact ⟨us, own_keep h1 hg hlt, h2.1, fun i a b => ⟨own_keep (h2.2 i a b).1 hg hlt, (h2.2 i a b).2⟩⟩
theorem ZHas.new {base : Nat} {l : List Ent} {v : Value} {w : World} (h : ZHas base l v w) : EntsNew base l v w := by
  obtain ⟨us, h1, h2⟩ := h; exact EntsNew.of_own h1 h2
end Go.Proofs.Ytmpochhcokmaiaa
