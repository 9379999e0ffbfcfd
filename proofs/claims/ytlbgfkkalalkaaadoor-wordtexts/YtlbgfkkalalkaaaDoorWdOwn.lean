/- What a call owns, where other memory turns. -/
import Derived.Test.YtlbgfkkalalkaaaDoorSeq
import Derived.Laws.OwnMore
import Derived.OwnWalk
import Derived.Below
namespace Go.Proofs.YtlbgfkkalalkaaaDoor
open Go.RowKit
set_option maxRecDepth 100000
theorem ownW_on {base : Nat} {w w' : World} {e : TypeId} {size : Nat} {v : Value} {n : Nat} {xs : List Value} (h : w.ownsRow base e size v n xs) (k : Below w.heap.size w w') : w'.ownsRow base e size v n xs := by
  obtain ⟨g1, g2 | ⟨g, cap, cur, hv, hg, hh, r⟩⟩ := h
  · exact ⟨g1, .inl g2⟩
  · exact ⟨g1, .inr ⟨g, cap, cur, hv, hg, by rw [k.block g (Array.getElem?_eq_some_iff.1 hh).1]; exact hh, r⟩⟩
theorem ownW_but {S base : Nat} {w w' : World} {e : TypeId} {size : Nat} {v : Value} {n : Nat} {xs : List Value} (h : w.ownsRow base e size v n xs) (hb : But S w w') (hS : S < base) : w'.ownsRow base e size v n xs := by
  obtain ⟨g1, g2 | ⟨g, cap, cur, hv, hg, hh, r⟩⟩ := h
  · exact ⟨g1, .inl g2⟩
  · exact ⟨g1, .inr ⟨g, cap, cur, hv, hg, by rw [hb.2.2.2.2 g (by omega) (Array.getElem?_eq_some_iff.1 hh).1]; exact hh, r⟩⟩
theorem ownW_keep {base : Nat} {w w' : World} {e : TypeId} {s : Nat} {v : Value} {n : Nat} {xs : List Value} {g : Option Nat} (h : w.ownsRow base e s v n xs) (hg : w.grownBy w' g) (hlt : ∀ k, g = some k → k < base) : w'.ownsRow base e s v n xs := by
  refine h.kept hg ?_
  cases hv : v.ownBlock with
  | none => exact .inl rfl
  | some k => exact .inr (fun e' => by have h1 := (h.lt k hv).1; have h2 := hlt k e'.symm; omega)
theorem ownW_form {base : Nat} {w : World} {e : TypeId} {s : Nat} {v : Value} {n : Nat} {xs : List Value} (h : w.ownsRow base e s v n xs) : ∃ a cap, v = .slice a n cap := by
  rcases h.2 with ⟨h1, h2⟩ | ⟨g, cap, cur, hv, _⟩
  · exact ⟨none, 0, by rw [h1, h2]⟩
  · exact ⟨_, _, hv⟩
theorem ownW_mono {base base' : Nat} {w : World} {e : TypeId} {s : Nat} {v : Value} {n : Nat} {xs : List Value} (h : w.ownsRow base' e s v n xs) (hb : base ≤ base') : w.ownsRow base e s v n xs := by
  obtain ⟨h1, h2 | ⟨g, cap, cur, hv, hg, r⟩⟩ := h
  · exact ⟨h1, .inl h2⟩
  · exact ⟨h1, .inr ⟨g, cap, cur, hv, by omega, r⟩⟩
/-- Rows of unlike elements lie in unlike blocks. -/
theorem ownW_types {base base' : Nat} {w : World} {e e' : TypeId} {s s' : Nat} {v v' : Value} {n n' : Nat} {xs xs' : List Value} (h : w.ownsRow base e s v n xs) (h' : w.ownsRow base' e' s' v' n' xs') (hne : e ≠ e') (g : Nat) (hg : v'.ownBlock = some g) : v.ownBlock ≠ some g := by
  intro hv
  rcases h.2 with ⟨rfl, _⟩ | ⟨g1, c1, u1, rfl, _, h1, _⟩
  · cases hv
  · rcases h'.2 with ⟨rfl, _⟩ | ⟨g2, c2, u2, rfl, _, h2, _⟩
    · cases hg
    · simp only [Value.ownBlock, Option.some.injEq] at hv hg
      subst hv hg
      rw [h1] at h2
      simp only [Option.some.injEq, Obj.cells.injEq] at h2
      exact hne h2.2.1
/-- What is owned stays, where a row of other elements grows. -/
theorem ownW_grown {base base' : Nat} {w w' : World} {e e' : TypeId} {s s' : Nat} {v v' : Value} {n n' : Nat} {xs xs' : List Value} (h : w.ownsRow base e s v n xs) (h' : w.ownsRow base' e' s' v' n' xs') (hne : e ≠ e') (hg : w.grownBy w' v'.ownBlock) : w'.ownsRow base e s v n xs := by
  refine h.kept hg ?_
  cases hv : v'.ownBlock with
  | none => cases e : v.ownBlock with | none => exact .inl rfl | some k => exact .inr (by simp)
  | some g => exact .inr (ownW_types h h' hne g hv)
end Go.Proofs.YtlbgfkkalalkaaaDoor
