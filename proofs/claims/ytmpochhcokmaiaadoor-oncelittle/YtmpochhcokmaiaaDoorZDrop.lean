/- Entries without their first ones; the error of an answer; rows that are none. -/
import Derived.Test.YtmpochhcokmaiaaDoorZMem
import Derived.Test.YtmpochhcokmaiaaDoorErrs
namespace Go.Proofs.YtmpochhcokmaiaaDoor
open Go.RowKit Go.Sort
set_option maxRecDepth 100000

/-- A list of entries without its first ones. -/
theorem EntsIs.drop {w : World} {b o n cap : Nat} {l : List Ent} (h : EntsIs w (.slice (some ⟨b, o, none⟩) n cap) l) (k : Nat) (hk : k ≤ l.length) : EntsIs w (.slice (some ⟨b, o + k * 2, none⟩) (n - k) (cap - k)) (l.drop k) := by
  obtain ⟨vs, h1, h2⟩ := h
  have hkv : k ≤ vs.length := by rw [h2.1]; exact hk
  refine ⟨vs.drop k, ?_, by simp [h2.1], fun i h3 h4 => ?_⟩
  · rcases h1 with ⟨a, c, e, rfl⟩ | ⟨b', o', c, e, g1, g2, g3, g4⟩
    · simp only [Value.slice.injEq] at e
      obtain ⟨_, rfl, rfl⟩ := e
      exact .inl ⟨some ⟨b, o + k * 2, none⟩, cap - k, by simp, by simp⟩
    · simp only [Value.slice.injEq, Option.some.injEq, Addr.mk.injEq, and_true] at e
      obtain ⟨⟨rfl, rfl⟩, rfl, rfl⟩ := e
      refine .inr ⟨b, o + k * 2, cap - k, by simp, by simp; omega, by omega, g3, fun i hi => ?_⟩
      simp only [List.length_drop] at hi
      have := g4 (k + i) (by omega)
      rw [show o + (k + i) * 2 = o + k * 2 + i * 2 by omega] at this
      simpa using this
  · simp only [List.length_drop] at h3 h4
    simp only [List.getElem_drop]
    exact h2.2 (k + i) (by omega) (by omega)
theorem EntsIs.tail {w : World} {b o n cap : Nat} {x : Ent} {l : List Ent} (h : EntsIs w (.slice (some ⟨b, o, none⟩) n cap) (x :: l)) : EntsIs w (.slice (some ⟨b, o + 2, none⟩) l.length (cap - 1)) l := by
  have hn : n = l.length + 1 := by obtain ⟨_, _, e⟩ := h.form; simp only [Value.slice.injEq] at e; exact e.2.1
  have := h.drop 1 (by simp)
  simpa [hn] using this
theorem EntsIs.cap {w : World} {b o n cap : Nat} {x : Ent} {l : List Ent} (h : EntsIs w (.slice (some ⟨b, o, none⟩) n cap) (x :: l)) : l.length + 1 ≤ cap ∧ cap ≤ maxLen := by
  obtain ⟨vs, h1, h2⟩ := h
  rcases h1 with ⟨a, c, e, rfl⟩ | ⟨b', o', c, e, g1, g2, g3, g4⟩
  · have := h2.1; simp at this
  · simp only [Value.slice.injEq] at e
    obtain ⟨_, _, rfl⟩ := e
    have := h2.1
    simp at this
    exact ⟨by omega, g2⟩
theorem EntsIs.none {w : World} {a : Option Addr} {l : List Ent} {c : Nat} (h : l.length = 0) : EntsIs w (.slice a l.length c) l := by
  obtain rfl := List.eq_nil_of_length_eq_zero h
  exact EntsIs.nil _ _ _
def slLen : Value → Nat
  | .slice _ n _ => n
  | _ => 0
theorem wt_none {r : List Val} : ∀ {l : List Ent}, (∀ e ∈ l, e.1 ≠ r) → wt r l = 0
  | [], _ => rfl
  | e :: l, h => by simp only [wt]; rw [if_neg (h e (by simp)), wt_none (fun x hx => h x (by simp [hx]))]; rfl
/-- The error of an answer. -/
def ovE (a : Addr) (ok : Bool) : Value := if ok then .nilIface else errV a
theorem ovE_t (a : Addr) : ovE a true = .nilIface := rfl
theorem ovE_f (a : Addr) : ovE a false = errV a := rfl
end Go.Proofs.YtmpochhcokmaiaaDoor
