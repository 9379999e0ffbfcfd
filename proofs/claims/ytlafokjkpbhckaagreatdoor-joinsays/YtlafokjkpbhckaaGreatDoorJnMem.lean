/- Pairs of columns in memory. -/
import Derived.Test.YtlafokjkpbhckaaGreatDoorPackPlain
import Derived.Test.YtlafokjkpbhckaaGreatDoorRowMem
namespace Go.Proofs.YtlafokjkpbhckaaGreatDoor
open Go.RowKit
set_option maxRecDepth 100000
set_option linter.unusedVariables false

/-- A slice that reads as these pairs. -/
def PairsIs (w : World) (v : Value) (l : List (Int × Int)) : Prop :=
  (∃ a cap, v = .slice a 0 cap ∧ l = []) ∨
  ∃ b o cap, v = .slice (some ⟨b, o, none⟩) l.length cap ∧ l.length ≤ cap ∧ cap ≤ maxLen ∧ b < w.heap.size ∧
    ∀ i (h : i < l.length), w.cell? ⟨b, o + i * 2, none⟩ = some (.int .i64 l[i].1) ∧ w.cell? ⟨b, o + i * 2 + 1, none⟩ = some (.int .i64 l[i].2)
theorem PairsIs.form {w : World} {v : Value} {l : List (Int × Int)} (h : PairsIs w v l) : ∃ a cap, v = .slice a l.length cap := by
  rcases h with ⟨a, cap, rfl, rfl⟩ | ⟨b, o, cap, rfl, _⟩
  · exact ⟨a, cap, rfl⟩
  · exact ⟨_, cap, rfl⟩
theorem PairsIs.on {w w' : World} {v : Value} {l : List (Int × Int)} (h : PairsIs w v l) (hb : Below w.heap.size w w') : PairsIs w' v l := by
  rcases h with h | ⟨b, o, cap, rfl, h1, h2, h3, h4⟩
  · exact .inl h
  · refine .inr ⟨b, o, cap, rfl, h1, h2, Nat.lt_of_lt_of_le h3 hb.size, fun i hi => ?_⟩
    rw [hb.cell (p := ⟨b, o + i * 2, none⟩) h3, hb.cell (p := ⟨b, o + i * 2 + 1, none⟩) h3]
    exact h4 i hi
theorem PairsIs.but {S : Nat} {w w' : World} {v : Value} {l : List (Int × Int)} (h : PairsIs w v l) (hb : But S w w') (hn : v.ownBlock ≠ some S) : PairsIs w' v l := by
  rcases h with h | ⟨b, o, cap, rfl, h1, h2, h3, h4⟩
  · exact .inl h
  · have hne : b ≠ S := fun e => hn (by rw [e]; rfl)
    refine .inr ⟨b, o, cap, rfl, h1, h2, Nat.lt_of_lt_of_le h3 hb.size, fun i hi => ?_⟩
    rw [hb.cell (p := ⟨b, o + i * 2, none⟩) hne h3, hb.cell (p := ⟨b, o + i * 2 + 1, none⟩) hne h3]
    exact h4 i hi
theorem PairsIs.le {w : World} {v : Value} {l : List (Int × Int)} (h : PairsIs w v l) : l.length ≤ maxLen := by
  rcases h with ⟨_, _, _, rfl⟩ | ⟨b, o, cap, rfl, h1, h2, _⟩
  · exact Nat.zero_le _
  · omega
theorem PairsIs.at {w : World} {a : Option Addr} {n cap : Nat} {l : List (Int × Int)} (h : PairsIs w (.slice a n cap) l) (i : Nat) (hi : i < l.length) :
    ∃ b o, a = some ⟨b, o, none⟩ ∧ w.cell? ⟨b, o + i * 2, none⟩ = some (.int .i64 l[i].1) ∧ w.cell? ⟨b, o + i * 2 + 1, none⟩ = some (.int .i64 l[i].2) := by
  rcases h with ⟨_, _, _, rfl⟩ | ⟨b, o, cap', e, _, _, h3, h4⟩
  · simp at hi
  · simp only [Value.slice.injEq] at e
    exact ⟨b, o, e.1, (h4 i hi).1, (h4 i hi).2⟩
theorem PairsIs.nil (w : World) (a : Option Addr) (cap : Nat) : PairsIs w (.slice a 0 cap) [] := .inl ⟨a, cap, rfl, rfl⟩
theorem PairsIs.one (w : World) (x y : Int) (t : TypeId) : PairsIs (w.alloc (.cells #[.int .i64 x, .int .i64 y] t)) (.slice (some ⟨w.heap.size, 0, none⟩) 1 1) [(x, y)] := by
  refine .inr ⟨w.heap.size, 0, 1, rfl, Nat.le_refl _, by unfold maxLen; omega, by simp, fun i hi => ?_⟩
  obtain rfl : i = 0 := by simp at hi; exact hi
  exact ⟨by rw [World.cell?_alloc_at _ _ _ _ rfl]; rfl, by rw [World.cell?_alloc_at _ _ _ _ rfl]; rfl⟩
theorem PairsIs.two (w : World) (x y x' y' : Int) (t : TypeId) : PairsIs (w.alloc (.cells #[.int .i64 x, .int .i64 y, .int .i64 x', .int .i64 y'] t)) (.slice (some ⟨w.heap.size, 0, none⟩) 2 2) [(x, y), (x', y')] := by
  refine .inr ⟨w.heap.size, 0, 2, rfl, Nat.le_refl _, by unfold maxLen; omega, by simp, fun i hi => ?_⟩
  obtain rfl | rfl : i = 0 ∨ i = 1 := by simp at hi; omega
  · exact ⟨by rw [World.cell?_alloc_at _ _ _ _ rfl]; rfl, by rw [World.cell?_alloc_at _ _ _ _ rfl]; rfl⟩
  · exact ⟨by rw [World.cell?_alloc_at _ _ _ _ rfl]; rfl, by rw [World.cell?_alloc_at _ _ _ _ rfl]; rfl⟩
end Go.Proofs.YtlafokjkpbhckaaGreatDoor
