/- What the document's own Pick answers of rows in memory. -/
import Derived.Test.YtiphnbpkliglcaaDoorMakeRow
namespace Go.Proofs.YtiphnbpkliglcaaDoor
open Go.RowKit
set_option maxRecDepth 100000

/-- A slice that reads as these integers. -/
def IntsIs (w : World) (v : Value) (ks : List Int) : Prop :=
  (∃ a cap, v = .slice a 0 cap ∧ ks = []) ∨
  ∃ b o cap, v = .slice (some ⟨b, o, none⟩) ks.length cap ∧ ks.length ≤ cap ∧ cap ≤ maxLen ∧ b < w.heap.size ∧ ∀ i (h : i < ks.length), w.cell? ⟨b, o + i, none⟩ = some (.int .i64 ks[i])
theorem IntsIs.form {w : World} {v : Value} {l : List Int} (h : IntsIs w v l) : ∃ a cap, v = .slice a l.length cap := by
  rcases h with ⟨a, cap, rfl, rfl⟩ | ⟨b, o, cap, rfl, _⟩
  · exact ⟨a, cap, rfl⟩
  · exact ⟨_, cap, rfl⟩
theorem IntsIs.addr {w : World} {v : Value} {l : List Int} (h : IntsIs w v l) (hl : l ≠ []) : ∃ b o cap, v = .slice (some ⟨b, o, none⟩) l.length cap := by
  rcases h with ⟨_, _, _, e⟩ | ⟨b, o, cap, e, _⟩
  · exact absurd e hl
  · exact ⟨b, o, cap, e⟩
theorem IntsIs.le {w : World} {v : Value} {l : List Int} (h : IntsIs w v l) : l.length ≤ maxLen := by
  rcases h with ⟨_, _, _, rfl⟩ | ⟨b, o, cap, rfl, h1, h2, _⟩
  · exact Nat.zero_le _
  · omega
theorem IntsIs.on {w w' : World} {v : Value} {l : List Int} (h : IntsIs w v l) (hb : Below w.heap.size w w') : IntsIs w' v l := by
  rcases h with h | ⟨b, o, cap, rfl, h1, h2, h3, h4⟩
  · exact .inl h
  · exact .inr ⟨b, o, cap, rfl, h1, h2, Nat.lt_of_lt_of_le h3 hb.size, fun i hi => by rw [hb.cell (p := ⟨b, o + i, none⟩) h3]; exact h4 i hi⟩
theorem IntsIs.at {w : World} {b o n cap : Nat} {l : List Int} (h : IntsIs w (.slice (some ⟨b, o, none⟩) n cap) l) (i : Nat) (hi : i < l.length) : w.cell? ⟨b, o + i, none⟩ = some (.int .i64 l[i]) := by
  rcases h with ⟨_, _, _, rfl⟩ | ⟨b', o', cap', e, _, _, h3, h4⟩
  · simp at hi
  · simp only [Value.slice.injEq, Option.some.injEq, Addr.mk.injEq, and_true] at e
    obtain ⟨⟨rfl, rfl⟩, _⟩ := e
    exact h4 i hi
theorem IntsIs.of_row {w : World} {a : Option Addr} {len cap : Nat} {zs : List Int} (h : IsRow .i64 w a len cap zs) : IntsIs w (.slice a len cap) (zs.take len) := by
  rcases h with ⟨rfl, rfl, rfl, rfl⟩ | ⟨x, rfl, h1, h2, h3, h4, h5⟩
  · exact .inl ⟨none, 0, rfl, rfl⟩
  · by_cases e : len = 0
    · subst e; exact .inl ⟨_, _, rfl, by simp⟩
    · obtain ⟨b, o, spot⟩ := x
      have hspot : spot = none := by simpa [Addr.add] using World.cell?_spot (h4 0 (by omega))
      subst hspot
      have hl : (zs.take len).length = len := by simp; omega
      refine .inr ⟨b, o, cap, by rw [hl], by omega, h2, World.block_lt_of_cell? _ _ (h4 0 (by omega)), fun i hi => ?_⟩
      have := h4 i (by omega)
      rw [add_plain] at this
      rw [this]; simp only [hl] at hi
      simp [List.getD, show i < zs.length by omega]

/-- Is each a column? The columns that are picked. -/
def inR (l : List Val) (k : Int) : Bool := decide (0 ≤ k) && decide (k < (l.length : Int))
def allIn (l : List Val) (ks : List Int) : Bool := ks.all (inR l)
def atV (l : List Val) (k : Int) : Val := l.getD k.toNat (0, 0, ⟨#[]⟩)
def pk (l : List Val) (ks : List Int) : List Val := if allIn l ks then ks.map (atV l) else []
/-- How far a pick has come. -/
def PickTo (l : List Val) (ks : List Int) (w : World) (j : Nat) (v : Value) (wr : World) : Prop :=
  allIn l (ks.take j) = true ∧ wr.ownsRow w.heap.size 25 3 v j (rc ((ks.take j).map (atV l))) ∧ Below w.heap.size w wr
theorem allIn_snoc {l : List Val} {ks : List Int} {j : Nat} (h : j < ks.length) : allIn l (ks.take (j + 1)) = (allIn l (ks.take j) && inR l ks[j]) := by
  unfold allIn; rw [List.take_succ_eq_append_getElem h, List.all_append]; simp
theorem allIn_not {l : List Val} {ks : List Int} {j : Nat} (h : j < ks.length) (h' : inR l ks[j] = false) : allIn l ks = false := by
  unfold allIn; rw [List.all_eq_false]; exact ⟨ks[j], List.getElem_mem h, by simp [h']⟩
theorem map_snoc {l : List Val} {ks : List Int} {j : Nat} (h : j < ks.length) : (ks.take (j + 1)).map (atV l) = (ks.take j).map (atV l) ++ [atV l ks[j]] := by
  rw [List.take_succ_eq_append_getElem h, List.map_append]; rfl
theorem atV_eq {l : List Val} {k : Int} (h : k.toNat < l.length) : atV l k = l[k.toNat] := by simp [atV, List.getD, h]

end Go.Proofs.YtiphnbpkliglcaaDoor
