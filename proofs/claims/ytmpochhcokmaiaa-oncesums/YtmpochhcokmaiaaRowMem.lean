/- Rows in memory: a slice of values whose cells are known, and how they are kept. -/
import Derived.Test.YtmpochhcokmaiaaRowPlain
import Derived.Test.YtmpochhcokmaiaaSeq
import Derived.Laws.OwnMore
import Derived.OwnWalk
namespace Go.Proofs.Ytmpochhcokmaiaa
open Go.RowKit
set_option maxRecDepth 100000

/-- A value's three cells, a row's cells. -/
def vc (v : Val) : List Value := [.int .i64 v.1, .int .i64 v.2.1, .string v.2.2]
def rc (l : List Val) : List Value := l.flatMap vc
theorem rc_len (l : List Val) : (rc l).length = l.length * 3 := by
  induction l with
  | nil => rfl
  | cons a l ih =>
    have e : rc (a :: l) = vc a ++ rc l := rfl
    rw [e, List.length_append, ih, List.length_cons]; simp [vc]; omega
theorem rc_snoc (l : List Val) (v : Val) : rc (l ++ [v]) = rc l ++ vc v := by simp [rc]
theorem rc_at : ∀ (l : List Val) (i : Nat) (h : i < l.length), (rc l)[i * 3]? = some (.int .i64 l[i].1) ∧ (rc l)[i * 3 + 1]? = some (.int .i64 l[i].2.1) ∧ (rc l)[i * 3 + 2]? = some (.string l[i].2.2)
  | a :: l, 0, _ => ⟨rfl, rfl, rfl⟩
  | a :: l, i + 1, h => by
    have e : rc (a :: l) = vc a ++ rc l := rfl
    have ih := rc_at l i (by simpa using h)
    have hv : (vc a).length = 3 := rfl
    rw [e, List.getElem?_append_right (by omega), List.getElem?_append_right (by omega), List.getElem?_append_right (by omega), hv]
    rw [show (i + 1) * 3 - 3 = i * 3 by omega, show (i + 1) * 3 + 1 - 3 = i * 3 + 1 by omega, show (i + 1) * 3 + 2 - 3 = i * 3 + 2 by omega]
    simpa using ih

/-- A slice that reads as the row l: of no value, or its cells stand one behind the other. -/
def RowIs (w : World) (v : Value) (l : List Val) : Prop :=
  (∃ a cap, v = .slice a 0 cap ∧ l = []) ∨
  ∃ b o cap, v = .slice (some ⟨b, o, none⟩) l.length cap ∧ l.length ≤ cap ∧ cap ≤ maxLen ∧ b < w.heap.size ∧
    ∀ i (h : i < l.length), w.cell? ⟨b, o + i * 3, none⟩ = some (.int .i64 l[i].1) ∧ w.cell? ⟨b, o + i * 3 + 1, none⟩ = some (.int .i64 l[i].2.1) ∧ w.cell? ⟨b, o + i * 3 + 2, none⟩ = some (.string l[i].2.2)
theorem RowIs.form {w : World} {v : Value} {l : List Val} (h : RowIs w v l) : ∃ a cap, v = .slice a l.length cap := by
  rcases h with ⟨a, cap, rfl, rfl⟩ | ⟨b, o, cap, rfl, _⟩
  · exact ⟨a, cap, rfl⟩
  · exact ⟨_, cap, rfl⟩
theorem RowIs.on {w w' : World} {v : Value} {l : List Val} (h : RowIs w v l) (hb : Below w.heap.size w w') : RowIs w' v l := by
  rcases h with h | ⟨b, o, cap, rfl, h1, h2, h3, h4⟩
  · exact .inl h
  · refine .inr ⟨b, o, cap, rfl, h1, h2, Nat.lt_of_lt_of_le h3 hb.size, fun i hi => ?_⟩
    rw [hb.cell (p := ⟨b, o + i * 3, none⟩) h3, hb.cell (p := ⟨b, o + i * 3 + 1, none⟩) h3, hb.cell (p := ⟨b, o + i * 3 + 2, none⟩) h3]
    exact h4 i hi
theorem RowIs.but {S : Nat} {w w' : World} {v : Value} {l : List Val} (h : RowIs w v l) (hb : But S w w') (hn : v.ownBlock ≠ some S) : RowIs w' v l := by
  rcases h with h | ⟨b, o, cap, rfl, h1, h2, h3, h4⟩
  · exact .inl h
  · have hne : b ≠ S := fun e => hn (by rw [e]; rfl)
    refine .inr ⟨b, o, cap, rfl, h1, h2, Nat.lt_of_lt_of_le h3 hb.size, fun i hi => ?_⟩
    rw [hb.cell (p := ⟨b, o + i * 3, none⟩) hne h3, hb.cell (p := ⟨b, o + i * 3 + 1, none⟩) hne h3, hb.cell (p := ⟨b, o + i * 3 + 2, none⟩) hne h3]
    exact h4 i hi
theorem RowIs.of_own {w : World} {base : Nat} {v : Value} {l : List Val} (h : w.ownsRow base 39 3 v l.length (rc l)) : RowIs w v l := by
  have hlt := h.lt
  obtain ⟨h1, h2 | ⟨g, cap, cur, rfl, hg, hh, hc, hm, hs, ht⟩⟩ := h
  · refine .inl ⟨none, 0, h2.1, ?_⟩
    have := h2.2
    exact List.eq_nil_of_length_eq_zero this
  · have own : w.ownsRow base 39 3 (.slice (some ⟨g, 0, none⟩) l.length cap) l.length (rc l) := ⟨h1, .inr ⟨g, cap, cur, rfl, hg, hh, hc, hm, hs, ht⟩⟩
    refine .inr ⟨g, 0, cap, rfl, hc, hm, (hlt g rfl).2, fun i hi => ?_⟩
    rw [Nat.zero_add, own.cellAt (i * 3) (by omega), own.cellAt (i * 3 + 1) (by omega), own.cellAt (i * 3 + 2) (by omega)]
    exact rc_at l i hi
theorem RowIs.at {w : World} {a : Option Addr} {n cap : Nat} {l : List Val} (h : RowIs w (.slice a n cap) l) (i : Nat) (hi : i < l.length) :
    ∃ b o, a = some ⟨b, o, none⟩ ∧ w.cell? ⟨b, o + i * 3, none⟩ = some (.int .i64 l[i].1) ∧ w.cell? ⟨b, o + i * 3 + 1, none⟩ = some (.int .i64 l[i].2.1) ∧ w.cell? ⟨b, o + i * 3 + 2, none⟩ = some (.string l[i].2.2) ∧ b < w.heap.size := by
  rcases h with ⟨_, _, _, rfl⟩ | ⟨b, o, cap', e, _, _, h3, h4⟩
  · simp at hi
  · simp only [Value.slice.injEq] at e
    exact ⟨b, o, e.1, (h4 i hi).1, (h4 i hi).2.1, (h4 i hi).2.2, h3⟩
theorem RowIs.len {w : World} {a : Option Addr} {n cap : Nat} {l : List Val} (h : RowIs w (.slice a n cap) l) : n = l.length := by
  obtain ⟨_, _, e⟩ := h.form
  simp only [Value.slice.injEq] at e; exact e.2.1
theorem RowIs.at' {w : World} {b o n cap : Nat} {l : List Val} (h : RowIs w (.slice (some ⟨b, o, none⟩) n cap) l) (i : Nat) (hi : i < l.length) :
    w.cell? ⟨b, o + i * 3, none⟩ = some (.int .i64 l[i].1) ∧ w.cell? ⟨b, o + i * 3 + 1, none⟩ = some (.int .i64 l[i].2.1) ∧ w.cell? ⟨b, o + i * 3 + 2, none⟩ = some (.string l[i].2.2) := by
  obtain ⟨b', o', e, h1, h2, h3, _⟩ := h.at i hi
  simp only [Option.some.injEq, Addr.mk.injEq, and_true] at e
  obtain ⟨rfl, rfl⟩ := e
  exact ⟨h1, h2, h3⟩
theorem RowIs.addr {w : World} {v : Value} {l : List Val} (h : RowIs w v l) (hl : l ≠ []) : ∃ b o cap, v = .slice (some ⟨b, o, none⟩) l.length cap := by
  rcases h with ⟨_, _, _, e⟩ | ⟨b, o, cap, e, _⟩
  · exact absurd e hl
  · exact ⟨b, o, cap, e⟩
theorem RowIs.le {w : World} {v : Value} {l : List Val} (h : RowIs w v l) : l.length ≤ maxLen := by
  rcases h with ⟨_, _, _, rfl⟩ | ⟨b, o, cap, rfl, h1, h2, _⟩
  · exact Nat.zero_le _
  · omega
theorem RowIs.cut {w : World} {b o n cap : Nat} {l : List Val} (h : RowIs w (.slice (some ⟨b, o, none⟩) n cap) l) (k : Nat) (hk : k ≤ l.length) : RowIs w (.slice (some ⟨b, o, none⟩) k cap) (l.take k) := by
  by_cases h0 : k = 0
  · subst h0; exact .inl ⟨_, _, rfl, by simp⟩
  · rcases h with ⟨_, _, _, rfl⟩ | ⟨b', o', cap', e, h1, h2, h3, h4⟩
    · simp at hk; exact absurd hk h0
    · simp only [Value.slice.injEq, Option.some.injEq, Addr.mk.injEq, and_true] at e
      obtain ⟨⟨rfl, rfl⟩, _, rfl⟩ := e
      have hl : (l.take k).length = k := by rw [List.length_take]; omega
      refine .inr ⟨b, o, cap, by rw [hl], by omega, h2, h3, fun i hi => ?_⟩
      have := h4 i (by omega)
      simpa using this
theorem RowIs.cap {w : World} {b o n cap : Nat} {l : List Val} (h : RowIs w (.slice (some ⟨b, o, none⟩) n cap) l) (hl : l ≠ []) : l.length ≤ cap ∧ cap ≤ maxLen := by
  rcases h with ⟨_, _, _, rfl⟩ | ⟨b', o', cap', e, h1, h2, h3, h4⟩
  · exact absurd rfl hl
  · simp only [Value.slice.injEq] at e
    obtain ⟨_, _, rfl⟩ := e
    exact ⟨h1, h2⟩
end Go.Proofs.Ytmpochhcokmaiaa
