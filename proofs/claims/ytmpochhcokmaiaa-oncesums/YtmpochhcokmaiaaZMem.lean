/- Entries in memory: a slice of rows with their weights, and how they are kept. -/
import Derived.Test.YtmpochhcokmaiaaRowMem
import Derived.Test.YtmpochhcokmaiaaZPlain
namespace Go.Proofs.Ytmpochhcokmaiaa
open Go.RowKit
set_option maxRecDepth 100000

/-- An entry as it stands: the row's slice, the weight; entries' cells. -/
abbrev VEnt := Value × Int
def ec (e : VEnt) : List Value := [e.1, .int .i64 e.2]
def es (l : List VEnt) : List Value := l.flatMap ec
theorem es_cons (a : VEnt) (l : List VEnt) : es (a :: l) = ec a ++ es l := rfl
theorem es_len (l : List VEnt) : (es l).length = l.length * 2 := by
  induction l with
  | nil => rfl
  | cons a l ih => rw [es_cons, List.length_append, ih, List.length_cons]; simp [ec]; omega
theorem es_snoc (l : List VEnt) (v : VEnt) : es (l ++ [v]) = es l ++ ec v := by simp [es]
theorem es_at : ∀ (l : List VEnt) (i : Nat) (h : i < l.length), (es l)[i * 2]? = some l[i].1 ∧ (es l)[i * 2 + 1]? = some (.int .i64 l[i].2)
  | a :: l, 0, _ => ⟨rfl, rfl⟩
  | a :: l, i + 1, h => by
    have ih := es_at l i (by simpa using h)
    have hv : (ec a).length = 2 := rfl
    rw [es_cons, List.getElem?_append_right (by omega), List.getElem?_append_right (by omega), hv]
    rw [show (i + 1) * 2 - 2 = i * 2 by omega, show (i + 1) * 2 + 1 - 2 = i * 2 + 1 by omega]
    simpa using ih
/-- Entries as they stand read as these. -/
def Reads (w : World) (vs : List VEnt) (l : List Ent) : Prop := vs.length = l.length ∧ ∀ i (h : i < vs.length) (h' : i < l.length), RowIs w vs[i].1 l[i].1 ∧ vs[i].2 = l[i].2
theorem Reads.nil (w : World) : Reads w [] [] := ⟨rfl, fun i h => by simp at h⟩
theorem Reads.on {w w' : World} {vs : List VEnt} {l : List Ent} (h : Reads w vs l) (hb : Below w.heap.size w w') : Reads w' vs l := ⟨h.1, fun i h1 h2 => ⟨(h.2 i h1 h2).1.on hb, (h.2 i h1 h2).2⟩⟩
theorem Reads.snoc {w : World} {vs : List VEnt} {l : List Ent} (h : Reads w vs l) {v : Value} {r : List Val} (hv : RowIs w v r) (n : Int) : Reads w (vs ++ [(v, n)]) (l ++ [(r, n)]) := by
  refine ⟨by simp [h.1], fun i h1 h2 => ?_⟩
  by_cases hi : i < vs.length
  · have hi' : i < l.length := by rw [← h.1]; exact hi
    rw [List.getElem_append_left hi, List.getElem_append_left hi']; exact h.2 i hi hi'
  · have e : i = vs.length := by simp at h1; omega
    subst e
    have e2 := h.1
    rw [List.getElem_append_right (Nat.le_refl _), List.getElem_append_right (by omega)]
    simp [← e2]; exact hv
theorem Reads.take {w : World} {vs : List VEnt} {l : List Ent} (h : Reads w vs l) (k : Nat) : Reads w (vs.take k) (l.take k) := by
  refine ⟨by simp [h.1], fun i h1 h2 => ?_⟩
  simp only [List.length_take] at h1 h2
  simp only [List.getElem_take]
  exact h.2 i (by omega) (by omega)
theorem Reads.append {w : World} {vs us : List VEnt} {l m : List Ent} (h : Reads w vs l) (k : Reads w us m) : Reads w (vs ++ us) (l ++ m) := by
  refine ⟨by simp [h.1, k.1], fun i h1 h2 => ?_⟩
  by_cases hi : i < vs.length
  · have hi' : i < l.length := by rw [← h.1]; exact hi
    rw [List.getElem_append_left hi, List.getElem_append_left hi']; exact h.2 i hi hi'
  · have hi' : l.length ≤ i := by rw [← h.1]; omega
    rw [List.getElem_append_right (by omega), List.getElem_append_right hi']
    have e : i - vs.length = i - l.length := by rw [h.1]
    simp only [e]
    exact k.2 _ _ _
/-- A slice whose cells are these entries as they stand. -/
def EntsAt (w : World) (v : Value) (vs : List VEnt) : Prop :=
  (∃ a cap, v = .slice a 0 cap ∧ vs = []) ∨
  ∃ b o cap, v = .slice (some ⟨b, o, none⟩) vs.length cap ∧ vs.length ≤ cap ∧ cap ≤ maxLen ∧ b < w.heap.size ∧
    ∀ i (h : i < vs.length), w.cell? ⟨b, o + i * 2, none⟩ = some vs[i].1 ∧ w.cell? ⟨b, o + i * 2 + 1, none⟩ = some (.int .i64 vs[i].2)
theorem EntsAt.form {w : World} {v : Value} {l : List VEnt} (h : EntsAt w v l) : ∃ a cap, v = .slice a l.length cap := by
  rcases h with ⟨a, cap, rfl, rfl⟩ | ⟨b, o, cap, rfl, _⟩
  · exact ⟨a, cap, rfl⟩
  · exact ⟨_, cap, rfl⟩
theorem EntsAt.le {w : World} {v : Value} {l : List VEnt} (h : EntsAt w v l) : l.length ≤ maxLen := by
  rcases h with ⟨_, _, _, rfl⟩ | ⟨b, o, cap, rfl, h1, h2, _⟩
  · exact Nat.zero_le _
  · omega
theorem EntsAt.on {w w' : World} {v : Value} {l : List VEnt} (h : EntsAt w v l) (hb : Below w.heap.size w w') : EntsAt w' v l := by
  rcases h with h | ⟨b, o, cap, rfl, h1, h2, h3, h4⟩
  · exact .inl h
  · refine .inr ⟨b, o, cap, rfl, h1, h2, Nat.lt_of_lt_of_le h3 hb.size, fun i hi => ?_⟩
    rw [hb.cell (p := ⟨b, o + i * 2, none⟩) h3, hb.cell (p := ⟨b, o + i * 2 + 1, none⟩) h3]
    exact h4 i hi
theorem EntsAt.at {w : World} {a : Option Addr} {n cap : Nat} {l : List VEnt} (h : EntsAt w (.slice a n cap) l) (i : Nat) (hi : i < l.length) :
    ∃ b o, a = some ⟨b, o, none⟩ ∧ w.cell? ⟨b, o + i * 2, none⟩ = some l[i].1 ∧ w.cell? ⟨b, o + i * 2 + 1, none⟩ = some (.int .i64 l[i].2) ∧ b < w.heap.size := by
  rcases h with ⟨_, _, _, rfl⟩ | ⟨b, o, cap', e, _, _, h3, h4⟩
  · simp at hi
  · simp only [Value.slice.injEq] at e
    exact ⟨b, o, e.1, (h4 i hi).1, (h4 i hi).2, h3⟩
theorem EntsAt.of_own {w : World} {base : Nat} {v : Value} {l : List VEnt} (h : w.ownsRow base 36 2 v l.length (es l)) : EntsAt w v l := by
  have hlt := h.lt
  obtain ⟨h1, h2 | ⟨g, cap, cur, rfl, hg, hh, hc, hm, hs, ht⟩⟩ := h
  · exact .inl ⟨none, 0, h2.1, List.eq_nil_of_length_eq_zero h2.2⟩
  · have own : w.ownsRow base 36 2 (.slice (some ⟨g, 0, none⟩) l.length cap) l.length (es l) := ⟨h1, .inr ⟨g, cap, cur, rfl, hg, hh, hc, hm, hs, ht⟩⟩
    refine .inr ⟨g, 0, cap, rfl, hc, hm, (hlt g rfl).2, fun i hi => ?_⟩
    rw [Nat.zero_add, own.cellAt (i * 2) (by omega), own.cellAt (i * 2 + 1) (by omega)]
    exact es_at l i hi
/-- A slice that reads as these entries. -/
def EntsIs (w : World) (v : Value) (l : List Ent) : Prop := ∃ vs, EntsAt w v vs ∧ Reads w vs l
theorem EntsIs.on {w w' : World} {v : Value} {l : List Ent} (h : EntsIs w v l) (hb : Below w.heap.size w w') : EntsIs w' v l := by
  obtain ⟨vs, h1, h2⟩ := h; exact ⟨vs, h1.on hb, h2.on hb⟩
theorem EntsIs.form {w : World} {v : Value} {l : List Ent} (h : EntsIs w v l) : ∃ a cap, v = .slice a l.length cap := by
  obtain ⟨vs, h1, h2⟩ := h; rw [← h2.1]; exact h1.form
theorem EntsIs.le {w : World} {v : Value} {l : List Ent} (h : EntsIs w v l) : l.length ≤ maxLen := by
  obtain ⟨vs, h1, h2⟩ := h; rw [← h2.1]; exact h1.le
theorem EntsIs.nil (w : World) (a : Option Addr) (cap : Nat) : EntsIs w (.slice a 0 cap) [] := ⟨[], .inl ⟨a, cap, rfl, rfl⟩, Reads.nil w⟩
/-- An entry of it, its row written out. -/
theorem EntsIs.at {w : World} {a : Option Addr} {n cap : Nat} {l : List Ent} (h : EntsIs w (.slice a n cap) l) (i : Nat) (hi : i < l.length) :
    ∃ b o a' cap', a = some ⟨b, o, none⟩ ∧ w.cell? ⟨b, o + i * 2, none⟩ = some (.slice a' l[i].1.length cap') ∧ w.cell? ⟨b, o + i * 2 + 1, none⟩ = some (.int .i64 l[i].2) ∧ RowIs w (.slice a' l[i].1.length cap') l[i].1 := by
  obtain ⟨vs, h1, h2⟩ := h
  have hi' : i < vs.length := by rw [h2.1]; exact hi
  obtain ⟨b, o, e, c1, c2, _⟩ := h1.at i hi'
  obtain ⟨r1, r2⟩ := h2.2 i hi' hi
  obtain ⟨a', cap', e'⟩ := r1.form
  rw [e'] at c1 r1
  rw [r2] at c2
  exact ⟨b, o, a', cap', e, c1, c2, r1⟩
/-- A slice of entries whose rows are read in a world of their own. -/
def EntsR (w w0 : World) (v : Value) (l : List Ent) : Prop := ∃ vs, EntsAt w v vs ∧ Reads w0 vs l
theorem EntsR.form {w w0 : World} {v : Value} {l : List Ent} (h : EntsR w w0 v l) : ∃ a cap, v = .slice a l.length cap := by
  obtain ⟨vs, h1, h2⟩ := h; rw [← h2.1]; exact h1.form
theorem EntsR.at {w w0 : World} {a : Option Addr} {n cap : Nat} {l : List Ent} (h : EntsR w w0 (.slice a n cap) l) (i : Nat) (hi : i < l.length) :
    ∃ b o a' cap', a = some ⟨b, o, none⟩ ∧ w.cell? ⟨b, o + i * 2, none⟩ = some (.slice a' l[i].1.length cap') ∧ w.cell? ⟨b, o + i * 2 + 1, none⟩ = some (.int .i64 l[i].2) ∧ RowIs w0 (.slice a' l[i].1.length cap') l[i].1 := by
  obtain ⟨vs, h1, h2⟩ := h
  have hi' : i < vs.length := by rw [h2.1]; exact hi
  obtain ⟨b, o, e, c1, c2, _⟩ := h1.at i hi'
  obtain ⟨r1, r2⟩ := h2.2 i hi' hi
  obtain ⟨a', cap', e'⟩ := r1.form
  rw [e'] at c1 r1
  rw [r2] at c2
  exact ⟨b, o, a', cap', e, c1, c2, r1⟩
theorem below_two {w : World} {x y : Obj} : Below w.heap.size w ((w.alloc x).alloc y) := ((Below.refl _ _).alloc (Nat.le_refl _) _).alloc (by simp) _
theorem info_entry : (Try.prog.info? 36).map (fun i => (i.zero, i.size, i.bytes)) = some (some (.agg #[.slice none 0 0, .int .i64 0]), 2, 32) := by kernel_rfl
theorem cell_two_new (w : World) (x y : Value) (t : TypeId) : ∀ j u, [x, y][j]? = some u → (w.alloc (.cells #[x, y] t)).cell? ((⟨w.heap.size, 0, none⟩ : Addr).add j) = some u := by
  intro j u h
  rw [add_plain, World.cell?_alloc_at _ _ _ _ rfl]
  simpa using h
end Go.Proofs.Ytmpochhcokmaiaa
