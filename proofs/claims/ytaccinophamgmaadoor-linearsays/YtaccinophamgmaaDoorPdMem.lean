/- Predicates in memory: eight cells each, their parts a slice of such; how they are kept. -/
import Derived.Test.YtaccinophamgmaaDoorPackPlain
import Derived.Test.YtaccinophamgmaaDoorRowMem
import Derived.Test.YtaccinophamgmaaDoorPackRow
namespace Go.Proofs.YtaccinophamgmaaDoor
open Go.RowKit
set_option maxRecDepth 100000
set_option linter.unusedVariables false

/-- A predicate's eight cells, the slice of its parts the last; the predicate as a value. -/
def hc (p : Pd) (s : Value) : List Value := [.int .i64 p.k, .int .i64 p.c, .int .i64 p.o, .int .i64 p.d, .int .i64 p.v.1, .int .i64 p.v.2.1, .string p.v.2.2, s]
def pv (p : Pd) (s : Value) : Value := .agg #[.int .i64 p.k, .int .i64 p.c, .int .i64 p.o, .int .i64 p.d, .int .i64 p.v.1, .int .i64 p.v.2.1, .string p.v.2.2, s]
def PdAt (w : World) (b o : Nat) (p : Pd) (s : Value) : Prop :=
  w.cell? ⟨b, o, none⟩ = some (.int .i64 p.k) ∧ w.cell? ⟨b, o + 1, none⟩ = some (.int .i64 p.c) ∧ w.cell? ⟨b, o + 2, none⟩ = some (.int .i64 p.o) ∧ w.cell? ⟨b, o + 3, none⟩ = some (.int .i64 p.d) ∧
  w.cell? ⟨b, o + 4, none⟩ = some (.int .i64 p.v.1) ∧ w.cell? ⟨b, o + 5, none⟩ = some (.int .i64 p.v.2.1) ∧ w.cell? ⟨b, o + 6, none⟩ = some (.string p.v.2.2) ∧ w.cell? ⟨b, o + 7, none⟩ = some s
theorem PdAt.kept {w w' : World} {b o : Nat} {p : Pd} {s : Value} (h : PdAt w b o p s) (hk : w'.heap[b]? = w.heap[b]?) : PdAt w' b o p s := by
  have e : ∀ q, w'.cell? ⟨b, q, none⟩ = w.cell? ⟨b, q, none⟩ := fun q => World.cell?_of_block (w := w) hk
  unfold PdAt
  simp only [e]
  exact h
/-- A slice that reads as these predicates, no deeper than n; its blocks are F's. -/
def PdL (F : Nat → Prop) : Nat → World → Value → List Pd → Prop
  | 0, _, v, l => (∃ a cap, v = .slice a 0 cap) ∧ l = []
  | n + 1, w, v, l => (∃ a cap, v = .slice a 0 cap ∧ l = []) ∨ ∃ b o cap, v = .slice (some ⟨b, o, none⟩) l.length cap ∧ l.length ≤ cap ∧ cap ≤ maxLen ∧ b < w.heap.size ∧ F b ∧
      ∀ i (h : i < l.length), ∃ s, PdAt w b (o + i * 8) l[i] s ∧ PdL F n w s l[i].l
theorem PdL.nil (F : Nat → Prop) (n : Nat) (w : World) (a : Option Addr) (cap : Nat) : PdL F n w (.slice a 0 cap) [] := by
  cases n with
  | zero => exact ⟨⟨a, cap, rfl⟩, rfl⟩
  | succ n => exact .inl ⟨a, cap, rfl, rfl⟩
theorem PdL.form {F : Nat → Prop} {n : Nat} {w : World} {v : Value} {l : List Pd} (h : PdL F n w v l) : ∃ a cap, v = .slice a l.length cap := by
  cases n with
  | zero => obtain ⟨⟨a, cap, rfl⟩, rfl⟩ := h; exact ⟨a, cap, rfl⟩
  | succ n =>
    rcases h with ⟨a, cap, rfl, rfl⟩ | ⟨b, o, cap, rfl, _⟩
    · exact ⟨a, cap, rfl⟩
    · exact ⟨_, cap, rfl⟩
theorem PdL.le {F : Nat → Prop} {n : Nat} {w : World} {v : Value} {l : List Pd} (h : PdL F n w v l) : l.length ≤ maxLen := by
  cases n with
  | zero => obtain ⟨_, rfl⟩ := h; exact Nat.zero_le _
  | succ n =>
    rcases h with ⟨a, cap, rfl, rfl⟩ | ⟨b, o, cap, rfl, h1, h2, _⟩
    · exact Nat.zero_le _
    · omega
theorem PdL.kept {F : Nat → Prop} {w w' : World} (hz : w.heap.size ≤ w'.heap.size) (hk : ∀ b, F b → b < w.heap.size → w'.heap[b]? = w.heap[b]?) : ∀ {n : Nat} {v : Value} {l : List Pd}, PdL F n w v l → PdL F n w' v l := by
  intro n
  induction n with
  | zero => intro v l h; exact h
  | succ n ih =>
    intro v l h
    rcases h with h | ⟨b, o, cap, rfl, h1, h2, h3, h4, h5⟩
    · exact .inl h
    · refine .inr ⟨b, o, cap, rfl, h1, h2, Nat.lt_of_lt_of_le h3 hz, h4, fun i hi => ?_⟩
      obtain ⟨s, g1, g2⟩ := h5 i hi
      exact ⟨s, g1.kept (hk b h4 h3), ih g2⟩
theorem PdL.mono {F F' : Nat → Prop} {w : World} (hk : ∀ b, F b → b < w.heap.size → F' b) : ∀ {n : Nat} {v : Value} {l : List Pd}, PdL F n w v l → PdL F' n w v l := by
  intro n
  induction n with
  | zero => intro v l h; exact h
  | succ n ih =>
    intro v l h
    rcases h with h | ⟨b, o, cap, rfl, h1, h2, h3, h4, h5⟩
    · exact .inl h
    · refine .inr ⟨b, o, cap, rfl, h1, h2, h3, hk b h4 h3, fun i hi => ?_⟩
      obtain ⟨s, g1, g2⟩ := h5 i hi
      exact ⟨s, g1, ih g2⟩
theorem PdL.up {F : Nat → Prop} {w : World} : ∀ {n : Nat} {v : Value} {l : List Pd}, PdL F n w v l → PdL F (n + 1) w v l := by
  intro n
  induction n with
  | zero => intro v l h; obtain ⟨⟨a, cap, rfl⟩, rfl⟩ := h; exact .inl ⟨a, cap, rfl, rfl⟩
  | succ n ih =>
    intro v l h
    rcases h with h | ⟨b, o, cap, rfl, h1, h2, h3, h4, h5⟩
    · exact .inl h
    · refine .inr ⟨b, o, cap, rfl, h1, h2, h3, h4, fun i hi => ?_⟩
      obtain ⟨s, g1, g2⟩ := h5 i hi
      exact ⟨s, g1, ih g2⟩
theorem PdL.on {F : Nat → Prop} {n : Nat} {w w' : World} {v : Value} {l : List Pd} (h : PdL F n w v l) (hb : Below w.heap.size w w') : PdL F n w' v l := h.kept hb.size (fun b _ h2 => hb.block b h2)
theorem PdL.but {F : Nat → Prop} {S n : Nat} {w w' : World} {v : Value} {l : List Pd} (h : PdL F n w v l) (hb : But S w w') (hS : ¬ F S) : PdL F n w' v l := h.kept hb.size (fun b h1 h2 => hb.2.2.2.2 b (fun e => hS (e ▸ h1)) h2)
theorem PdL.grown {F : Nat → Prop} {n : Nat} {w w' : World} {row : Option Nat} {v : Value} {l : List Pd} (h : PdL F n w v l) (hg : w.grownBy w' row) (hr : ∀ k, row = some k → ¬ F k) : PdL F n w' v l := h.kept hg.size (fun b h1 h2 => hg.block b h2 (fun e => hr b e.symm h1))
theorem PdL.any {F : Nat → Prop} {n : Nat} {w : World} {v : Value} {l : List Pd} (h : PdL F n w v l) : PdL (fun _ => True) n w v l := h.mono (fun _ _ _ => trivial)
theorem PdL.at {F : Nat → Prop} {n : Nat} {w : World} {a : Option Addr} {k cap : Nat} {l : List Pd} (h : PdL F n w (.slice a k cap) l) (i : Nat) (hi : i < l.length) :
    ∃ m b o s, n = m + 1 ∧ a = some ⟨b, o, none⟩ ∧ PdAt w b (o + i * 8) l[i] s ∧ PdL F m w s l[i].l ∧ b < w.heap.size := by
  cases n with
  | zero => obtain ⟨_, rfl⟩ := h; simp at hi
  | succ n =>
    rcases h with ⟨_, _, _, rfl⟩ | ⟨b, o, cap', e, _, _, h3, h4, h5⟩
    · simp at hi
    · simp only [Value.slice.injEq] at e
      obtain ⟨s, g1, g2⟩ := h5 i hi
      exact ⟨n, b, o, s, rfl, e.1, g1, g2, h3⟩
/-- A column in memory. -/
theorem hc_len (p : Pd) (s : Value) : (hc p s).length = 8 := rfl
/-- Predicates' cells, one behind the other. -/
abbrev PEnt := Pd × Value
def pcs (ps : List PEnt) : List Value := ps.flatMap fun e => hc e.1 e.2
theorem pcs_len (ps : List PEnt) : (pcs ps).length = ps.length * 8 := by
  induction ps with
  | nil => rfl
  | cons e ps ih =>
    have h : pcs (e :: ps) = hc e.1 e.2 ++ pcs ps := rfl
    rw [h, List.length_append, ih, hc_len, List.length_cons]; omega
theorem pcs_snoc (ps : List PEnt) (e : PEnt) : pcs (ps ++ [e]) = pcs ps ++ hc e.1 e.2 := by simp [pcs]
theorem pcs_at : ∀ (ps : List PEnt) (i : Nat) (h : i < ps.length) (j : Nat) (hj : j < 8), (pcs ps)[i * 8 + j]? = (hc ps[i].1 ps[i].2)[j]?
  | e :: ps, 0, _, j, hj => by
    have h : pcs (e :: ps) = hc e.1 e.2 ++ pcs ps := rfl
    rw [h, Nat.zero_mul, Nat.zero_add, List.getElem?_append_left (by rw [hc_len]; exact hj)]; rfl
  | e :: ps, i + 1, hi, j, hj => by
    have h : pcs (e :: ps) = hc e.1 e.2 ++ pcs ps := rfl
    have ih := pcs_at ps i (by simpa using hi) j hj
    rw [h, List.getElem?_append_right (by rw [hc_len]; omega), hc_len, show (i + 1) * 8 + j - 8 = i * 8 + j by omega, ih]
    simp
/-- A list of predicates in memory of the call's own. -/
theorem PdL.of_own {F : Nat → Prop} {n : Nat} {w : World} {base : Nat} {v : Value} {ps : List PEnt} (h : w.ownsRow base 33 8 v ps.length (pcs ps)) (hF : ∀ k, v.ownBlock = some k → F k) (hp : ∀ e ∈ ps, PdL F n w e.2 e.1.l) : PdL F (n + 1) w v (ps.map (·.1)) := by
  have hlt := h.lt
  obtain ⟨h1, h2 | ⟨g, cap, cur, rfl, hg, hh, hc, hm, hs, ht⟩⟩ := h
  · refine .inl ⟨none, 0, h2.1, ?_⟩
    have e : ps = [] := List.eq_nil_of_length_eq_zero h2.2
    rw [e]; rfl
  · have own : w.ownsRow base 33 8 (.slice (some ⟨g, 0, none⟩) ps.length cap) ps.length (pcs ps) := ⟨h1, .inr ⟨g, cap, cur, rfl, hg, hh, hc, hm, hs, ht⟩⟩
    refine .inr ⟨g, 0, cap, by rw [List.length_map], by rw [List.length_map]; exact hc, hm, (hlt g rfl).2, hF g rfl, fun i hi => ?_⟩
    rw [List.length_map] at hi
    have ha : ∀ j, j < 8 → w.cell? ⟨g, 0 + i * 8 + j, none⟩ = (Go.Proofs.YtaccinophamgmaaDoor.hc ps[i].1 ps[i].2)[j]? := fun j hj => by
      rw [Nat.zero_add, own.cellAt (i * 8 + j) (by omega), pcs_at ps i hi j hj]
    refine ⟨ps[i].2, ?_, ?_⟩
    · rw [List.getElem_map]
      exact ⟨ha 0 (by omega), ha 1 (by omega), ha 2 (by omega), ha 3 (by omega), ha 4 (by omega), ha 5 (by omega), ha 6 (by omega), ha 7 (by omega)⟩
    · rw [List.getElem_map]; exact hp _ (List.getElem_mem hi)
theorem info_pred : (Tryd.prog.info? 33).map (fun i => (i.zero, i.size, i.bytes)) = some (some (.agg #[.int .i64 0, .int .i64 0, .int .i64 0, .int .i64 0, .int .i64 0, .int .i64 0, .string ⟨#[]⟩, .slice none 0 0]), 8, 88) := by kernel_rfl
theorem cell_new_of (w : World) (xs : Array Value) (t : TypeId) : ∀ j u, xs.toList[j]? = some u → (w.alloc (.cells xs t)).cell? ((⟨w.heap.size, 0, none⟩ : Addr).add j) = some u := by
  intro j u h
  rw [add_plain, World.cell?_alloc_at _ _ _ _ rfl]
  simpa using h
/-- A predicate in a box of its own. -/
theorem PdAt.box (w : World) (p : Pd) (s : Value) (t : TypeId) : PdAt (w.alloc (.cells (hc p s).toArray t)) w.heap.size 0 p s := by
  refine ⟨?_, ?_, ?_, ?_, ?_, ?_, ?_, ?_⟩ <;> (rw [World.cell?_alloc_at _ _ _ _ rfl]; rfl)
end Go.Proofs.YtaccinophamgmaaDoor
