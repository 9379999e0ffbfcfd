/- Texts of one claim, one behind the other. -/
import Derived.Test.YtlafokjkpbhckaaGreatDoorPackSets
import Derived.Test.YtlafokjkpbhckaaGreatDoorOn
import Derived.Test.YtlafokjkpbhckaaGreatDoorPackJn
/- Worlds but for two blocks; a reading world: what is read in it, and where nothing is. -/
namespace Go.Proofs.YtlafokjkpbhckaaGreatDoor
open Go.RowKit Go.Sort
set_option maxRecDepth 100000

/-- But for two blocks the world is as it was. -/
def Off (a b : Nat) (w w' : World) : Prop :=
  w'.os = w.os ∧ w'.tape = w.tape ∧ w'.output = w.output ∧ w.heap.size ≤ w'.heap.size ∧ ∀ k, k ≠ a → k ≠ b → k < w.heap.size → w'.heap[k]? = w.heap[k]?
theorem Off.refl (a b : Nat) (w : World) : Off a b w w := ⟨rfl, rfl, rfl, Nat.le_refl _, fun _ _ _ _ => rfl⟩
theorem Off.trans {a b : Nat} {x y z : World} (h : Off a b x y) (k : Off a b y z) : Off a b x z :=
  ⟨k.1.trans h.1, k.2.1.trans h.2.1, k.2.2.1.trans h.2.2.1, Nat.le_trans h.2.2.2.1 k.2.2.2.1, fun i h1 h2 h3 => (k.2.2.2.2 i h1 h2 (Nat.lt_of_lt_of_le h3 h.2.2.2.1)).trans (h.2.2.2.2 i h1 h2 h3)⟩
theorem Off.size {a b : Nat} {w w' : World} (h : Off a b w w') : w.heap.size ≤ w'.heap.size := h.2.2.2.1
theorem Off.of_below {a b : Nat} {w w' : World} (h : Below w.heap.size w w') : Off a b w w' := ⟨h.os, h.tape, h.output, h.size, fun i _ _ h2 => h.block i h2⟩
theorem Off.of_l {a b : Nat} {w w' : World} (h : But a w w') : Off a b w w' := ⟨h.1, h.2.1, h.2.2.1, h.2.2.2.1, fun i h1 _ h2 => h.2.2.2.2 i h1 h2⟩
theorem Off.of_r {a b : Nat} {w w' : World} (h : But b w w') : Off a b w w' := ⟨h.1, h.2.1, h.2.2.1, h.2.2.2.1, fun i _ h1 h2 => h.2.2.2.2 i h1 h2⟩
theorem Off.below {a b B : Nat} {w w' : World} (h : Off a b w w') (ha : B ≤ a) (hb : B ≤ b) (hS : B ≤ w.heap.size) : Below B w w' := ⟨h.1, h.2.1, h.2.2.1, h.2.2.2.1, fun k hk => h.2.2.2.2 k (by omega) (by omega) (by omega)⟩
theorem Off.cell {a b : Nat} {w w' : World} (h : Off a b w w') {p : Addr} {v : Value} (hc : w.cell? p = some v) (h1 : p.block ≠ a) (h2 : p.block ≠ b) : w'.cell? p = some v := by
  rw [World.cell?_of_block (w := w) (h.2.2.2.2 p.block h1 h2 (World.block_lt_of_cell? _ _ hc))]; exact hc
theorem Off.own {a b base : Nat} {w w' : World} {e : TypeId} {s : Nat} {v : Value} {n : Nat} {xs : List Value} (h : Off a b w w') (ho : w.ownsRow base e s v n xs) (h1 : v.ownBlock ≠ some a) (h2 : v.ownBlock ≠ some b) : w'.ownsRow base e s v n xs := by
  refine ⟨ho.1, ?_⟩
  rcases ho.2 with hn | ⟨g, cap, cur, rfl, hb, hgg, rest⟩
  · exact .inl hn
  · refine .inr ⟨g, cap, cur, rfl, hb, ?_, rest⟩
    rw [h.2.2.2.2 g (fun e => h1 (by rw [e]; rfl)) (fun e => h2 (by rw [e]; rfl)) (Array.getElem?_eq_some_iff.1 hgg).1]
    exact hgg
theorem Off.own_lt {a b base : Nat} {w w' : World} {e : TypeId} {s : Nat} {v : Value} {n : Nat} {xs : List Value} (h : Off a b w w') (ho : w.ownsRow base e s v n xs) (h1 : a < base) (h2 : b < base) : w'.ownsRow base e s v n xs :=
  h.own ho (fun e => by have := (ho.lt a e).1; omega) (fun e => by have := (ho.lt b e).1; omega)
theorem Off.row {a b : Nat} {w w' : World} {v : Value} {l : List Val} (hb : Off a b w w') (h : RowIs w v l) (h1 : v.ownBlock ≠ some a) (h2 : v.ownBlock ≠ some b) : RowIs w' v l := by
  rcases h with h | ⟨g, o, cap, rfl, g1, g2, g3, g4⟩
  · exact .inl h
  · have n1 : g ≠ a := fun e => h1 (by rw [e]; rfl)
    have n2 : g ≠ b := fun e => h2 (by rw [e]; rfl)
    refine .inr ⟨g, o, cap, rfl, g1, g2, Nat.lt_of_lt_of_le g3 hb.size, fun i hi => ?_⟩
    obtain ⟨c1, c2, c3⟩ := g4 i hi
    exact ⟨hb.cell c1 n1 n2, hb.cell c2 n1 n2, hb.cell c3 n1 n2⟩
theorem Off.ents {a b : Nat} {w w' w0 : World} {v : Value} {l : List Ent} (hb : Off a b w w') (h : EntsR w w0 v l) (h1 : v.ownBlock ≠ some a) (h2 : v.ownBlock ≠ some b) : EntsR w' w0 v l := by
  obtain ⟨vs, h3, h4⟩ := h
  refine ⟨vs, ?_, h4⟩
  rcases h3 with h3 | ⟨g, o, cap, rfl, g1, g2, g3, g4⟩
  · exact .inl h3
  · have n1 : g ≠ a := fun e => h1 (by rw [e]; rfl)
    have n2 : g ≠ b := fun e => h2 (by rw [e]; rfl)
    refine .inr ⟨g, o, cap, rfl, g1, g2, Nat.lt_of_lt_of_le g3 hb.size, fun i hi => ?_⟩
    obtain ⟨c1, c2⟩ := g4 i hi
    exact ⟨hb.cell c1 n1 n2, hb.cell c2 n1 n2⟩
/-- What is read in one world is there in the other. -/
def Sees (R w : World) : Prop := R.heap.size ≤ w.heap.size ∧ ∀ p v, R.cell? p = some v → w.cell? p = some v
/-- Nothing is read in that block. -/
def Free (R : World) (k : Nat) : Prop := ∀ p v, R.cell? p = some v → p.block ≠ k
theorem Sees.refl (w : World) : Sees w w := ⟨Nat.le_refl _, fun _ _ h => h⟩
theorem Sees.trans {a b c : World} (h : Sees a b) (k : Sees b c) : Sees a c := ⟨Nat.le_trans h.1 k.1, fun p v hp => k.2 p v (h.2 p v hp)⟩
theorem Sees.on {R w w' : World} (h : Sees R w) (hB : Below w.heap.size w w') : Sees R w' := ⟨Nat.le_trans h.1 hB.size, fun p v hp => cell_on (h.2 p v hp) hB⟩
theorem Sees.of_below {w w' : World} (hB : Below w.heap.size w w') : Sees w w' := (Sees.refl w).on hB
theorem free_le {R : World} {k : Nat} (h : R.heap.size ≤ k) : Free R k := fun p v hp e => by have := World.block_lt_of_cell? _ _ hp; omega
theorem Sees.at {R w w' : World} (h : Sees R w) (hs : w.heap.size ≤ w'.heap.size) (hk : ∀ k, ¬ Free R k → k < w.heap.size → w'.heap[k]? = w.heap[k]?) : Sees R w' := by
  refine ⟨Nat.le_trans h.1 hs, fun p v hp => ?_⟩
  have h1 := h.2 p v hp
  rw [World.cell?_of_block (w := w) (hk p.block (fun hf => hf p v hp rfl) (World.block_lt_of_cell? _ _ h1))]
  exact h1
theorem Sees.set {R w : World} (h : Sees R w) {b o : Nat} (hf : Free R b) (u : Value) : Sees R (w.setCell ⟨b, o, none⟩ u) :=
  h.at (by simp [World.setCell]) (fun k hk _ => Below.heap_setCell _ _ _ _ (fun e => hk (e ▸ hf)))
theorem Sees.grown {R w w' : World} {g : Option Nat} (h : Sees R w) (hg : w.grownBy w' g) (hf : ∀ k, g = some k → Free R k) : Sees R w' :=
  h.at hg.size (fun k hk hl => hg.block k hl (fun e => hk (hf k e.symm)))
theorem Sees.off {R w w' : World} {a b : Nat} (h : Sees R w) (hO : Off a b w w') (ha : Free R a) (hb : Free R b) : Sees R w' :=
  h.at hO.size (fun k hk hl => hO.2.2.2.2 k (fun e => hk (e ▸ ha)) (fun e => hk (e ▸ hb)) hl)
theorem RowIs.sees {R w : World} {v : Value} {l : List Val} (h : RowIs R v l) (hs : Sees R w) : RowIs w v l := by
  rcases h with h | ⟨g, o, cap, rfl, g1, g2, g3, g4⟩
  · exact .inl h
  · exact .inr ⟨g, o, cap, rfl, g1, g2, Nat.lt_of_lt_of_le g3 hs.1, fun i hi => ⟨hs.2 _ _ (g4 i hi).1, hs.2 _ _ (g4 i hi).2.1, hs.2 _ _ (g4 i hi).2.2⟩⟩
theorem Reads.sees {R w : World} {vs : List VEnt} {l : List Ent} (h : Reads R vs l) (hs : Sees R w) : Reads w vs l := ⟨h.1, fun i h1 h2 => ⟨(h.2 i h1 h2).1.sees hs, (h.2 i h1 h2).2⟩⟩
theorem EntsAt.sees {R w : World} {v : Value} {l : List VEnt} (h : EntsAt R v l) (hs : Sees R w) : EntsAt w v l := by
  rcases h with h | ⟨b, o, cap, rfl, h1, h2, h3, h4⟩
  · exact .inl h
  · exact .inr ⟨b, o, cap, rfl, h1, h2, Nat.lt_of_lt_of_le h3 hs.1, fun i hi => ⟨hs.2 _ _ (h4 i hi).1, hs.2 _ _ (h4 i hi).2⟩⟩
theorem EntsIs.sees {R w : World} {v : Value} {l : List Ent} (h : EntsIs R v l) (hs : Sees R w) : EntsIs w v l := by
  obtain ⟨vs, h1, h2⟩ := h; exact ⟨vs, h1.sees hs, h2.sees hs⟩
end Go.Proofs.YtlafokjkpbhckaaGreatDoor
/- Join's lines in memory: a header, a list of three cells each; what they read reads as it did. -/
namespace Go.Proofs.YtlafokjkpbhckaaGreatDoor
open Go.RowKit Go.Sort
set_option maxRecDepth 100000
set_option linter.unusedVariables false

/-- A line's cells. -/
def lcs : Value → List Value
  | .agg ⟨[a, b, c]⟩ => [a, b, c]
  | _ => [.slice none 0 0, .int .i64 0, .slice none 0 0]
def ls (vs : List Value) : List Value := vs.flatMap lcs
theorem lcs_len (v : Value) : (lcs v).length = 3 := by unfold lcs; split <;> rfl
theorem ls_cons (v : Value) (vs : List Value) : ls (v :: vs) = lcs v ++ ls vs := rfl
theorem ls_snoc (vs : List Value) (v : Value) : ls (vs ++ [v]) = ls vs ++ lcs v := by simp [ls]
theorem ls_len (vs : List Value) : (ls vs).length = vs.length * 3 := by
  induction vs with
  | nil => rfl
  | cons a l ih => rw [ls_cons, List.length_append, ih, lcs_len, List.length_cons]; omega
theorem ls_at : ∀ (vs : List Value) (i : Nat) (h : i < vs.length) (a b c : Value), lcs vs[i] = [a, b, c] → (ls vs)[i * 3]? = some a ∧ (ls vs)[i * 3 + 1]? = some b ∧ (ls vs)[i * 3 + 2]? = some c
  | v :: vs, 0, _, a, b, c, e => by
    have e' : lcs v = [a, b, c] := e
    rw [ls_cons, e']; exact ⟨rfl, rfl, rfl⟩
  | v :: vs, i + 1, h, a, b, c, e => by
    have ih := ls_at vs i (by simpa using h) a b c e
    have hv := lcs_len v
    rw [ls_cons, List.getElem?_append_right (by omega), List.getElem?_append_right (by omega), List.getElem?_append_right (by omega), hv]
    rw [show (i + 1) * 3 - 3 = i * 3 by omega, show (i + 1) * 3 + 1 - 3 = i * 3 + 1 by omega, show (i + 1) * 3 + 2 - 3 = i * 3 + 2 by omega]
    exact ih
theorem ls_set : ∀ (vs : List Value) (i : Nat) (u a b c : Value), i < vs.length → lcs u = [a, b, c] → ls (vs.set i u) = (((ls vs).set (i * 3) a).set (i * 3 + 1) b).set (i * 3 + 2) c
  | v :: vs, 0, u, a, b, c, _, e => by
    obtain ⟨x, y, z, hv⟩ : ∃ x y z, lcs v = [x, y, z] := by
      have := lcs_len v
      match h : lcs v with
      | [x, y, z] => exact ⟨x, y, z, rfl⟩
      | [] => rw [h] at this; simp at this
      | [_] => rw [h] at this; simp at this
      | [_, _] => rw [h] at this; simp at this
      | _ :: _ :: _ :: _ :: _ => rw [h] at this; simp at this
    rw [List.set_cons_zero, ls_cons, ls_cons, e, hv]; rfl
  | v :: vs, i + 1, u, a, b, c, h, e => by
    have hv := lcs_len v
    have ih := ls_set vs i u a b c (by simpa using h) e
    have s : ∀ (m : List Value) (j : Nat) (u : Value), (lcs v ++ m).set (j + 3) u = lcs v ++ m.set j u := by
      intro m j u; rw [List.set_append, if_neg (by omega), hv, Nat.add_sub_cancel]
    rw [List.set_cons_succ, ls_cons, ls_cons, ih, show (i + 1) * 3 = i * 3 + 3 by omega, show i * 3 + 3 + 1 = (i * 3 + 1) + 3 by omega, show i * 3 + 3 + 2 = (i * 3 + 2) + 3 by omega, s, s, s]
theorem ls_take (vs : List Value) : ∀ k, ls (vs.take k) = (ls vs).take (k * 3) := by
  induction vs with
  | nil => intro k; simp [ls]
  | cons v vs ih =>
    intro k
    cases k with
    | zero => simp [ls]
    | succ k =>
      have h3 : (lcs v).take ((k + 1) * 3) = lcs v := List.take_of_length_le (by rw [lcs_len]; omega)
      rw [List.take_succ_cons, ls_cons, ls_cons, ih k, List.take_append, lcs_len, show (k + 1) * 3 - 3 = k * 3 by omega, h3]
/-- Lines: a header of one slice in a box of its own, a list of lines. -/
def LAt (hb ab cap : Nat) (vs : List Value) (w : World) : Prop :=
  w.heap[hb]? = some (.cells #[.slice (some ⟨ab, 0, none⟩) vs.length cap] 51 (0, 0)) ∧ w.ownsRow 0 57 3 (.slice (some ⟨ab, 0, none⟩) vs.length cap) vs.length (ls vs)
theorem LAt.block {hb ab cap : Nat} {vs : List Value} {w : World} (h : LAt hb ab cap vs w) : ∃ cur, w.heap[ab]? = some (.cells cur 57 (0, 0)) ∧ vs.length ≤ cap ∧ cap ≤ maxLen ∧ cur.size = cap * 3 ∧ cur.toList.take (vs.length * 3) = ls vs := by
  rcases h.2.2 with ⟨e, _⟩ | ⟨g, c, cur, e, _, h2, h3, h4, h5, h6⟩
  · cases e
  · simp only [Value.slice.injEq, Option.some.injEq, Addr.mk.injEq, and_true, true_and] at e
    obtain ⟨rfl, rfl⟩ := e
    exact ⟨cur, h2, h3, h4, h5, h6⟩
theorem LAt.ne {hb ab cap : Nat} {vs : List Value} {w : World} (h : LAt hb ab cap vs w) : hb ≠ ab := by
  obtain ⟨cur, h2, _⟩ := h.block
  intro e
  subst e
  have := h.1
  rw [h2] at this
  simp only [Option.some.injEq, Obj.cells.injEq] at this
  exact absurd this.2.1 (by decide)
theorem LAt.lt {hb ab cap : Nat} {vs : List Value} {w : World} (h : LAt hb ab cap vs w) : hb < w.heap.size ∧ ab < w.heap.size := by
  obtain ⟨cur, h2, _⟩ := h.block
  exact ⟨(Array.getElem?_eq_some_iff.1 h.1).1, (Array.getElem?_eq_some_iff.1 h2).1⟩
theorem LAt.cell {hb ab cap : Nat} {vs : List Value} {w : World} (h : LAt hb ab cap vs w) : w.cell? ⟨hb, 0, none⟩ = some (.slice (some ⟨ab, 0, none⟩) vs.length cap) := by
  simp [World.cell?, h.1]
theorem LAt.frozen {hb ab cap : Nat} {vs : List Value} {w : World} (h : LAt hb ab cap vs w) : w.frozen? ⟨hb, 0, none⟩ = false := by
  simp [World.frozen?, h.1]
theorem LAt.at {hb ab cap : Nat} {vs : List Value} {w : World} (h : LAt hb ab cap vs w) (i : Nat) (hi : i < vs.length) {a b c : Value} (e : lcs vs[i] = [a, b, c]) : w.cell? ⟨ab, i * 3, none⟩ = some a ∧ w.cell? ⟨ab, i * 3 + 1, none⟩ = some b ∧ w.cell? ⟨ab, i * 3 + 2, none⟩ = some c := by
  have := ls_at vs i hi a b c e
  rw [h.2.cellAt (i * 3) (by omega), h.2.cellAt (i * 3 + 1) (by omega), h.2.cellAt (i * 3 + 2) (by omega)]
  exact this
theorem LAt.fz {hb ab cap : Nat} {vs : List Value} {w : World} (h : LAt hb ab cap vs w) (i : Nat) : w.frozen? ⟨ab, i, none⟩ = false := h.2.frozenAt i
theorem LAt.on {hb ab cap : Nat} {vs : List Value} {w w' : World} (h : LAt hb ab cap vs w) (hB : Below w.heap.size w w') : LAt hb ab cap vs w' :=
  ⟨by rw [hB.block hb h.lt.1]; exact h.1, own_on h.2 hB⟩
/-- The world with a line put in its place. -/
def putL (w : World) (ab i : Nat) (a b c : Value) : World := ((w.setCell ⟨ab, i * 3, none⟩ a).setCell ⟨ab, i * 3 + 1, none⟩ b).setCell ⟨ab, i * 3 + 2, none⟩ c
theorem LAt.put {hb ab cap : Nat} {vs : List Value} {w : World} (h : LAt hb ab cap vs w) (i : Nat) (hi : i < vs.length) {u a b c : Value} (e : lcs u = [a, b, c]) : LAt hb ab cap (vs.set i u) (putL w ab i a b c) := by
  obtain ⟨s1, _⟩ := h.2.stored (i * 3) a
  obtain ⟨s2, _⟩ := s1.stored (i * 3 + 1) b
  obtain ⟨s3, _⟩ := s2.stored (i * 3 + 2) c
  refine ⟨?_, by rw [List.length_set, ls_set vs i u a b c hi e]; exact s3⟩
  unfold putL
  rw [Below.heap_setCell _ _ _ _ h.ne, Below.heap_setCell _ _ _ _ h.ne, Below.heap_setCell _ _ _ _ h.ne, List.length_set]; exact h.1
theorem heap_set_in {w : World} {b o : Nat} {u : Value} {cs : Array Value} {t : TypeId} {fz : Nat × Nat} (h : w.heap[b]? = some (.cells cs t fz)) : (w.setCell ⟨b, o, none⟩ u).heap[b]? = some (.cells (cs.set! o u) t fz) := by
  simp only [World.setCell, Array.getElem?_modify]
  rw [if_pos trivial, h]; rfl
theorem LAt.cut {hb ab cap : Nat} {vs : List Value} {w : World} (h : LAt hb ab cap vs w) (k : Nat) (hk : k ≤ vs.length) : LAt hb ab cap (vs.take k) (w.setCell ⟨hb, 0, none⟩ (.slice (some ⟨ab, 0, none⟩) k cap)) := by
  obtain ⟨cur, b1, b2, b3, b4, b5⟩ := h.block
  have hl : (vs.take k).length = k := by rw [List.length_take]; omega
  refine ⟨?_, ?_⟩
  · rw [heap_set_in h.1, hl]; rfl
  · rw [hl]
    refine ⟨by rw [ls_len, hl], .inr ⟨ab, cap, cur, rfl, Nat.zero_le _, ?_, by omega, b3, b4, ?_⟩⟩
    · rw [Below.heap_setCell _ _ _ _ (fun e => h.ne e.symm)]; exact b1
    · rw [ls_take, ← b5, List.take_take]; congr 1; omega
theorem LAt.base {hb ab cap base : Nat} {vs : List Value} {w : World} (h : LAt hb ab cap vs w) (hb' : base ≤ ab) : w.ownsRow base 57 3 (.slice (some ⟨ab, 0, none⟩) vs.length cap) vs.length (ls vs) := by
  obtain ⟨cur, b1, b2, b3, b4, b5⟩ := h.block
  exact ⟨ls_len _, .inr ⟨ab, cap, cur, rfl, hb', b1, b2, b3, b4, b5⟩⟩
theorem LAt.ne_own {hb ab cap base : Nat} {vs : List Value} {w : World} {e : TypeId} {s : Nat} {v : Value} {n : Nat} {xs : List Value} (h : LAt hb ab cap vs w) (ho : w.ownsRow base e s v n xs) (h1 : e ≠ 51) (h2 : e ≠ 57) : v.ownBlock ≠ some hb ∧ v.ownBlock ≠ some ab := by
  obtain ⟨cur, b1, _⟩ := h.block
  rcases ho.2 with ⟨rfl, _⟩ | ⟨g, c, cur', rfl, _, k2, _⟩
  · exact ⟨fun e' => (by cases e'), fun e' => (by cases e')⟩
  · refine ⟨fun e' => ?_, fun e' => ?_⟩
    · have : g = hb := Option.some.inj e'
      subst this
      have := h.1
      rw [k2] at this
      simp only [Option.some.injEq, Obj.cells.injEq] at this
      exact h1 this.2.1
    · have : g = ab := Option.some.inj e'
      subst this
      rw [k2] at b1
      simp only [Option.some.injEq, Obj.cells.injEq] at b1
      exact h2 b1.2.1
/-- What a call owns stays, while lines turn. -/
theorem LAt.own {hb ab cap base : Nat} {vs : List Value} {w w' : World} {e : TypeId} {s : Nat} {v : Value} {n : Nat} {xs : List Value} (h : LAt hb ab cap vs w) (hO : Off hb ab w w') (ho : w.ownsRow base e s v n xs) (h1 : e ≠ 51) (h2 : e ≠ 57) : w'.ownsRow base e s v n xs :=
  hO.own ho (h.ne_own ho h1 h2).1 (h.ne_own ho h1 h2).2
theorem LAt.zown {hb ab cap base : Nat} {vs : List Value} {us : List VEnt} {l : List Ent} {v : Value} {w w' : World} (h : LAt hb ab cap vs w) (hO : Off hb ab w w') (ho : ZOwn base us l v w) : ZOwn base us l v w' :=
  ⟨h.own hO ho.1 (by decide) (by decide), ho.2.1, fun i a b => ⟨h.own hO (ho.2.2 i a b).1 (by decide) (by decide), (ho.2.2 i a b).2⟩⟩
theorem LAt.grown {hb ab cap : Nat} {vs : List Value} {w w' : World} {g : Option Nat} (h : LAt hb ab cap vs w) (hg : w.grownBy w' g) (h1 : g ≠ some hb) (h2 : g ≠ some ab) : LAt hb ab cap vs w' :=
  ⟨by rw [hg.block hb h.lt.1 (fun e => h1 e.symm)]; exact h.1, h.2.kept hg (.inr (fun e => h2 e.symm))⟩
/-- A line, and how it reads. -/
def LOk (R : World) (x : QEnt) : Prop := ∃ (rv bv : Value) (e : Ent) (F : List Ent), x.1 = .agg #[rv, .int .i64 e.2, bv] ∧ x.2 = lnL e F ∧ RowIs R rv e.1 ∧ EntsIs R bv F ∧ F ≠ [] ∧ SortedZ F ∧ EOk [e] ∧ EOk F ∧ F.length ≤ 65536
/-- Lines, all read in a world of their own. -/
def LIs (R : World) (hb ab cap : Nat) (X : List QEnt) (w : World) : Prop :=
  LAt hb ab cap (X.map (·.1)) w ∧ (∀ x ∈ X, LOk R x) ∧ Sees R w ∧ Free R hb ∧ Free R ab ∧ X.length ≤ 65536
theorem LIs.on {R : World} {hb ab cap : Nat} {X : List QEnt} {w w' : World} (h : LIs R hb ab cap X w) (hB : Below w.heap.size w w') : LIs R hb ab cap X w' :=
  ⟨h.1.on hB, h.2.1, h.2.2.1.on hB, h.2.2.2⟩
theorem LIs.grown {R : World} {hb ab cap : Nat} {X : List QEnt} {w w' : World} {g : Option Nat} (h : LIs R hb ab cap X w) (hg : w.grownBy w' g) (h1 : g ≠ some hb) (h2 : g ≠ some ab) (h3 : ∀ k, g = some k → Free R k) : LIs R hb ab cap X w' :=
  ⟨h.1.grown hg h1 h2, h.2.1, h.2.2.1.grown hg h3, h.2.2.2⟩
theorem LOk.cells {R : World} {x : QEnt} (h : LOk R x) : ∃ a b c, lcs x.1 = [a, b, c] ∧ x.1 = .agg #[a, b, c] := by
  obtain ⟨rv, bv, e, F, h1, _⟩ := h
  exact ⟨rv, .int .i64 e.2, bv, by rw [h1]; rfl, h1⟩
theorem LOk.sorted {R : World} {x : QEnt} (h : LOk R x) : SortedZ x.2 := by
  obtain ⟨rv, bv, e, F, _, h2, _, _, _, h3, _⟩ := h
  rw [h2]; exact lnL_sorted e h3
theorem Sees.putL {R w : World} (h : Sees R w) {b : Nat} (hf : Free R b) (i : Nat) (x y z : Value) : Sees R (putL w b i x y z) := ((h.set hf x).set hf y).set hf z
theorem LIs.put {R : World} {hb ab cap : Nat} {X : List QEnt} {w : World} (h : LIs R hb ab cap X w) (i : Nat) (hi : i < X.length) (x : QEnt) (hx : LOk R x) {a b c : Value} (e : lcs x.1 = [a, b, c]) : LIs R hb ab cap (X.set i x) (putL w ab i a b c) := by
  refine ⟨by rw [List.map_set]; exact h.1.put i (by simpa using hi) e, fun y hy => ?_, h.2.2.1.putL h.2.2.2.2.1 _ _ _ _, h.2.2.2.1, h.2.2.2.2.1, by rw [List.length_set]; exact h.2.2.2.2.2⟩
  rcases List.mem_or_eq_of_mem_set hy with hy | rfl
  · exact h.2.1 y hy
  · exact hx
theorem LIs.get {R : World} {hb ab cap : Nat} {X : List QEnt} {w : World} (h : LIs R hb ab cap X w) {i : Nat} (hi : i < X.length) : LOk R (X.getD i qD) := by
  have e : X.getD i qD = X[i] := by rw [List.getD_eq_getElem?_getD, List.getElem?_eq_getElem hi]; rfl
  rw [e]; exact h.2.1 _ (List.getElem_mem hi)
theorem LIs.cellsAt {R : World} {hb ab cap : Nat} {X : List QEnt} {w : World} (h : LIs R hb ab cap X w) {i : Nat} (hi : i < X.length) {a b c : Value} (e : lcs (X.getD i qD).1 = [a, b, c]) : w.cell? ⟨ab, i * 3, none⟩ = some a ∧ w.cell? ⟨ab, i * 3 + 1, none⟩ = some b ∧ w.cell? ⟨ab, i * 3 + 2, none⟩ = some c := by
  have e' : X.getD i qD = X[i] := by rw [List.getD_eq_getElem?_getD, List.getElem?_eq_getElem hi]; rfl
  rw [e'] at e
  exact h.1.at i (by simpa using hi) (by simpa using e)
theorem LIs.sw {R : World} {hb ab cap : Nat} {X : List QEnt} {w : World} (h : LIs R hb ab cap X w) {i j : Nat} (hi : i < X.length) (hj : j < X.length) {a b c a' b' c' : Value} (e : lcs (X.getD i qD).1 = [a, b, c]) (e' : lcs (X.getD j qD).1 = [a', b', c']) :
    LIs R hb ab cap (sw X i j) (putL (putL w ab i a' b' c') ab j a b c) :=
  (h.put i hi _ (h.get hj) e').put j (by rw [List.length_set]; exact hj) _ (h.get hi) e
theorem LIs.cut {R : World} {hb ab cap : Nat} {X : List QEnt} {w : World} (h : LIs R hb ab cap X w) (k : Nat) (hk : k ≤ X.length) : LIs R hb ab cap (X.take k) (w.setCell ⟨hb, 0, none⟩ (.slice (some ⟨ab, 0, none⟩) k cap)) := by
  refine ⟨?_, fun x hx => h.2.1 x (List.mem_of_mem_take hx), h.2.2.1.set h.2.2.2.1 _, h.2.2.2.1, h.2.2.2.2.1, by have := h.2.2.2.2.2; rw [List.length_take]; omega⟩
  have := h.1.cut k (by simpa using hk)
  rwa [← List.map_take] at this
/-- What a line begins with. -/
theorem LIs.head {R : World} {hb ab cap : Nat} {X : List QEnt} {w : World} (h : LIs R hb ab cap X w) {i : Nat} (hi : i < X.length) :
    ∃ (a1 : Option Addr) (c1 b o c : Nat) (a2 : Option Addr) (c2 : Nat) (e f : Ent) (F : List Ent), X.getD i qD = (.agg #[.slice a1 e.1.length c1, .int .i64 e.2, .slice (some ⟨b, o, none⟩) (f :: F).length c], lnL e (f :: F)) ∧ (f :: F).length ≤ c ∧ c ≤ maxLen ∧ (f :: F).length ≤ 65536 ∧
      RowIs R (.slice a1 e.1.length c1) e.1 ∧ RowIs R (.slice a2 f.1.length c2) f.1 ∧ EntsIs R (.slice (some ⟨b, o, none⟩) (f :: F).length c) (f :: F) ∧ SortedZ (f :: F) ∧ EOk [e] ∧ EOk (f :: F) ∧
      w.cell? ⟨ab, i * 3, none⟩ = some (.slice a1 e.1.length c1) ∧ w.cell? ⟨ab, i * 3 + 1, none⟩ = some (.int .i64 e.2) ∧ w.cell? ⟨ab, i * 3 + 2, none⟩ = some (.slice (some ⟨b, o, none⟩) (f :: F).length c) ∧
      w.cell? ⟨b, o, none⟩ = some (.slice a2 f.1.length c2) ∧ w.cell? ⟨b, o + 1, none⟩ = some (.int .i64 f.2) ∧ kf X i = e.1 ++ f.1 := by
  have hx := h.get hi
  have hc := fun (a b c : Value) (e : lcs (X.getD i qD).1 = [a, b, c]) => h.cellsAt hi e
  have hk : kf X i = hdE (X.getD i qD).2 := rfl
  rw [hk]
  generalize X.getD i qD = x at *
  obtain ⟨v, l⟩ := x
  obtain ⟨rv, bv, e, F, h1, h2, h3, h4, h5, h6, h7, h8, h9⟩ := hx
  simp only at h1 h2
  subst h1 h2
  cases F with
  | nil => exact absurd rfl h5
  | cons f F =>
    obtain ⟨a1, c1, rfl⟩ := h3.form
    obtain ⟨a, c, rfl⟩ := h4.form
    obtain ⟨b, o, a2, c2, rfl, x1, x2, x3⟩ := h4.at 0 (by simp)
    simp only [List.getElem_cons_zero, Nat.zero_mul, Nat.add_zero] at x1 x2 x3
    have hcap : (f :: F).length ≤ c ∧ c ≤ maxLen := by
      obtain ⟨vs, g1, g2⟩ := h4
      rcases g1 with ⟨a, c2, e', rfl⟩ | ⟨b', o', c2, e', g1, g2', g3, g4⟩
      · have := g2.1; simp at this
      · simp only [Value.slice.injEq] at e'
        obtain ⟨_, _, rfl⟩ := e'
        have := g2.1
        exact ⟨by omega, g2'⟩
    obtain ⟨y1, y2, y3⟩ := hc _ _ _ rfl
    exact ⟨a1, c1, b, o, c, a2, c2, e, f, F, rfl, hcap.1, hcap.2, h9, h3, x3, h4, h6, h7, h8, y1, y2, y3, h.2.2.1.2 _ _ x1, h.2.2.1.2 _ _ x2, rfl⟩
end Go.Proofs.YtlafokjkpbhckaaGreatDoor
