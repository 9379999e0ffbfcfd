/- A queue of z-sets in memory: its header, its list; what is left of each reads as it did. -/
import Derived.Test.YtnjbpikhkccekaaDoorPackPlain
import Derived.Test.YtnjbpikhkccekaaDoorOwns
import Derived.Test.YtnjbpikhkccekaaDoorOn
namespace Go.Proofs.YtnjbpikhkccekaaDoor
open Go.RowKit Go.Sort
set_option maxRecDepth 100000

/-- But for two blocks the world is as it was. -/
def Off (a b : Nat) (w w' : World) : Prop :=
  w'.os = w.os ∧ w'.tape = w.tape ∧ w'.output = w.output ∧ w.heap.size ≤ w'.heap.size ∧ ∀ k, k ≠ a → k ≠ b → k < w.heap.size → w'.heap[k]? = w.heap[k]?
theorem Off.refl (a b : Nat) (w : World) : Off a b w w := ⟨rfl, rfl, rfl, Nat.le_refl _, fun _ _ _ _ => rfl⟩
theorem Off.trans {a b : Nat} {x y z : World} (h : Off a b x y) (k : Off a b y z) : Off a b x z :=
  ⟨k.1.trans h.1, k.2.1.trans h.2.1, k.2.2.1.trans h.2.2.1, Nat.le_trans h.2.2.2.1 k.2.2.2.1, fun i h1 h2 h3 => (k.2.2.2.2 i h1 h2 (Nat.lt_of_lt_of_le h3 h.2.2.2.1)).trans (h.2.2.2.2 i h1 h2 h3)⟩
theorem Off.size {a b : Nat} {w w' : World} (h : Off a b w w') : w.heap.size ≤ w'.heap.size := h.2.2.2.1
theorem Off.of_below {a b : Nat} {w w' : World} (h : Below w.heap.size w w') : Off a b w w' := ⟨h.os, h.tape, h.output, h.size, fun i _ _ h2 => h.block i h2⟩
theorem Off.of_l {a b : Nat} {w w' : World} (h : But a w w') : Off a b w w' := ⟨h.1, h.2.1, h.2.2.1, h.2.2.2.1, fun i h1 _ h2 => h.2.2.2.2 i h1 h2⟩
theorem Off.of_r {a b : Nat} {w w' : World} (h : But b w w') : Off a b w w' := ⟨h.1, h.2.1, h.2.2.1, h.2.2.2.1, fun i _ h1 h2 => h.2.2.2.2 i h1 h2⟩
theorem Off.below {a b B : Nat} {w w' : World} (h : Off a b w w') (ha : B ≤ a) (hb : B ≤ b) (hS : B ≤ w.heap.size) : Below B w w' := ⟨h.1, h.2.1, h.2.2.1, h.2.2.2.1, fun k hk => h.2.2.2.2 k (by omega) (by omega) (by omega)⟩
theorem Off.cell {a b : Nat} {w w' : World} (h : Off a b w w') {p : Addr} {v : Value} (hc : w.cell? p = some v) (h1 : p.block ≠ a) (h2 : p.block ≠ b) : w'.cell? p = some v := by
  rw [World.cell?_of_block (w := w) (h.2.2.2.2 p.block h1 h2 (World.block_lt_of_cell? _ _ hc))]; exact hc
theorem Off.own {a b base : Nat} {w w' : World} {e : TypeId} {s : Nat} {v : Value} {n : Nat} {xs : List Value} (h : Off a b w w') (ho : w.ownsRow base e s v n xs) (h1 : v.ownBlock ≠ some a) (h2 : v.ownBlock ≠ some b) : w'.ownsRow base e s v n xs := by
  refine ⟨ho.1, ?_⟩
  rcases ho.2 with hn | ⟨g, cap, cur, rfl, hb, hgg, rest⟩
  · exact .inl hn
  · refine .inr ⟨g, cap, cur, rfl, hb, ?_, rest⟩
    rw [h.2.2.2.2 g (fun e => h1 (by rw [e]; rfl)) (fun e => h2 (by rw [e]; rfl)) (Array.getElem?_eq_some_iff.1 hgg).1]
    exact hgg
theorem Off.own_lt {a b base : Nat} {w w' : World} {e : TypeId} {s : Nat} {v : Value} {n : Nat} {xs : List Value} (h : Off a b w w') (ho : w.ownsRow base e s v n xs) (h1 : a < base) (h2 : b < base) : w'.ownsRow base e s v n xs :=
  h.own ho (fun e => by have := (ho.lt a e).1; omega) (fun e => by have := (ho.lt b e).1; omega)
theorem Off.row {a b : Nat} {w w' : World} {v : Value} {l : List Val} (hb : Off a b w w') (h : RowIs w v l) (h1 : v.ownBlock ≠ some a) (h2 : v.ownBlock ≠ some b) : RowIs w' v l := by
  rcases h with h | ⟨g, o, cap, rfl, g1, g2, g3, g4⟩
  · exact .inl h
  · have n1 : g ≠ a := fun e => h1 (by rw [e]; rfl)
    have n2 : g ≠ b := fun e => h2 (by rw [e]; rfl)
    refine .inr ⟨g, o, cap, rfl, g1, g2, Nat.lt_of_lt_of_le g3 hb.size, fun i hi => ?_⟩
    obtain ⟨c1, c2, c3⟩ := g4 i hi
    exact ⟨hb.cell c1 n1 n2, hb.cell c2 n1 n2, hb.cell c3 n1 n2⟩
theorem Off.ents {a b : Nat} {w w' w0 : World} {v : Value} {l : List Ent} (hb : Off a b w w') (h : EntsR w w0 v l) (h1 : v.ownBlock ≠ some a) (h2 : v.ownBlock ≠ some b) : EntsR w' w0 v l := by
  obtain ⟨vs, h3, h4⟩ := h
  refine ⟨vs, ?_, h4⟩
  rcases h3 with h3 | ⟨g, o, cap, rfl, g1, g2, g3, g4⟩
  · exact .inl h3
  · have n1 : g ≠ a := fun e => h1 (by rw [e]; rfl)
    have n2 : g ≠ b := fun e => h2 (by rw [e]; rfl)
    refine .inr ⟨g, o, cap, rfl, g1, g2, Nat.lt_of_lt_of_le g3 hb.size, fun i hi => ?_⟩
    obtain ⟨c1, c2⟩ := g4 i hi
    exact ⟨hb.cell c1 n1 n2, hb.cell c2 n1 n2⟩
/-- A queue: a header of one slice, its list of slices. -/
def QAt (hb tH ab cap : Nat) (vs : List Value) (w : World) : Prop :=
  w.heap[hb]? = some (.cells #[.slice (some ⟨ab, 0, none⟩) vs.length cap] tH (0, 0)) ∧ w.ownsRow 0 29 1 (.slice (some ⟨ab, 0, none⟩) vs.length cap) vs.length vs ∧ tH ≠ 29
theorem QAt.block {hb tH ab cap : Nat} {vs : List Value} {w : World} (h : QAt hb tH ab cap vs w) : ∃ cur, w.heap[ab]? = some (.cells cur 29 (0, 0)) ∧ vs.length ≤ cap ∧ cap ≤ maxLen ∧ cur.size = cap ∧ cur.toList.take vs.length = vs := by
  rcases h.2.1.2 with ⟨e, _⟩ | ⟨g, c, cur, e, _, h2, h3, h4, h5, h6⟩
  · cases e
  · simp only [Value.slice.injEq, Option.some.injEq, Addr.mk.injEq, and_true, true_and] at e
    obtain ⟨rfl, rfl⟩ := e
    exact ⟨cur, h2, h3, h4, by omega, by simpa using h6⟩
theorem QAt.ne {hb tH ab cap : Nat} {vs : List Value} {w : World} (h : QAt hb tH ab cap vs w) : hb ≠ ab := by
  obtain ⟨cur, h2, _⟩ := h.block
  intro e
  subst e
  have := h.1
  rw [h2] at this
  simp only [Option.some.injEq, Obj.cells.injEq] at this
  exact h.2.2 this.2.1.symm
theorem QAt.lt {hb tH ab cap : Nat} {vs : List Value} {w : World} (h : QAt hb tH ab cap vs w) : hb < w.heap.size ∧ ab < w.heap.size := by
  obtain ⟨cur, h2, _⟩ := h.block
  exact ⟨(Array.getElem?_eq_some_iff.1 h.1).1, (Array.getElem?_eq_some_iff.1 h2).1⟩
theorem QAt.cell {hb tH ab cap : Nat} {vs : List Value} {w : World} (h : QAt hb tH ab cap vs w) : w.cell? ⟨hb, 0, none⟩ = some (.slice (some ⟨ab, 0, none⟩) vs.length cap) := by
  simp [World.cell?, h.1]
theorem QAt.frozen {hb tH ab cap : Nat} {vs : List Value} {w : World} (h : QAt hb tH ab cap vs w) : w.frozen? ⟨hb, 0, none⟩ = false := by
  simp [World.frozen?, h.1]
theorem QAt.at {hb tH ab cap : Nat} {vs : List Value} {w : World} (h : QAt hb tH ab cap vs w) (i : Nat) (hi : i < vs.length) : w.cell? ⟨ab, i, none⟩ = some vs[i] := by
  rw [h.2.1.cellAt i (by omega)]; exact List.getElem?_eq_getElem hi
theorem QAt.fz {hb tH ab cap : Nat} {vs : List Value} {w : World} (h : QAt hb tH ab cap vs w) (i : Nat) : w.frozen? ⟨ab, i, none⟩ = false := h.2.1.frozenAt i
theorem QAt.on {hb tH ab cap : Nat} {vs : List Value} {w w' : World} (h : QAt hb tH ab cap vs w) (hB : Below w.heap.size w w') : QAt hb tH ab cap vs w' :=
  ⟨by rw [hB.block hb h.lt.1]; exact h.1, own_on h.2.1 hB, h.2.2⟩
theorem QAt.put {hb tH ab cap : Nat} {vs : List Value} {w : World} (h : QAt hb tH ab cap vs w) (i : Nat) (u : Value) : QAt hb tH ab cap (vs.set i u) (w.setCell ⟨ab, i, none⟩ u) := by
  obtain ⟨s1, s2⟩ := h.2.1.stored i u
  refine ⟨?_, by rw [List.length_set]; exact s1, h.2.2⟩
  rw [Below.heap_setCell _ _ _ _ h.ne, List.length_set]; exact h.1
theorem heap_set_at {w : World} {b o : Nat} {u : Value} {cs : Array Value} {t : TypeId} {fz : Nat × Nat} (h : w.heap[b]? = some (.cells cs t fz)) : (w.setCell ⟨b, o, none⟩ u).heap[b]? = some (.cells (cs.set! o u) t fz) := by
  simp only [World.setCell, Array.getElem?_modify]
  rw [if_pos trivial, h]; rfl
theorem QAt.cut {hb tH ab cap : Nat} {vs : List Value} {w : World} (h : QAt hb tH ab cap vs w) (k : Nat) (hk : k ≤ vs.length) : QAt hb tH ab cap (vs.take k) (w.setCell ⟨hb, 0, none⟩ (.slice (some ⟨ab, 0, none⟩) k cap)) := by
  obtain ⟨cur, b1, b2, b3, b4, b5⟩ := h.block
  have hl : (vs.take k).length = k := by rw [List.length_take]; omega
  refine ⟨?_, ?_, h.2.2⟩
  · rw [heap_set_at h.1, hl]; rfl
  · rw [hl]
    refine ⟨by rw [hl]; omega, .inr ⟨ab, cap, cur, rfl, Nat.zero_le _, ?_, by omega, b3, by omega, ?_⟩⟩
    · rw [Below.heap_setCell _ _ _ _ (fun e => h.ne e.symm)]; exact b1
    · rw [← b5, List.take_take]; congr 1; omega
theorem QAt.base {hb tH ab cap base : Nat} {vs : List Value} {w : World} (h : QAt hb tH ab cap vs w) (hb' : base ≤ ab) : w.ownsRow base 29 1 (.slice (some ⟨ab, 0, none⟩) vs.length cap) vs.length vs := by
  obtain ⟨cur, b1, b2, b3, b4, b5⟩ := h.block
  exact ⟨by omega, .inr ⟨ab, cap, cur, rfl, hb', b1, b2, b3, by omega, by simpa using b5⟩⟩
theorem QAt.ne_own {hb tH ab cap base : Nat} {vs : List Value} {w : World} {e : TypeId} {s : Nat} {v : Value} {n : Nat} {xs : List Value} (h : QAt hb tH ab cap vs w) (ho : w.ownsRow base e s v n xs) (h1 : e ≠ tH) (h2 : e ≠ 29) : v.ownBlock ≠ some hb ∧ v.ownBlock ≠ some ab := by
  obtain ⟨cur, b1, _⟩ := h.block
  rcases ho.2 with ⟨rfl, _⟩ | ⟨g, c, cur', rfl, _, k2, _⟩
  · exact ⟨fun e' => (by cases e'), fun e' => (by cases e')⟩
  · refine ⟨fun e' => ?_, fun e' => ?_⟩
    · have : g = hb := Option.some.inj e'
      subst this
      have := h.1
      rw [k2] at this
      simp only [Option.some.injEq, Obj.cells.injEq] at this
      exact h1 this.2.1
    · have : g = ab := Option.some.inj e'
      subst this
      rw [k2] at b1
      simp only [Option.some.injEq, Obj.cells.injEq] at b1
      exact h2 b1.2.1
/-- What a call owns stays, while a queue turns. -/
theorem QAt.own {hb tH ab cap base : Nat} {vs : List Value} {w w' : World} {e : TypeId} {s : Nat} {v : Value} {n : Nat} {xs : List Value} (h : QAt hb tH ab cap vs w) (hO : Off hb ab w w') (ho : w.ownsRow base e s v n xs) (h1 : e ≠ tH) (h2 : e ≠ 29) : w'.ownsRow base e s v n xs :=
  hO.own ho (h.ne_own ho h1 h2).1 (h.ne_own ho h1 h2).2
theorem QAt.zown {hb tH ab cap base : Nat} {vs : List Value} {us : List VEnt} {l : List Ent} {v : Value} {w w' : World} (h : QAt hb tH ab cap vs w) (hO : Off hb ab w w') (h1 : 50 ≠ tH) (h2 : 44 ≠ tH) (ho : ZOwn base us l v w) : ZOwn base us l v w' :=
  ⟨h.own hO ho.1 h1 (by decide), ho.2.1, fun i a b => ⟨h.own hO (ho.2.2 i a b).1 h2 (by decide), (ho.2.2 i a b).2⟩⟩
theorem QAt.zhas {hb tH ab cap base : Nat} {vs : List Value} {l : List Ent} {v : Value} {w w' : World} (h : QAt hb tH ab cap vs w) (hO : Off hb ab w w') (h1 : 50 ≠ tH) (h2 : 44 ≠ tH) (ho : ZHas base l v w) : ZHas base l v w' := by
  obtain ⟨us, ho⟩ := ho; exact ⟨us, h.zown hO h1 h2 ho⟩
theorem QAt.grown {hb tH ab cap : Nat} {vs : List Value} {w w' : World} {g : Option Nat} (h : QAt hb tH ab cap vs w) (hg : w.grownBy w' g) (h1 : g ≠ some hb) (h2 : g ≠ some ab) : QAt hb tH ab cap vs w' := by
  obtain ⟨cur, b1, b2, b3, b4, b5⟩ := h.block
  exact ⟨by rw [hg.block hb h.lt.1 (fun e => h1 e.symm)]; exact h.1, h.2.1.kept hg (.inr (fun e => h2 e.symm)), h.2.2⟩
theorem Off.grown {a b : Nat} {w x w' : World} {g : Option Nat} (h : Off a b w x) (hg : x.grownBy w' g) (hk : ∀ k, g = some k → w.heap.size ≤ k) : Off a b w w' :=
  ⟨hg.os.trans h.1, hg.tape.trans h.2.1, hg.output.trans h.2.2.1, Nat.le_trans h.2.2.2.1 hg.size, fun k h1 h2 h3 => (hg.block k (Nat.lt_of_lt_of_le h3 h.2.2.2.1) (fun e => by have := hk k e.symm; omega)).trans (h.2.2.2.2 k h1 h2 h3)⟩
/-- What is left of a z-set, and how it reads. -/
def QOk (w0 : World) (x : QEnt) : Prop := EntsIs w0 x.1 x.2 ∧ x.2 ≠ [] ∧ SortedZ x.2 ∧ EOk x.2 ∧ x.2.length ≤ 65536
/-- A queue, its lists all read in a world that came before. -/
def QIs (w0 : World) (hb tH ab cap : Nat) (X : List QEnt) (w : World) : Prop :=
  QAt hb tH ab cap (X.map (·.1)) w ∧ (∀ x ∈ X, QOk w0 x) ∧ Below w0.heap.size w0 w ∧ w0.heap.size ≤ hb ∧ w0.heap.size ≤ ab ∧ X.length ≤ 65536
theorem QIs.on {w0 : World} {hb tH ab cap : Nat} {X : List QEnt} {w w' : World} (h : QIs w0 hb tH ab cap X w) (hB : Below w.heap.size w w') : QIs w0 hb tH ab cap X w' :=
  ⟨h.1.on hB, h.2.1, h.2.2.1.trans (hB.mono h.2.2.1.size), h.2.2.2⟩
theorem QIs.grown {w0 : World} {hb tH ab cap : Nat} {X : List QEnt} {w w' : World} {g : Option Nat} (h : QIs w0 hb tH ab cap X w) (hg : w.grownBy w' g) (h1 : g ≠ some hb) (h2 : g ≠ some ab) (h3 : ∀ k, g = some k → w0.heap.size ≤ k) : QIs w0 hb tH ab cap X w' :=
  ⟨h.1.grown hg h1 h2, h.2.1, h.2.2.1.grown hg h.2.2.1.size h3, h.2.2.2⟩
theorem map_set_fst (X : List QEnt) (i : Nat) (x : QEnt) : (X.set i x).map (·.1) = (X.map (·.1)).set i x.1 := by rw [List.map_set]
theorem QIs.put {w0 : World} {hb tH ab cap : Nat} {X : List QEnt} {w : World} (h : QIs w0 hb tH ab cap X w) (i : Nat) (x : QEnt) (hx : QOk w0 x) : QIs w0 hb tH ab cap (X.set i x) (w.setCell ⟨ab, i, none⟩ x.1) := by
  refine ⟨by rw [map_set_fst]; exact h.1.put i x.1, fun y hy => ?_, h.2.2.1.setCell h.2.2.2.2.1 _, h.2.2.2.1, h.2.2.2.2.1, by rw [List.length_set]; exact h.2.2.2.2.2⟩
  rcases List.mem_or_eq_of_mem_set hy with hy | rfl
  · exact h.2.1 y hy
  · exact hx
theorem QIs.get {w0 : World} {hb tH ab cap : Nat} {X : List QEnt} {w : World} (h : QIs w0 hb tH ab cap X w) {i : Nat} (hi : i < X.length) : QOk w0 (X.getD i qD) ∧ w.cell? ⟨ab, i, none⟩ = some (X.getD i qD).1 := by
  have e : X.getD i qD = X[i] := by rw [List.getD_eq_getElem?_getD, List.getElem?_eq_getElem hi]; rfl
  rw [e]
  refine ⟨h.2.1 _ (List.getElem_mem hi), ?_⟩
  have := h.1.at i (by simpa using hi)
  simpa using this
theorem QIs.sw {w0 : World} {hb tH ab cap : Nat} {X : List QEnt} {w : World} (h : QIs w0 hb tH ab cap X w) {i j : Nat} (hi : i < X.length) (hj : j < X.length) :
    QIs w0 hb tH ab cap (sw X i j) ((w.setCell ⟨ab, i, none⟩ (X.getD j qD).1).setCell ⟨ab, j, none⟩ (X.getD i qD).1) :=
  (h.put i _ (h.get hj).1).put j _ (h.get hi).1
theorem QIs.cut {w0 : World} {hb tH ab cap : Nat} {X : List QEnt} {w : World} (h : QIs w0 hb tH ab cap X w) (k : Nat) (hk : k ≤ X.length) : QIs w0 hb tH ab cap (X.take k) (w.setCell ⟨hb, 0, none⟩ (.slice (some ⟨ab, 0, none⟩) k cap)) := by
  refine ⟨?_, fun x hx => h.2.1 x (List.mem_of_mem_take hx), h.2.2.1.setCell h.2.2.2.1 _, h.2.2.2.1, h.2.2.2.2.1, by have := h.2.2.2.2.2; rw [List.length_take]; omega⟩
  have := h.1.cut k (by simpa using hk)
  rwa [← List.map_take] at this
/-- What a place of it begins with. -/
theorem QIs.head {w0 : World} {hb tH ab cap : Nat} {X : List QEnt} {w : World} (h : QIs w0 hb tH ab cap X w) {i : Nat} (hi : i < X.length) :
    ∃ b o n c a' c' k, (X.getD i qD).1 = .slice (some ⟨b, o, none⟩) n c ∧ 0 < n ∧ n ≤ 65536 ∧ w.cell? ⟨ab, i, none⟩ = some (.slice (some ⟨b, o, none⟩) n c) ∧ w.cell? ⟨b, o, none⟩ = some (.slice a' (kf X i).length c') ∧ w.cell? ⟨b, o + 1, none⟩ = some (.int .i64 k) ∧ RowIs w (.slice a' (kf X i).length c') (kf X i) := by
  obtain ⟨⟨q1, q2, q3, q4, q5⟩, hc⟩ := h.get hi
  unfold kf
  generalize X.getD i qD = x at *
  obtain ⟨v, l⟩ := x
  cases l with
  | nil => exact absurd rfl q2
  | cons e l =>
    simp only at q1 q5 hc ⊢
    obtain ⟨a, c, rfl⟩ := q1.form
    obtain ⟨b, o, a', c', rfl, x1, x2, x3⟩ := (q1.on h.2.2.1).at 0 (by simp)
    simp only [List.getElem_cons_zero, Nat.zero_mul, Nat.add_zero] at x1 x2 x3
    exact ⟨b, o, _, c, a', c', e.2, rfl, by simp, by simpa using q5, hc, x1, x2, x3⟩
/-- The first row of the first one, in the world that came before. -/
theorem QIs.head0 {w0 : World} {hb tH ab cap : Nat} {x : QEnt} {T : List QEnt} {w : World} (h : QIs w0 hb tH ab cap (x :: T) w) :
    ∃ b o c a' c' e l, x = (.slice (some ⟨b, o, none⟩) (e :: l).length c, e :: l) ∧ (e :: l).length ≤ c ∧ c ≤ maxLen ∧ (e :: l).length ≤ 65536 ∧ EntsIs w0 (.slice (some ⟨b, o, none⟩) (e :: l).length c) (e :: l) ∧ SortedZ (e :: l) ∧ EOk (e :: l) ∧
      w.cell? ⟨ab, 0, none⟩ = some (.slice (some ⟨b, o, none⟩) (e :: l).length c) ∧ w.cell? ⟨b, o, none⟩ = some (.slice a' e.1.length c') ∧ w.cell? ⟨b, o + 1, none⟩ = some (.int .i64 e.2) ∧ RowIs w0 (.slice a' e.1.length c') e.1 := by
  obtain ⟨⟨q1, q2, q3, q4, q5⟩, hc⟩ := h.get (show 0 < (x :: T).length by simp)
  simp only [List.getD_cons_zero] at q1 q2 q3 q4 q5 hc
  obtain ⟨v, l⟩ := x
  cases l with
  | nil => exact absurd rfl q2
  | cons e l =>
    simp only at q1 q3 q4 q5 hc
    obtain ⟨a, c, rfl⟩ := q1.form
    obtain ⟨b, o, a', c', rfl, x1, x2, x3⟩ := q1.at 0 (by simp)
    simp only [List.getElem_cons_zero, Nat.zero_mul, Nat.add_zero] at x1 x2 x3
    have hcap : (e :: l).length ≤ c ∧ c ≤ maxLen := by
      obtain ⟨vs, h1, h2⟩ := q1
      rcases h1 with ⟨a, c2, e', rfl⟩ | ⟨b', o', c2, e', g1, g2, g3, g4⟩
      · have := h2.1; simp at this
      · simp only [Value.slice.injEq] at e'
        obtain ⟨_, _, rfl⟩ := e'
        have := h2.1
        exact ⟨by omega, g2⟩
    exact ⟨b, o, c, a', c', e, l, rfl, hcap.1, hcap.2, q5, q1, q3, q4, hc, cell_on x1 h.2.2.1, cell_on x2 h.2.2.1, x3⟩
end Go.Proofs.YtnjbpikhkccekaaDoor
