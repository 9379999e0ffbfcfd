/- Predicates plainly: what they hold of, what they ask, with other columns in their places. -/
import Derived.Test.YtiphnbpkliglcaaDoorRowPlain
namespace Go.Proofs.YtiphnbpkliglcaaDoor
set_option linter.unusedVariables false

abbrev nul : Val := (0, 0, ⟨#[]⟩)
/-- A predicate: its kind, its column, its sign, its other column, its constant, its parts. -/
structure Pd where
  k : Int
  c : Int
  o : Int
  d : Int
  v : Val
  l : List Pd
theorem Pd.ind {P : Pd → Prop} (h : ∀ k c o d v l, (∀ q ∈ l, P q) → P ⟨k, c, o, d, v, l⟩) : ∀ p, P p
  | ⟨k, c, o, d, v, l⟩ => h k c o d v l (fun q _ => Pd.ind h q)
/-- A row's column; one that is none is Null. -/
def colR (r : List Val) (c : Int) : Val := if 0 ≤ c then r.getD c.toNat nul else nul
/-- How two values stand to each other. -/
def agO (o c : Int) : Bool :=
  if o = 1 then decide (c = 0) else if o = 2 then !decide (c = 0) else if o = 3 then decide (c < 0) else if o = 4 then decide (c ≤ 0) else if o = 5 then decide (0 < c) else if o = 6 then decide (0 ≤ c) else false
def ag (a : Val) (o : Int) (b : Val) : Bool := if a.1 = b.1 ∧ a.1 ≠ 0 then agO o (cVal a b) else false
def notB : List Bool → Bool
  | [] => false
  | b :: _ => !b
/-- Does it hold of the row? -/
def hd : Pd → List Val → Bool
  | ⟨k, c, o, d, v, l⟩, r =>
    if k = 1 then ag (colR r c) o v
    else if k = 2 then ag (colR r c) o (colR r d)
    else if k = 3 then decide ((colR r c).1 = 0)
    else if k = 4 then (l.map fun q => hd q r).all id
    else if k = 5 then (l.map fun q => hd q r).any id
    else if k = 6 then notB (l.map fun q => hd q r)
    else false
theorem hd_eq (p : Pd) (r : List Val) : hd p r = if p.k = 1 then ag (colR r p.c) p.o p.v else if p.k = 2 then ag (colR r p.c) p.o (colR r p.d) else if p.k = 3 then decide ((colR r p.c).1 = 0) else if p.k = 4 then (p.l.map fun q => hd q r).all id else if p.k = 5 then (p.l.map fun q => hd q r).any id else if p.k = 6 then notB (p.l.map fun q => hd q r) else false := by
  obtain ⟨k, c, o, d, v, l⟩ := p
  rw [hd]
/-- The columns that it asks, its parts aside; the parts that it asks. -/
def askP (p : Pd) : List Int := if p.k = 1 ∨ p.k = 3 then [p.c] else if p.k = 2 then [p.c, p.d] else []
def ptsP (p : Pd) : List Pd := if p.k = 4 ∨ p.k = 5 then p.l else if p.k = 6 then p.l.take 1 else []
/-- All columns that it asks, as they come. -/
def csP : Pd → List Int
  | ⟨k, c, o, d, v, l⟩ =>
    if k = 1 ∨ k = 3 then [c] else if k = 2 then [c, d]
    else if k = 4 ∨ k = 5 then (l.map fun q => csP q).flatten
    else if k = 6 then ((l.map fun q => csP q).take 1).flatten
    else []
theorem csP_eq (p : Pd) : csP p = askP p ++ ((ptsP p).map csP).flatten := by
  obtain ⟨k, c, o, d, v, l⟩ := p
  rw [csP]
  unfold askP ptsP
  by_cases h1 : k = 1 ∨ k = 3
  · have h4 : ¬ (k = 4 ∨ k = 5) := by omega
    have h6 : ¬ k = 6 := by omega
    simp [h1, h4, h6]
  by_cases h2 : k = 2
  · subst h2; simp
  by_cases h4 : k = 4 ∨ k = 5
  · simp [h1, h2, h4]
  by_cases h6 : k = 6
  · subst h6; simp [List.map_take]
  · simp [h1, h2, h4, h6]
/-- A column in the place of another one; one that is none stays. -/
def mpC (cols : List Int) (c : Int) : Int := if 0 ≤ c then cols.getD c.toNat c else c
/-- A predicate by other columns. -/
def mpP (cols : List Int) : Pd → Pd
  | ⟨k, c, o, d, v, l⟩ =>
    if k = 1 then ⟨1, mpC cols c, o, 0, v, []⟩
    else if k = 2 then ⟨2, mpC cols c, o, mpC cols d, nul, []⟩
    else if k = 3 then ⟨3, mpC cols c, 0, 0, nul, []⟩
    else if k = 4 ∨ k = 5 ∨ k = 6 then ⟨k, 0, 0, 0, nul, l.map fun q => mpP cols q⟩
    else ⟨k, 0, 0, 0, nul, []⟩
theorem mpP_eq (cols : List Int) (p : Pd) : mpP cols p = if p.k = 1 then ⟨1, mpC cols p.c, p.o, 0, p.v, []⟩ else if p.k = 2 then ⟨2, mpC cols p.c, p.o, mpC cols p.d, nul, []⟩ else if p.k = 3 then ⟨3, mpC cols p.c, 0, 0, nul, []⟩ else if p.k = 4 ∨ p.k = 5 ∨ p.k = 6 then ⟨p.k, 0, 0, 0, nul, p.l.map fun q => mpP cols q⟩ else ⟨p.k, 0, 0, 0, nul, []⟩ := by
  obtain ⟨k, c, o, d, v, l⟩ := p
  rw [mpP]
/-- A predicate that is made for columns' kinds: no deeper than that. -/
def LeafP (ks : List Int) (p : Pd) : Prop :=
  (∃ (c : Nat) (o : Int) (v : Val) (hc : c < ks.length), 1 ≤ o ∧ o ≤ 6 ∧ v.1 = ks[c] ∧ v.1 ≠ 0 ∧ p = ⟨1, c, o, 0, v, []⟩) ∨
  (∃ (a b : Nat) (o : Int) (ha : a < ks.length) (hb : b < ks.length), 1 ≤ o ∧ o ≤ 6 ∧ ks[a] = ks[b] ∧ p = ⟨2, a, o, b, nul, []⟩) ∨
  ∃ c : Nat, c < ks.length ∧ p = ⟨3, c, 0, 0, nul, []⟩
def MkP (ok : Val → Prop) (ks : List Int) : Nat → Pd → Prop
  | 0, p => LeafP ks p ∧ (p.k = 1 → ok p.v)
  | n + 1, p => (LeafP ks p ∧ (p.k = 1 → ok p.v)) ∨ (∃ q, p = ⟨6, 0, 0, 0, nul, [q]⟩ ∧ MkP ok ks n q) ∨ ∃ k l, p = ⟨k, 0, 0, 0, nul, l⟩ ∧ (k = 4 ∨ k = 5) ∧ 2 ≤ l.length ∧ l.length ≤ 3 ∧ ∀ q ∈ l, MkP ok ks n q
theorem MkP.leaf {ok : Val → Prop} {ks : List Int} {n : Nat} {p : Pd} (h : LeafP ks p) (h' : p.k = 1 → ok p.v) : MkP ok ks n p := by
  cases n with
  | zero => exact ⟨h, h'⟩
  | succ n => exact .inl ⟨h, h'⟩
/-- It asks columns that there are alone. -/
theorem MkP.cols {ok : Val → Prop} {ks : List Int} : ∀ {n : Nat} {p : Pd}, MkP ok ks n p → ∀ c ∈ csP p, 0 ≤ c ∧ c < (ks.length : Int) := by
  have leaf : ∀ p, LeafP ks p → ∀ c ∈ csP p, 0 ≤ c ∧ c < (ks.length : Int) := by
    intro p h c hc
    rcases h with ⟨i, o, v, hi, _, _, _, _, rfl⟩ | ⟨i, j, o, hi, hj, _, _, _, rfl⟩ | ⟨i, hi, rfl⟩
    · rw [csP] at hc; simp at hc; omega
    · rw [csP] at hc; simp at hc; omega
    · rw [csP] at hc; simp at hc; omega
  intro n
  induction n with
  | zero => intro p h; exact leaf p h.1
  | succ n ih =>
    intro p h c hc
    rcases h with h | ⟨q, rfl, hq⟩ | ⟨k, l, rfl, hk, _, _, hl⟩
    · exact leaf p h.1 c hc
    · rw [csP] at hc; simp at hc; exact ih hq c hc
    · rw [csP, if_neg (by omega), if_neg (by omega), if_pos hk] at hc
      simp only [List.mem_flatten, List.mem_map] at hc
      obtain ⟨_, ⟨q, hq, rfl⟩, hc⟩ := hc
      exact ih (hl q hq) c hc
theorem colR_map {cols : List Int} {r : List Val} {c : Int} (h0 : 0 ≤ c) (h1 : c < (cols.length : Int)) : colR r (mpC cols c) = colR (cols.map (colR r)) c := by
  have hl : c.toNat < cols.length := by omega
  unfold mpC
  rw [if_pos h0]
  show _ = (if 0 ≤ c then _ else _)
  rw [if_pos h0, List.getD_eq_getElem?_getD, List.getD_eq_getElem?_getD, List.getElem?_map, List.getElem?_eq_getElem hl]
  rfl
/-- A predicate by other columns holds of a row just where it holds of those columns picked. -/
theorem hd_map (cols : List Int) (r : List Val) : ∀ p : Pd, (∀ c ∈ csP p, 0 ≤ c ∧ c < (cols.length : Int)) → hd (mpP cols p) r = hd p (cols.map (colR r)) := by
  intro p
  induction p using Pd.ind with
  | h k c o d v l ih =>
  intro hc
  rw [mpP]
  by_cases h1 : k = 1
  · subst h1
    have := hc c (by rw [csP]; simp)
    rw [if_pos rfl, hd, hd, if_pos rfl, if_pos rfl, colR_map this.1 this.2]
  by_cases h2 : k = 2
  · subst h2
    have a1 := hc c (by rw [csP]; simp)
    have a2 := hc d (by rw [csP]; simp)
    rw [if_neg (by omega), if_pos rfl, hd, hd, if_neg (by omega), if_pos rfl, if_neg (by omega), if_pos rfl, colR_map a1.1 a1.2, colR_map a2.1 a2.2]
  by_cases h3 : k = 3
  · subst h3
    have := hc c (by rw [csP]; simp)
    rw [if_neg (by omega), if_neg (by omega), if_pos rfl, hd, hd, if_neg (by omega), if_neg (by omega), if_pos rfl, if_neg (by omega), if_neg (by omega), if_pos rfl, colR_map this.1 this.2]
  by_cases h45 : k = 4 ∨ k = 5
  · have hq : l.map (fun q => hd (mpP cols q) r) = l.map fun q => hd q (cols.map (colR r)) := by
      apply List.map_congr_left
      intro q hq
      refine ih q hq fun x hx => hc x ?_
      rw [csP, if_neg (by omega), if_neg h2, if_pos h45]
      exact List.mem_flatten.2 ⟨_, List.mem_map.2 ⟨q, hq, rfl⟩, hx⟩
    rw [if_neg h1, if_neg h2, if_neg h3, if_pos (by omega), hd, hd, List.map_map, show ((fun q => hd q r) ∘ fun q => mpP cols q) = fun q => hd (mpP cols q) r from rfl, hq]
    simp only [if_neg h1, if_neg h2, if_neg h3]
  by_cases h6 : k = 6
  · subst h6
    rw [if_neg (by omega), if_neg (by omega), if_neg (by omega), if_pos (by omega), hd, hd]
    rw [if_neg (by omega), if_neg (by omega), if_neg (by omega), if_neg (by omega), if_neg (by omega), if_pos rfl, if_neg (by omega), if_neg (by omega), if_neg (by omega), if_neg (by omega), if_neg (by omega), if_pos rfl]
    cases l with
    | nil => rfl
    | cons q l =>
      have := ih q (by simp) fun x hx => hc x (by rw [csP]; simp; exact hx)
      simp only [List.map_cons, notB, this]
  · rw [if_neg h1, if_neg h2, if_neg h3, if_neg (by omega), hd, hd]
    simp [h1, h2, h3, h6, show ¬ k = 4 by omega, show ¬ k = 5 by omega]
/-- The columns that it asks then. -/
theorem csP_map (cols : List Int) : ∀ p : Pd, csP (mpP cols p) = (csP p).map (mpC cols) := by
  intro p
  induction p using Pd.ind with
  | h k c o d v l ih =>
  have hq : (l.map fun q => csP (mpP cols q)) = l.map fun q => (csP q).map (mpC cols) := List.map_congr_left fun q hq => ih q hq
  rw [mpP, csP]
  by_cases h1 : k = 1
  · subst h1; simp [csP]
  by_cases h2 : k = 2
  · subst h2; simp [csP]
  by_cases h3 : k = 3
  · subst h3; simp [csP]
  by_cases h45 : k = 4 ∨ k = 5
  · rw [if_neg h1, if_neg h2, if_neg h3, if_pos (by omega), csP]
    simp only [show ¬ (k = 1 ∨ k = 3) by omega, h2, h45, if_true, if_false]
    rw [List.map_map, show ((fun q => csP q) ∘ fun q => mpP cols q) = fun q => csP (mpP cols q) from rfl, hq, List.map_flatten, List.map_map]
    rfl
  by_cases h6 : k = 6
  · subst h6
    rw [if_neg (by omega), if_neg (by omega), if_neg (by omega), if_pos (by omega), csP]
    rw [if_neg (by omega), if_neg (by omega), if_neg (by omega), if_pos rfl, if_neg (by omega), if_neg (by omega), if_neg (by omega), if_pos rfl]
    rw [List.map_map, show ((fun q => csP q) ∘ fun q => mpP cols q) = fun q => csP (mpP cols q) from rfl, hq, List.map_flatten, List.map_take, List.map_map]
    rfl
  · rw [if_neg h1, if_neg h2, if_neg h3, if_neg (by omega), csP]
    simp [h1, h2, h3, h6, show ¬ k = 4 by omega, show ¬ k = 5 by omega]
theorem mpC_mem {cols : List Int} {c : Int} (h0 : 0 ≤ c) (h1 : c < (cols.length : Int)) : mpC cols c ∈ cols := by
  have hl : c.toNat < cols.length := by omega
  unfold mpC
  rw [if_pos h0, List.getD_eq_getElem?_getD, List.getElem?_eq_getElem hl]
  exact List.getElem_mem hl
end Go.Proofs.YtiphnbpkliglcaaDoor
