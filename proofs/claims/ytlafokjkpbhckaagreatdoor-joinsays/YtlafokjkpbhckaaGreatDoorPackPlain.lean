/- Texts of one claim, one behind the other. -/
import GoSem.Op.String
import Derived.Lib.Strings
/- Plain facts on the order of numbers, of texts and of values, without the program. -/
namespace Go.Proofs.YtlafokjkpbhckaaGreatDoor

def cI (a b : Int) : Int := if a < b then -1 else if b < a then 1 else 0
def cS (a b : ByteArray) : Int := if Op.bytesLess a.toList b.toList = true then -1 else if a.toList = b.toList then 0 else 1
/-- A value's order: by kind, then by number, then by text. -/
def cV (k n : Int) (s : ByteArray) (k' n' : Int) (s' : ByteArray) : Int := if cI k k' = 0 then (if cI n n' = 0 then cS s s' else cI n n') else cI k k'

theorem bl_irrefl : ∀ a : List UInt8, Op.bytesLess a a = false
  | [] => rfl
  | a :: x => by simp [Op.bytesLess, bl_irrefl x]
theorem bl_trans : ∀ a b c : List UInt8, Op.bytesLess a b = true → Op.bytesLess b c = true → Op.bytesLess a c = true
  | _, [], _, h, _ => by simp [Op.bytesLess] at h
  | _, _ :: _, [], _, h => by simp [Op.bytesLess] at h
  | [], _ :: _, _ :: _, _, _ => by simp [Op.bytesLess]
  | a :: x, b :: y, c :: z, h, k => by
    simp only [Op.bytesLess, Bool.or_eq_true, decide_eq_true_eq, Bool.and_eq_true, beq_iff_eq] at h k ⊢
    rcases h with h | ⟨rfl, h⟩
    · rcases k with k | ⟨rfl, k⟩
      · exact Or.inl (UInt8.lt_trans h k)
      · exact Or.inl h
    · rcases k with k | ⟨rfl, k⟩
      · exact Or.inl k
      · exact Or.inr ⟨rfl, bl_trans x y z h k⟩
theorem bl_total : ∀ a b : List UInt8, Op.bytesLess a b = false → Op.bytesLess b a = false → a = b
  | [], [], _, _ => rfl
  | [], _ :: _, h, _ => by simp [Op.bytesLess] at h
  | _ :: _, [], _, h => by simp [Op.bytesLess] at h
  | a :: x, b :: y, h, k => by
    simp only [Op.bytesLess, Bool.or_eq_false_iff, decide_eq_false_iff_not, Bool.and_eq_false_iff, beq_eq_false_iff_ne] at h k
    have e : a = b := by
      have h1 := h.1; have k1 := k.1
      rw [UInt8.lt_iff_toNat_lt] at h1 k1
      exact UInt8.toNat_inj.1 (by omega)
    subst e
    have := bl_total x y (by simpa using h.2) (by simpa using k.2)
    rw [this]
theorem bl_asymm {a b : List UInt8} (h : Op.bytesLess a b = true) : Op.bytesLess b a = false := by
  cases k : Op.bytesLess b a
  · rfl
  · have := bl_trans a b a h k
    rw [bl_irrefl] at this; cases this
theorem bl_ne {a b : List UInt8} (h : Op.bytesLess a b = true) : a ≠ b := by
  rintro rfl; rw [bl_irrefl] at h; cases h
theorem toList_inj {a b : ByteArray} (h : a.toList = b.toList) : a = b := by
  rw [Lib.toList_data, Lib.toList_data] at h
  cases a; cases b
  simp only [ByteArray.mk.injEq]
  exact Array.toList_inj.1 h

theorem cI_anti (a b : Int) : cI b a = - cI a b := by unfold cI; repeat' split <;> omega
theorem cI_zero (a b : Int) : cI a b = 0 ↔ a = b := by unfold cI; repeat' split <;> omega
theorem cI_sq (a b : Int) : -1 ≤ cI a b ∧ cI a b ≤ 1 := by unfold cI; repeat' split <;> omega

theorem cS_anti (a b : ByteArray) : cS b a = - cS a b := by
  unfold cS
  by_cases h : Op.bytesLess a.toList b.toList = true
  · have h1 := bl_asymm h; have h2 := bl_ne h; have h3 : ¬ b.toList = a.toList := fun e => h2 e.symm
    simp [h, h1, h3]
  · have h' : Op.bytesLess a.toList b.toList = false := by simpa using h
    by_cases e : a.toList = b.toList
    · simp [e, bl_irrefl]
    · have h1 : Op.bytesLess b.toList a.toList = true := by
        cases k : Op.bytesLess b.toList a.toList
        · exact absurd (bl_total _ _ h' k) e
        · rfl
      simp [h', e, h1]
theorem cS_zero (a b : ByteArray) : cS a b = 0 ↔ a = b := by
  unfold cS
  constructor
  · intro h
    split at h
    · omega
    · split at h
      · exact toList_inj ‹_›
      · omega
  · rintro rfl; simp [bl_irrefl]
theorem cS_sq (a b : ByteArray) : -1 ≤ cS a b ∧ cS a b ≤ 1 := by unfold cS; repeat' split <;> omega
/-- At most: it goes on. -/
theorem cS_trans (a b c : ByteArray) (h : cS a b ≤ 0) (k : cS b c ≤ 0) : cS a c ≤ 0 := by
  by_cases e1 : a = b
  · subst e1; exact k
  by_cases e2 : b = c
  · subst e2; exact h
  have n1 : cS a b ≠ 0 := fun h => e1 ((cS_zero _ _).1 h)
  have n2 : cS b c ≠ 0 := fun h => e2 ((cS_zero _ _).1 h)
  have l1 : Op.bytesLess a.toList b.toList = true := by
    unfold cS at h n1; split at h
    · assumption
    · split at h <;> simp_all
  have l2 : Op.bytesLess b.toList c.toList = true := by
    unfold cS at k n2; split at k
    · assumption
    · split at k <;> simp_all
  simp [cS, bl_trans _ _ _ l1 l2]

theorem cV_anti (k n : Int) (s : ByteArray) (k' n' : Int) (s' : ByteArray) : cV k' n' s' k n s = - cV k n s k' n' s' := by
  unfold cV
  rw [cI_anti k k', cI_anti n n', cS_anti s s']
  repeat' split <;> omega
theorem cV_zero (k n : Int) (s : ByteArray) (k' n' : Int) (s' : ByteArray) : cV k n s k' n' s' = 0 ↔ k = k' ∧ n = n' ∧ s = s' := by
  unfold cV
  rw [← cI_zero k k', ← cI_zero n n', ← cS_zero s s']
  by_cases h1 : cI k k' = 0 <;> by_cases h2 : cI n n' = 0 <;> simp [h1, h2]
theorem cV_sq (k n : Int) (s : ByteArray) (k' n' : Int) (s' : ByteArray) : -1 ≤ cV k n s k' n' s' ∧ cV k n s k' n' s' ≤ 1 := by
  have h1 := cI_sq k k'; have h2 := cI_sq n n'; have h3 := cS_sq s s'
  unfold cV
  repeat' split <;> omega
theorem cI_neg (a b : Int) : cI a b < 0 ↔ a < b := by unfold cI; repeat' split <;> omega
theorem cV_le (k n : Int) (s : ByteArray) (k' n' : Int) (s' : ByteArray) : cV k n s k' n' s' ≤ 0 ↔ k < k' ∨ (k = k' ∧ (n < n' ∨ (n = n' ∧ cS s s' ≤ 0))) := by
  have h1 := cI_neg k k'; have h2 := cI_neg n n'; have h3 := cI_zero k k'; have h4 := cI_zero n n'
  unfold cV
  split
  · split <;> omega
  · omega
theorem cV_trans (k n : Int) (s : ByteArray) (k' n' : Int) (s' : ByteArray) (k'' n'' : Int) (s'' : ByteArray) (h : cV k n s k' n' s' ≤ 0) (g : cV k' n' s' k'' n'' s'' ≤ 0) : cV k n s k'' n'' s'' ≤ 0 := by
  have t := cS_trans s s' s''
  rw [cV_le] at h g ⊢
  omega
end Go.Proofs.YtlafokjkpbhckaaGreatDoor
/- Plain facts on the order of rows, without the program. -/
namespace Go.Proofs.YtlafokjkpbhckaaGreatDoor

/-- A value: its kind, its number, its text. -/
abbrev Val := Int × Int × ByteArray
def cVal (a b : Val) : Int := cV a.1 a.2.1 a.2.2 b.1 b.2.1 b.2.2
theorem cVal_anti (a b : Val) : cVal b a = - cVal a b := cV_anti _ _ _ _ _ _
theorem cVal_zero (a b : Val) : cVal a b = 0 ↔ a = b := by
  unfold cVal
  rw [cV_zero]
  obtain ⟨a1, a2, a3⟩ := a; obtain ⟨b1, b2, b3⟩ := b
  simp
theorem cVal_sq (a b : Val) : -1 ≤ cVal a b ∧ cVal a b ≤ 1 := cV_sq _ _ _ _ _ _
theorem cVal_trans (a b c : Val) (h : cVal a b ≤ 0) (g : cVal b c ≤ 0) : cVal a c ≤ 0 := cV_trans _ _ _ _ _ _ _ _ _ h g
theorem cVal_lt_trans (a b c : Val) (h : cVal a b < 0) (g : cVal b c ≤ 0) : cVal a c < 0 := by
  have h1 := cVal_trans a b c (by omega) g
  have h2 := cVal_zero a c
  by_cases e : cVal a c = 0
  · have := h2.1 e; subst this
    have := cVal_anti a b; omega
  · omega
theorem cVal_lt_trans' (a b c : Val) (h : cVal a b ≤ 0) (g : cVal b c < 0) : cVal a c < 0 := by
  have h1 := cVal_trans a b c h (by omega)
  have h2 := cVal_zero a c
  by_cases e : cVal a c = 0
  · have := h2.1 e; subst this
    have := cVal_anti a b; omega
  · omega

/-- Rows' order: value by value; a row that has no more is less. -/
def cR : List Val → List Val → Int
  | [], [] => 0
  | [], _ :: _ => -1
  | _ :: _, [] => 1
  | a :: l, b :: m => if cVal a b = 0 then cR l m else cVal a b
theorem cR_self : ∀ l, cR l l = 0
  | [] => rfl
  | a :: l => by rw [cR, if_pos ((cVal_zero a a).2 rfl), cR_self l]
theorem cR_anti : ∀ l m, cR m l = - cR l m
  | [], [] => rfl
  | [], _ :: _ => rfl
  | _ :: _, [] => rfl
  | a :: l, b :: m => by
    have h := cVal_anti a b
    simp only [cR]
    rw [cR_anti l m, h]
    by_cases e : cVal a b = 0
    · simp [e]
    · rw [if_neg (by omega), if_neg e]
theorem cR_zero : ∀ l m, cR l m = 0 ↔ l = m
  | [], [] => by simp [cR]
  | [], _ :: _ => by simp [cR]
  | _ :: _, [] => by simp [cR]
  | a :: l, b :: m => by
    have h := cVal_zero a b
    simp only [cR]
    by_cases e : cVal a b = 0
    · rw [if_pos e, cR_zero l m, h.1 e]; simp
    · rw [if_neg e]
      constructor
      · intro h; exact absurd h e
      · intro h'; exact absurd (h.2 (List.cons.inj h').1) e
theorem cR_sq : ∀ l m, -1 ≤ cR l m ∧ cR l m ≤ 1
  | [], [] => by simp [cR]
  | [], _ :: _ => by simp [cR]
  | _ :: _, [] => by simp [cR]
  | a :: l, b :: m => by
    have h := cVal_sq a b; have h' := cR_sq l m
    simp only [cR]; split <;> omega
theorem cR_trans : ∀ l m n, cR l m ≤ 0 → cR m n ≤ 0 → cR l n ≤ 0
  | [], [], n, _, h => h
  | [], _ :: _, [], _, h => by simp [cR] at h
  | [], _ :: _, _ :: _, _, _ => by simp [cR]
  | _ :: _, [], _, h, _ => by simp [cR] at h
  | _ :: _, _ :: _, [], _, h => by simp [cR] at h
  | a :: l, b :: m, c :: n, h, g => by
    have t := cR_trans l m n
    have z1 := cVal_zero a b; have z2 := cVal_zero b c; have z3 := cVal_zero a c
    have t1 := cVal_lt_trans a b c; have t2 := cVal_lt_trans' a b c
    simp only [cR] at h g ⊢
    by_cases e1 : cVal a b = 0
    · rw [if_pos e1] at h
      have ab := z1.1 e1; subst ab
      by_cases e2 : cVal a c = 0
      · rw [if_pos e2] at g ⊢; exact t h g
      · rw [if_neg e2] at g ⊢; exact g
    · rw [if_neg e1] at h
      by_cases e2 : cVal b c = 0
      · have bc := z2.1 e2; subst bc
        rw [if_neg e1]; exact h
      · rw [if_neg e2] at g
        have := t1 (by omega) (by omega)
        rw [if_neg (by omega)]; omega
/-- What a row begins with is less than it. -/
theorem cR_prefix : ∀ l x m, cR l (l ++ x :: m) = -1
  | [], _, _ => rfl
  | a :: l, x, m => by
    simp only [List.cons_append, cR]; rw [if_pos ((cVal_zero a a).2 rfl), cR_prefix l x m]
/-- Rows that are alike so far go on. -/
theorem cR_step {l m : List Val} {i : Nat} (h1 : i < l.length) (h2 : i < m.length) : cR (l.drop i) (m.drop i) = if cVal l[i] m[i] = 0 then cR (l.drop (i + 1)) (m.drop (i + 1)) else cVal l[i] m[i] := by
  rw [List.drop_eq_getElem_cons h1, List.drop_eq_getElem_cons h2]; rfl
theorem cR_end {l m : List Val} {i : Nat} (h : l.length ≤ i ∨ m.length ≤ i) (h1 : i ≤ l.length) (h2 : i ≤ m.length) : cR (l.drop i) (m.drop i) = if l.length < m.length then -1 else if m.length < l.length then 1 else 0 := by
  by_cases e1 : l.length = i
  · rw [List.drop_of_length_le (Nat.le_of_eq e1)]
    by_cases e2 : m.length = i
    · rw [List.drop_of_length_le (Nat.le_of_eq e2)]; simp [cR]; omega
    · rw [List.drop_eq_getElem_cons (by omega), if_pos (by omega)]; rfl
  · have e2 : m.length = i := by omega
    rw [List.drop_of_length_le (l := m) (Nat.le_of_eq e2), List.drop_eq_getElem_cons (by omega), if_neg (by omega), if_pos (by omega)]; rfl
end Go.Proofs.YtlafokjkpbhckaaGreatDoor
/- Predicates plainly: what they hold of, what they ask, with other columns in their places. -/
namespace Go.Proofs.YtlafokjkpbhckaaGreatDoor
set_option linter.unusedVariables false

abbrev nul : Val := (0, 0, ⟨#[]⟩)
/-- A predicate: its kind, its column, its sign, its other column, its constant, its parts. -/
structure Pd where
  k : Int
  c : Int
  o : Int
  d : Int
  v : Val
  l : List Pd
theorem Pd.ind {P : Pd → Prop} (h : ∀ k c o d v l, (∀ q ∈ l, P q) → P ⟨k, c, o, d, v, l⟩) : ∀ p, P p
  | ⟨k, c, o, d, v, l⟩ => h k c o d v l (fun q _ => Pd.ind h q)
/-- A row's column; one that is none is Null. -/
def colR (r : List Val) (c : Int) : Val := if 0 ≤ c then r.getD c.toNat nul else nul
/-- How two values stand to each other. -/
def agO (o c : Int) : Bool :=
  if o = 1 then decide (c = 0) else if o = 2 then !decide (c = 0) else if o = 3 then decide (c < 0) else if o = 4 then decide (c ≤ 0) else if o = 5 then decide (0 < c) else if o = 6 then decide (0 ≤ c) else false
def ag (a : Val) (o : Int) (b : Val) : Bool := if a.1 = b.1 ∧ a.1 ≠ 0 then agO o (cVal a b) else false
def notB : List Bool → Bool
  | [] => false
  | b :: _ => !b
/-- Does it hold of the row? -/
def hd : Pd → List Val → Bool
  | ⟨k, c, o, d, v, l⟩, r =>
    if k = 1 then ag (colR r c) o v
    else if k = 2 then ag (colR r c) o (colR r d)
    else if k = 3 then decide ((colR r c).1 = 0)
    else if k = 4 then (l.map fun q => hd q r).all id
    else if k = 5 then (l.map fun q => hd q r).any id
    else if k = 6 then notB (l.map fun q => hd q r)
    else false
theorem hd_eq (p : Pd) (r : List Val) : hd p r = if p.k = 1 then ag (colR r p.c) p.o p.v else if p.k = 2 then ag (colR r p.c) p.o (colR r p.d) else if p.k = 3 then decide ((colR r p.c).1 = 0) else if p.k = 4 then (p.l.map fun q => hd q r).all id else if p.k = 5 then (p.l.map fun q => hd q r).any id else if p.k = 6 then notB (p.l.map fun q => hd q r) else false := by
  obtain ⟨k, c, o, d, v, l⟩ := p
  rw [hd]
/-- The columns that it asks, its parts aside; the parts that it asks. -/
def askP (p : Pd) : List Int := if p.k = 1 ∨ p.k = 3 then [p.c] else if p.k = 2 then [p.c, p.d] else []
def ptsP (p : Pd) : List Pd := if p.k = 4 ∨ p.k = 5 then p.l else if p.k = 6 then p.l.take 1 else []
/-- All columns that it asks, as they come. -/
def csP : Pd → List Int
  | ⟨k, c, o, d, v, l⟩ =>
    if k = 1 ∨ k = 3 then [c] else if k = 2 then [c, d]
    else if k = 4 ∨ k = 5 then (l.map fun q => csP q).flatten
    else if k = 6 then ((l.map fun q => csP q).take 1).flatten
    else []
theorem csP_eq (p : Pd) : csP p = askP p ++ ((ptsP p).map csP).flatten := by
  obtain ⟨k, c, o, d, v, l⟩ := p
  rw [csP]
  unfold askP ptsP
  by_cases h1 : k = 1 ∨ k = 3
  · have h4 : ¬ (k = 4 ∨ k = 5) := by omega
    have h6 : ¬ k = 6 := by omega
    simp [h1, h4, h6]
  by_cases h2 : k = 2
  · subst h2; simp
  by_cases h4 : k = 4 ∨ k = 5
  · simp [h1, h2, h4]
  by_cases h6 : k = 6
  · subst h6; simp [List.map_take]
  · simp [h1, h2, h4, h6]
/-- A column in the place of another one; one that is none stays. -/
def mpC (cols : List Int) (c : Int) : Int := if 0 ≤ c then cols.getD c.toNat c else c
/-- A predicate by other columns. -/
def mpP (cols : List Int) : Pd → Pd
  | ⟨k, c, o, d, v, l⟩ =>
    if k = 1 then ⟨1, mpC cols c, o, 0, v, []⟩
    else if k = 2 then ⟨2, mpC cols c, o, mpC cols d, nul, []⟩
    else if k = 3 then ⟨3, mpC cols c, 0, 0, nul, []⟩
    else if k = 4 ∨ k = 5 ∨ k = 6 then ⟨k, 0, 0, 0, nul, l.map fun q => mpP cols q⟩
    else ⟨k, 0, 0, 0, nul, []⟩
theorem mpP_eq (cols : List Int) (p : Pd) : mpP cols p = if p.k = 1 then ⟨1, mpC cols p.c, p.o, 0, p.v, []⟩ else if p.k = 2 then ⟨2, mpC cols p.c, p.o, mpC cols p.d, nul, []⟩ else if p.k = 3 then ⟨3, mpC cols p.c, 0, 0, nul, []⟩ else if p.k = 4 ∨ p.k = 5 ∨ p.k = 6 then ⟨p.k, 0, 0, 0, nul, p.l.map fun q => mpP cols q⟩ else ⟨p.k, 0, 0, 0, nul, []⟩ := by
  obtain ⟨k, c, o, d, v, l⟩ := p
  rw [mpP]
/-- A predicate that is made for columns' kinds: no deeper than that. -/
def LeafP (ks : List Int) (p : Pd) : Prop :=
  (∃ (c : Nat) (o : Int) (v : Val) (hc : c < ks.length), 1 ≤ o ∧ o ≤ 6 ∧ v.1 = ks[c] ∧ v.1 ≠ 0 ∧ p = ⟨1, c, o, 0, v, []⟩) ∨
  (∃ (a b : Nat) (o : Int) (ha : a < ks.length) (hb : b < ks.length), 1 ≤ o ∧ o ≤ 6 ∧ ks[a] = ks[b] ∧ p = ⟨2, a, o, b, nul, []⟩) ∨
  ∃ c : Nat, c < ks.length ∧ p = ⟨3, c, 0, 0, nul, []⟩
def MkP (ok : Val → Prop) (ks : List Int) : Nat → Pd → Prop
  | 0, p => LeafP ks p ∧ (p.k = 1 → ok p.v)
  | n + 1, p => (LeafP ks p ∧ (p.k = 1 → ok p.v)) ∨ (∃ q, p = ⟨6, 0, 0, 0, nul, [q]⟩ ∧ MkP ok ks n q) ∨ ∃ k l, p = ⟨k, 0, 0, 0, nul, l⟩ ∧ (k = 4 ∨ k = 5) ∧ 2 ≤ l.length ∧ l.length ≤ 3 ∧ ∀ q ∈ l, MkP ok ks n q
theorem MkP.leaf {ok : Val → Prop} {ks : List Int} {n : Nat} {p : Pd} (h : LeafP ks p) (h' : p.k = 1 → ok p.v) : MkP ok ks n p := by
  cases n with
  | zero => exact ⟨h, h'⟩
  | succ n => exact .inl ⟨h, h'⟩
/-- It asks columns that there are alone. -/
theorem MkP.cols {ok : Val → Prop} {ks : List Int} : ∀ {n : Nat} {p : Pd}, MkP ok ks n p → ∀ c ∈ csP p, 0 ≤ c ∧ c < (ks.length : Int) := by
  have leaf : ∀ p, LeafP ks p → ∀ c ∈ csP p, 0 ≤ c ∧ c < (ks.length : Int) := by
    intro p h c hc
    rcases h with ⟨i, o, v, hi, _, _, _, _, rfl⟩ | ⟨i, j, o, hi, hj, _, _, _, rfl⟩ | ⟨i, hi, rfl⟩
    · rw [csP] at hc; simp at hc; omega
    · rw [csP] at hc; simp at hc; omega
    · rw [csP] at hc; simp at hc; omega
  intro n
  induction n with
  | zero => intro p h; exact leaf p h.1
  | succ n ih =>
    intro p h c hc
    rcases h with h | ⟨q, rfl, hq⟩ | ⟨k, l, rfl, hk, _, _, hl⟩
    · exact leaf p h.1 c hc
    · rw [csP] at hc; simp at hc; exact ih hq c hc
    · rw [csP, if_neg (by omega), if_neg (by omega), if_pos hk] at hc
      simp only [List.mem_flatten, List.mem_map] at hc
      obtain ⟨_, ⟨q, hq, rfl⟩, hc⟩ := hc
      exact ih (hl q hq) c hc
theorem colR_map {cols : List Int} {r : List Val} {c : Int} (h0 : 0 ≤ c) (h1 : c < (cols.length : Int)) : colR r (mpC cols c) = colR (cols.map (colR r)) c := by
  have hl : c.toNat < cols.length := by omega
  unfold mpC
  rw [if_pos h0]
  show _ = (if 0 ≤ c then _ else _)
  rw [if_pos h0, List.getD_eq_getElem?_getD, List.getD_eq_getElem?_getD, List.getElem?_map, List.getElem?_eq_getElem hl]
  rfl
/-- A predicate by other columns holds of a row just where it holds of those columns picked. -/
theorem hd_map (cols : List Int) (r : List Val) : ∀ p : Pd, (∀ c ∈ csP p, 0 ≤ c ∧ c < (cols.length : Int)) → hd (mpP cols p) r = hd p (cols.map (colR r)) := by
  intro p
  induction p using Pd.ind with
  | h k c o d v l ih =>
  intro hc
  rw [mpP]
  by_cases h1 : k = 1
  · subst h1
    have := hc c (by rw [csP]; simp)
    rw [if_pos rfl, hd, hd, if_pos rfl, if_pos rfl, colR_map this.1 this.2]
  by_cases h2 : k = 2
  · subst h2
    have a1 := hc c (by rw [csP]; simp)
    have a2 := hc d (by rw [csP]; simp)
    rw [if_neg (by omega), if_pos rfl, hd, hd, if_neg (by omega), if_pos rfl, if_neg (by omega), if_pos rfl, colR_map a1.1 a1.2, colR_map a2.1 a2.2]
  by_cases h3 : k = 3
  · subst h3
    have := hc c (by rw [csP]; simp)
    rw [if_neg (by omega), if_neg (by omega), if_pos rfl, hd, hd, if_neg (by omega), if_neg (by omega), if_pos rfl, if_neg (by omega), if_neg (by omega), if_pos rfl, colR_map this.1 this.2]
  by_cases h45 : k = 4 ∨ k = 5
  · have hq : l.map (fun q => hd (mpP cols q) r) = l.map fun q => hd q (cols.map (colR r)) := by
      apply List.map_congr_left
      intro q hq
      refine ih q hq fun x hx => hc x ?_
      rw [csP, if_neg (by omega), if_neg h2, if_pos h45]
      exact List.mem_flatten.2 ⟨_, List.mem_map.2 ⟨q, hq, rfl⟩, hx⟩
    rw [if_neg h1, if_neg h2, if_neg h3, if_pos (by omega), hd, hd, List.map_map, show ((fun q => hd q r) ∘ fun q => mpP cols q) = fun q => hd (mpP cols q) r from rfl, hq]
    simp only [if_neg h1, if_neg h2, if_neg h3]
  by_cases h6 : k = 6
  · subst h6
    rw [if_neg (by omega), if_neg (by omega), if_neg (by omega), if_pos (by omega), hd, hd]
    rw [if_neg (by omega), if_neg (by omega), if_neg (by omega), if_neg (by omega), if_neg (by omega), if_pos rfl, if_neg (by omega), if_neg (by omega), if_neg (by omega), if_neg (by omega), if_neg (by omega), if_pos rfl]
    cases l with
    | nil => rfl
    | cons q l =>
      have := ih q (by simp) fun x hx => hc x (by rw [csP]; simp; exact hx)
      simp only [List.map_cons, notB, this]
  · rw [if_neg h1, if_neg h2, if_neg h3, if_neg (by omega), hd, hd]
    simp [h1, h2, h3, h6, show ¬ k = 4 by omega, show ¬ k = 5 by omega]
/-- The columns that it asks then. -/
theorem csP_map (cols : List Int) : ∀ p : Pd, csP (mpP cols p) = (csP p).map (mpC cols) := by
  intro p
  induction p using Pd.ind with
  | h k c o d v l ih =>
  have hq : (l.map fun q => csP (mpP cols q)) = l.map fun q => (csP q).map (mpC cols) := List.map_congr_left fun q hq => ih q hq
  rw [mpP, csP]
  by_cases h1 : k = 1
  · subst h1; simp [csP]
  by_cases h2 : k = 2
  · subst h2; simp [csP]
  by_cases h3 : k = 3
  · subst h3; simp [csP]
  by_cases h45 : k = 4 ∨ k = 5
  · rw [if_neg h1, if_neg h2, if_neg h3, if_pos (by omega), csP]
    simp only [show ¬ (k = 1 ∨ k = 3) by omega, h2, h45, if_true, if_false]
    rw [List.map_map, show ((fun q => csP q) ∘ fun q => mpP cols q) = fun q => csP (mpP cols q) from rfl, hq, List.map_flatten, List.map_map]
    rfl
  by_cases h6 : k = 6
  · subst h6
    rw [if_neg (by omega), if_neg (by omega), if_neg (by omega), if_pos (by omega), csP]
    rw [if_neg (by omega), if_neg (by omega), if_neg (by omega), if_pos rfl, if_neg (by omega), if_neg (by omega), if_neg (by omega), if_pos rfl]
    rw [List.map_map, show ((fun q => csP q) ∘ fun q => mpP cols q) = fun q => csP (mpP cols q) from rfl, hq, List.map_flatten, List.map_take, List.map_map]
    rfl
  · rw [if_neg h1, if_neg h2, if_neg h3, if_neg (by omega), csP]
    simp [h1, h2, h3, h6, show ¬ k = 4 by omega, show ¬ k = 5 by omega]
theorem mpC_mem {cols : List Int} {c : Int} (h0 : 0 ≤ c) (h1 : c < (cols.length : Int)) : mpC cols c ∈ cols := by
  have hl : c.toNat < cols.length := by omega
  unfold mpC
  rw [if_pos h0, List.getD_eq_getElem?_getD, List.getElem?_eq_getElem hl]
  exact List.getElem_mem hl
end Go.Proofs.YtlafokjkpbhckaaGreatDoor
/- Entries and z-sets, plainly: rows in order, each once, with the sum of its weights. -/
namespace Go.Proofs.YtlafokjkpbhckaaGreatDoor
set_option maxRecDepth 100000

abbrev Ent := List Val × Int
/-- A row's weights together. -/
def wt (r : List Val) : List Ent → Int
  | [] => 0
  | e :: l => (if e.1 = r then e.2 else 0) + wt r l
/-- One more entry into a list in order. -/
def ins (r : List Val) (k : Int) : List Ent → List Ent
  | [] => [(r, k)]
  | e :: z => if cR e.1 r < 0 then e :: ins r k z else if cR e.1 r = 0 then (e.1, e.2 + k) :: z else (r, k) :: e :: z
def gat (l : List Ent) : List Ent := l.foldl (fun z e => ins e.1 e.2 z) []
def SortedZ (z : List Ent) : Prop := z.Pairwise fun a b => cR a.1 b.1 < 0
theorem cR_lt_trans {a b c : List Val} (h : cR a b < 0) (g : cR b c < 0) : cR a c < 0 := by
  have h1 := cR_trans a b c (by omega) (by omega)
  rcases Int.lt_or_eq_of_le h1 with h2 | h2
  · exact h2
  · have e := (cR_zero a c).1 h2
    subst e
    have := cR_anti a b
    omega
theorem cR_pos {a b : List Val} : 0 < cR a b ↔ cR b a < 0 := by have := cR_anti a b; omega
theorem mem_ins {r : List Val} {k : Int} {e : Ent} : ∀ {z : List Ent}, e ∈ ins r k z → e.1 = r ∨ ∃ e' ∈ z, e'.1 = e.1
  | [], h => by simp [ins] at h; exact .inl (by rw [h])
  | x :: z, h => by
    unfold ins at h
    split at h
    · rcases List.mem_cons.1 h with rfl | h
      · exact .inr ⟨e, by simp, rfl⟩
      · rcases mem_ins h with h | ⟨e', h1, h2⟩
        · exact .inl h
        · exact .inr ⟨e', by simp [h1], h2⟩
    · split at h
      · rcases List.mem_cons.1 h with rfl | h
        · exact .inr ⟨x, by simp, rfl⟩
        · exact .inr ⟨e, by simp [h], rfl⟩
      · rcases List.mem_cons.1 h with rfl | h
        · exact .inl rfl
        · exact .inr ⟨e, h, rfl⟩
theorem ins_sorted {r : List Val} {k : Int} : ∀ {z : List Ent}, SortedZ z → SortedZ (ins r k z)
  | [], _ => by simp [ins, SortedZ]
  | x :: z, h => by
    obtain ⟨h1, h2⟩ := List.pairwise_cons.1 h
    unfold ins
    split
    · rename_i hlt
      refine List.pairwise_cons.2 ⟨fun e he => ?_, ins_sorted h2⟩
      rcases mem_ins he with h' | ⟨e', g1, g2⟩
      · rw [h']; exact hlt
      · rw [← g2]; exact h1 e' g1
    · split
      · exact List.pairwise_cons.2 ⟨h1, h2⟩
      · rename_i n1 n2
        have hlt : cR r x.1 < 0 := by have := cR_anti x.1 r; omega
        refine List.pairwise_cons.2 ⟨fun e he => ?_, h⟩
        rcases List.mem_cons.1 he with rfl | he
        · exact hlt
        · exact cR_lt_trans hlt (h1 e he)
theorem wt_ins {r : List Val} {k : Int} (s : List Val) : ∀ z : List Ent, wt s (ins r k z) = wt s z + (if r = s then k else 0)
  | [] => by simp [ins, wt]
  | x :: z => by
    unfold ins
    split
    · simp only [wt]; rw [wt_ins s z]; omega
    · split
      · rename_i h0
        have e := (cR_zero x.1 r).1 h0
        simp only [wt]
        by_cases h : x.1 = s
        · rw [if_pos h, if_pos h, if_pos (e ▸ h)]; omega
        · rw [if_neg h, if_neg h, if_neg (e ▸ h)]; omega
      · simp only [wt]; omega
theorem foldl_ins (s : List Val) : ∀ (l z : List Ent), SortedZ z → SortedZ (l.foldl (fun z e => ins e.1 e.2 z) z) ∧ wt s (l.foldl (fun z e => ins e.1 e.2 z) z) = wt s z + wt s l
  | [], z, h => ⟨h, by simp [wt]⟩
  | e :: l, z, h => by
    have := foldl_ins s l (ins e.1 e.2 z) (ins_sorted h)
    refine ⟨this.1, ?_⟩
    rw [List.foldl_cons, this.2, wt_ins]; simp only [wt]; omega
theorem gat_sorted (l : List Ent) : SortedZ (gat l) := (foldl_ins [] l [] List.Pairwise.nil).1
theorem wt_gat (s : List Val) (l : List Ent) : wt s (gat l) = wt s l := by
  have := (foldl_ins s l [] List.Pairwise.nil).2
  unfold gat; rw [this]; simp [wt]
theorem gat_snoc (l : List Ent) (e : Ent) : gat (l ++ [e]) = ins e.1 e.2 (gat l) := by unfold gat; rw [List.foldl_append]; rfl
/-- In order: a row that is less than the first is none. -/
theorem wt_less {r : List Val} : ∀ {z : List Ent}, (∀ e ∈ z, cR r e.1 < 0) → wt r z = 0
  | [], _ => rfl
  | e :: z, h => by
    have h0 := h e (by simp)
    have hne : e.1 ≠ r := fun h' => by rw [h', cR_self] at h0; omega
    simp only [wt]; rw [if_neg hne, wt_less (fun x hx => h x (by simp [hx]))]; rfl
theorem wt_head {e : Ent} {z : List Ent} (h : SortedZ (e :: z)) : wt e.1 (e :: z) = e.2 := by
  simp only [wt, if_true]; rw [wt_less (List.pairwise_cons.1 h).1]; omega
/-- A z-set is what its rows' weights say. -/
theorem z_uniq : ∀ {y z : List Ent}, SortedZ y → SortedZ z → (∀ e ∈ y, e.2 ≠ 0) → (∀ e ∈ z, e.2 ≠ 0) → (∀ r, wt r y = wt r z) → y = z
  | [], [], _, _, _, _, _ => rfl
  | [], e :: z, _, hz, _, nz, h => by
    have := h e.1
    rw [wt_head hz] at this
    exact absurd this.symm (nz e (by simp))
  | e :: y, [], hy, _, ny, _, h => by
    have := h e.1
    rw [wt_head hy] at this
    exact absurd this (ny e (by simp))
  | e :: y, f :: z, hy, hz, ny, nz, h => by
    obtain ⟨y1, y2⟩ := List.pairwise_cons.1 hy
    obtain ⟨z1, z2⟩ := List.pairwise_cons.1 hz
    have hef : e.1 = f.1 := by
      have sq := cR_sq e.1 f.1
      rcases Int.lt_trichotomy (cR e.1 f.1) 0 with hlt | h0 | hgt
      · have := h e.1
        rw [wt_head hy, wt_less (r := e.1) (z := f :: z) (fun x hx => by
          rcases List.mem_cons.1 hx with rfl | hx
          · exact hlt
          · exact cR_lt_trans hlt (z1 x hx))] at this
        exact absurd this (ny e (by simp))
      · exact (cR_zero _ _).1 h0
      · have hlt := cR_pos.1 hgt
        have := h f.1
        rw [wt_head hz, wt_less (r := f.1) (z := e :: y) (fun x hx => by
          rcases List.mem_cons.1 hx with rfl | hx
          · exact hlt
          · exact cR_lt_trans hlt (y1 x hx))] at this
        exact absurd this.symm (nz f (by simp))
    have h2 : e.2 = f.2 := by
      have := h e.1
      rw [wt_head hy, hef, wt_head hz] at this
      exact this
    have ee : e = f := Prod.ext hef h2
    subst ee
    rw [z_uniq y2 z2 (fun x hx => ny x (by simp [hx])) (fun x hx => nz x (by simp [hx])) (fun r => by
      have := h r
      simp only [wt] at this
      omega)]
/-- A number is an int64's; all are; those that are not 0. -/
def inI (n : Int) : Bool := decide (-9223372036854775808 ≤ n) && decide (n ≤ 9223372036854775807)
theorem inI_iff {k : Int} : inI k = true ↔ -9223372036854775808 ≤ k ∧ k ≤ 9223372036854775807 := by unfold inI; simp
def fitsZ (z : List Ent) : Bool := z.all fun e => inI e.2
def nzZ (z : List Ent) : List Ent := z.filter fun e => e.2 != 0
/-- Entries as a z-set; may it be? -/
def okZ (l : List Ent) : Bool := fitsZ (gat l)
def mkZ (l : List Ent) : List Ent := if okZ l then nzZ (gat l) else []
theorem nzZ_sorted {z : List Ent} (h : SortedZ z) : SortedZ (nzZ z) := List.Pairwise.sublist List.filter_sublist h
theorem nzZ_nz {z : List Ent} : ∀ e ∈ nzZ z, e.2 ≠ 0 := fun e he => by simpa using (List.mem_filter.1 he).2
theorem wt_nzZ (r : List Val) : ∀ z : List Ent, wt r (nzZ z) = wt r z
  | [] => rfl
  | e :: z => by
    have ih := wt_nzZ r z
    unfold nzZ at ih ⊢
    by_cases h : e.2 = 0
    · rw [List.filter_cons_of_neg (by simp [h])]; simp only [wt]; rw [ih, h]; split <;> omega
    · rw [List.filter_cons_of_pos (by simp [h])]; simp only [wt]; rw [ih]
/-- A z-set: in order, no weight 0. -/
def IsZ (z : List Ent) : Prop := SortedZ z ∧ ∀ e ∈ z, e.2 ≠ 0
theorem mkZ_isZ (l : List Ent) : IsZ (mkZ l) := by
  unfold mkZ
  split
  · exact ⟨nzZ_sorted (gat_sorted l), nzZ_nz⟩
  · exact ⟨List.Pairwise.nil, fun e h => by cases h⟩
theorem wt_mkZ {l : List Ent} (h : okZ l = true) (r : List Val) : wt r (mkZ l) = wt r l := by
  unfold mkZ; rw [if_pos h, wt_nzZ, wt_gat]
theorem mkZ_of {l z : List Ent} (h : okZ l = true) (hz : IsZ z) (hw : ∀ r, wt r z = wt r l) : mkZ l = z :=
  z_uniq (mkZ_isZ l).1 hz.1 (mkZ_isZ l).2 hz.2 (fun r => by rw [wt_mkZ h, hw])
theorem wt_mem {z : List Ent} (h : SortedZ z) : ∀ {e : Ent}, e ∈ z → wt e.1 z = e.2 := by
  induction z with
  | nil => intro e he; cases he
  | cons x z ih =>
    intro e he
    obtain ⟨h1, h2⟩ := List.pairwise_cons.1 h
    rcases List.mem_cons.1 he with rfl | he
    · exact wt_head h
    · have hne : x.1 ≠ e.1 := fun h' => by have := h1 e he; rw [h', cR_self] at this; omega
      simp only [wt]; rw [if_neg hne, ih h2 he]; omega
/-- May it be: each row's sum is an int64's. -/
theorem mem_of_wt {r : List Val} : ∀ {z : List Ent}, wt r z ≠ 0 → ∃ e ∈ z, e.1 = r
  | [], h => absurd rfl h
  | e :: z, h => by
    by_cases hr : e.1 = r
    · exact ⟨e, by simp, hr⟩
    · simp only [wt] at h; rw [if_neg hr, Int.zero_add] at h
      obtain ⟨x, hx, hx'⟩ := mem_of_wt h
      exact ⟨x, by simp [hx], hx'⟩
theorem okZ_iff (l : List Ent) : okZ l = true ↔ ∀ r, inI (wt r l) = true := by
  unfold okZ fitsZ
  rw [List.all_eq_true]
  constructor
  · intro h r
    by_cases h0 : wt r l = 0
    · rw [h0]; rfl
    · rw [← wt_gat] at h0 ⊢
      obtain ⟨e, he, rfl⟩ := mem_of_wt h0
      rw [wt_mem (gat_sorted l) he]; exact h e he
  · intro h e he
    have := h e.1
    rw [← wt_gat, wt_mem (gat_sorted l) he] at this
    exact this
theorem wt_append (r : List Val) : ∀ (l m : List Ent), wt r (l ++ m) = wt r l + wt r m
  | [], m => by simp [wt]
  | e :: l, m => by simp only [List.cons_append, wt]; rw [wt_append r l m]; omega
end Go.Proofs.YtlafokjkpbhckaaGreatDoor
/- A heap, plainly: whose key is least comes first; what is swapped, sifted up and down. -/
namespace Go.Proofs.YtlafokjkpbhckaaGreatDoor
set_option maxRecDepth 100000

/-- The place above. -/
def par (i : Nat) : Nat := (i - 1) / 2
/-- None is less than the one above it. -/
def Heap (f : Nat → List Val) (n : Nat) : Prop := ∀ i, 0 < i → i < n → cR (f (par i)) (f i) ≤ 0
/-- All but one against the one above it. -/
def HeapUp (f : Nat → List Val) (n j : Nat) : Prop := (∀ i, 0 < i → i < n → i ≠ j → cR (f (par i)) (f i) ≤ 0) ∧ (0 < j → ∀ i, 0 < i → i < n → par i = j → cR (f (par j)) (f i) ≤ 0)
/-- All but one against those below it. -/
def HeapDown (f : Nat → List Val) (n j : Nat) : Prop := (∀ i, 0 < i → i < n → par i ≠ j → cR (f (par i)) (f i) ≤ 0) ∧ (0 < j → ∀ i, 0 < i → i < n → par i = j → cR (f (par j)) (f i) ≤ 0)
def swF {α : Type} (f : Nat → α) (i j : Nat) : Nat → α := fun k => if k = i then f j else if k = j then f i else f k
theorem swF_l {α : Type} (f : Nat → α) (i j : Nat) : swF f i j i = f j := by simp [swF]
theorem swF_r {α : Type} (f : Nat → α) (i j : Nat) : swF f i j j = f i := by unfold swF; by_cases h : j = i <;> simp [h]
theorem swF_o {α : Type} (f : Nat → α) {i j k : Nat} (h1 : k ≠ i) (h2 : k ≠ j) : swF f i j k = f k := by simp [swF, h1, h2]
theorem par_lt {i : Nat} (h : 0 < i) : par i < i := by unfold par; omega
theorem cR_le_of_nlt {a b : List Val} (h : ¬ cR a b < 0) : cR b a ≤ 0 := by have := cR_anti a b; omega
theorem hup_end {f : Nat → List Val} {n j : Nat} (h : HeapUp f n j) (hj : j = 0 ∨ ¬ cR (f j) (f (par j)) < 0) : Heap f n := by
  intro i h1 h2
  by_cases e : i = j
  · subst e
    rcases hj with h0 | h0
    · omega
    · exact cR_le_of_nlt h0
  · exact h.1 i h1 h2 e
theorem hup_step {f : Nat → List Val} {n j : Nat} (h : HeapUp f n j) (h0 : 0 < j) (hj : j < n) (hl : cR (f j) (f (par j)) < 0) : HeapUp (swF f (par j) j) n (par j) := by
  have hp := par_lt h0
  refine ⟨fun i h1 h2 h3 => ?_, fun g0 i h1 h2 h3 => ?_⟩
  · by_cases e : i = j
    · subst e; rw [swF_l, swF_r]; omega
    · rw [swF_o f h3 e]
      by_cases e1 : par i = par j
      · rw [e1, swF_l]
        have := h.1 i h1 h2 e
        rw [e1] at this
        exact cR_trans _ _ _ (by omega) this
      · by_cases e2 : par i = j
        · rw [e2, swF_r]; exact h.2 h0 i h1 h2 e2
        · rw [swF_o f e1 e2]; exact h.1 i h1 h2 e
  · have hpp := par_lt g0
    have hq := h.1 (par j) g0 (by omega) (by omega)
    rw [swF_o f (by omega) (by omega)]
    by_cases e : i = j
    · subst e; rw [swF_r]; exact hq
    · have := par_lt h1
      rw [swF_o f (by omega) e]
      have := h.1 i h1 h2 e
      rw [h3] at this
      exact cR_trans _ _ _ hq this
theorem par_is {i k : Nat} (h : 0 < i) (e : par i = k) : i = 2 * k + 1 ∨ i = 2 * k + 2 := by unfold par at e; omega
theorem par_1 (k : Nat) : par (2 * k + 1) = k := by unfold par; omega
theorem par_2 (k : Nat) : par (2 * k + 2) = k := by unfold par; omega
theorem hdown_end {f : Nat → List Val} {n j : Nat} (h : HeapDown f n j) (hj : ∀ i, 0 < i → i < n → par i = j → cR (f j) (f i) ≤ 0) : Heap f n := by
  intro i h1 h2
  by_cases e : par i = j
  · rw [e]; exact hj i h1 h2 e
  · exact h.1 i h1 h2 e
theorem hdown_step {f : Nat → List Val} {n i j : Nat} (h : HeapDown f n i) (h0 : 0 < j) (hj : j < n) (hp : par j = i) (hm : ∀ k, 0 < k → k < n → par k = i → cR (f j) (f k) ≤ 0) (hl : cR (f j) (f i) < 0) : HeapDown (swF f i j) n j := by
  have hp' := par_lt h0
  refine ⟨fun k h1 h2 h3 => ?_, fun g0 k h1 h2 h3 => ?_⟩
  · have hk := par_lt h1
    by_cases e : k = j
    · subst e; rw [hp, swF_l, swF_r]; omega
    · by_cases e1 : par k = i
      · rw [e1, swF_l, swF_o f (by omega) e]; exact hm k h1 h2 e1
      · rw [swF_o f e1 h3]
        by_cases e2 : k = i
        · subst e2; rw [swF_l]; exact h.2 h1 j h0 hj hp
        · rw [swF_o f e2 e]; exact h.1 k h1 h2 e1
  · have hk := par_lt h1
    rw [hp, swF_l, swF_o f (by omega) (by omega)]
    have := h.1 k h1 h2 (by omega)
    rw [h3] at this; exact this
theorem heap_root {f : Nat → List Val} {n : Nat} (h : Heap f n) : ∀ i, i < n → cR (f 0) (f i) ≤ 0 := by
  intro i
  induction i using Nat.strongRecOn with
  | _ i ih =>
    intro hi
    by_cases h0 : i = 0
    · subst h0; rw [cR_self]; omega
    · have hp := par_lt (show 0 < i by omega)
      exact cR_trans _ _ _ (ih (par i) hp (by omega)) (h i (by omega) hi)
theorem heap_one (f : Nat → List Val) {n : Nat} (h : n ≤ 1) : Heap f n := fun i h1 h2 => by omega
/-- The lists that are left, as they stand and as they read. -/
abbrev QEnt := Value × List Ent
def qD : QEnt := (.slice none 0 0, [])
def hdE (l : List Ent) : List Val := (l.headD ([], 0)).1
def kf (X : List QEnt) : Nat → List Val := fun i => hdE (X.getD i qD).2
def sw (X : List QEnt) (i j : Nat) : List QEnt := (X.set i (X.getD j qD)).set j (X.getD i qD)
def flat (X : List QEnt) : List Ent := X.flatMap (·.2)
theorem sw_len (X : List QEnt) (i j : Nat) : (sw X i j).length = X.length := by simp [sw]
theorem sw_at {X : List QEnt} {i j : Nat} (hi : i < X.length) (hj : j < X.length) (k : Nat) : (sw X i j).getD k qD = swF (fun k => X.getD k qD) i j k := by
  unfold sw swF
  rw [List.getD_eq_getElem?_getD, List.getElem?_set]
  by_cases e : j = k
  · subst e
    by_cases e2 : j = i
    · subst e2; simp [hj]
    · simp [hj, e2]
  · rw [if_neg e, List.getElem?_set]
    by_cases e2 : i = k
    · subst e2; simp [hi]
    · rw [if_neg e2, if_neg (fun h => e2 h.symm), if_neg (fun h => e h.symm)]; simp [List.getD_eq_getElem?_getD]
theorem kf_sw {X : List QEnt} {i j : Nat} (hi : i < X.length) (hj : j < X.length) : kf (sw X i j) = swF (kf X) i j := by
  funext k
  unfold kf; rw [sw_at hi hj]
  unfold swF; split
  · rfl
  · split <;> rfl
theorem sw_perm {X : List QEnt} {i j : Nat} (hi : i < X.length) (hj : j < X.length) : (sw X i j).Perm X := by
  unfold sw
  rw [List.getD_eq_getElem?_getD, List.getD_eq_getElem?_getD, List.getElem?_eq_getElem hi, List.getElem?_eq_getElem hj]
  exact List.set_set_perm hi hj
theorem flat_cons (x : QEnt) (X : List QEnt) : flat (x :: X) = x.2 ++ flat X := rfl
theorem wt_flat {r : List Val} {X Y : List QEnt} (h : X.Perm Y) : wt r (flat X) = wt r (flat Y) := by
  induction h with
  | nil => rfl
  | cons x _ ih => rw [flat_cons, flat_cons, wt_append, wt_append, ih]
  | swap x y l => rw [flat_cons, flat_cons, flat_cons, flat_cons, wt_append, wt_append, wt_append, wt_append]; omega
  | trans _ _ ih1 ih2 => rw [ih1, ih2]
theorem mem_flat {X : List QEnt} {e : Ent} : e ∈ flat X ↔ ∃ x ∈ X, e ∈ x.2 := by unfold flat; rw [List.mem_flatMap]
theorem flat_perm {X Y : List QEnt} (h : X.Perm Y) {e : Ent} : e ∈ flat X ↔ e ∈ flat Y := by
  rw [mem_flat, mem_flat]
  exact ⟨fun ⟨x, hx, he⟩ => ⟨x, h.mem_iff.1 hx, he⟩, fun ⟨x, hx, he⟩ => ⟨x, h.mem_iff.2 hx, he⟩⟩
theorem flat_len {X Y : List QEnt} (h : X.Perm Y) : (flat X).length = (flat Y).length := by
  induction h with
  | nil => rfl
  | cons x _ ih => rw [flat_cons, flat_cons, List.length_append, List.length_append, ih]
  | swap x y l => simp only [flat_cons, List.length_append]; omega
  | trans _ _ ih1 ih2 => rw [ih1, ih2]
/-- One more behind all. -/
theorem heap_push {X : List QEnt} (x : QEnt) (h : Heap (kf X) X.length) : HeapUp (kf (X ++ [x])) (X ++ [x]).length X.length := by
  have hk : ∀ i, i < X.length → kf (X ++ [x]) i = kf X i := fun i hi => by
    unfold kf; rw [List.getD_eq_getElem?_getD, List.getD_eq_getElem?_getD, List.getElem?_append_left hi]
  refine ⟨fun i h1 h2 h3 => ?_, fun h0 i h1 h2 h3 => ?_⟩
  · have hp := par_lt h1
    simp at h2
    rw [hk i (by omega), hk (par i) (by omega)]; exact h i h1 (by omega)
  · have hp := par_lt h1
    simp at h2; omega
/-- The first one turned. -/
theorem heap_first {X : List QEnt} (x : QEnt) (h : Heap (kf X) X.length) : HeapDown (kf (X.set 0 x)) X.length 0 := by
  have hk : ∀ i, i ≠ 0 → kf (X.set 0 x) i = kf X i := fun i hi => by
    unfold kf; rw [List.getD_eq_getElem?_getD, List.getD_eq_getElem?_getD, List.getElem?_set_ne (fun e => hi e.symm)]
  refine ⟨fun i h1 h2 h3 => ?_, fun h0 => absurd h0 (by omega)⟩
  rw [hk i (by omega), hk _ h3]; exact h i h1 h2
/-- The first one swapped with the last. -/
theorem heap_last {X : List QEnt} {n : Nat} (hn : X.length = n + 1) (h : Heap (kf X) X.length) : HeapDown (kf (sw X 0 n)) n 0 := by
  rw [kf_sw (by omega) (by omega)]
  refine ⟨fun i h1 h2 h3 => ?_, fun h0 => absurd h0 (by omega)⟩
  have hp := par_lt h1
  rw [swF_o _ h3 (by omega), swF_o _ (show i ≠ 0 by omega) (by omega)]; exact h i h1 (by omega)
theorem kf_take (X : List QEnt) {n i : Nat} (h : i < n) : kf (X.take n) i = kf X i := by
  unfold kf; rw [List.getD_eq_getElem?_getD, List.getD_eq_getElem?_getD, List.getElem?_take, if_pos h]
theorem heap_take {X : List QEnt} {n : Nat} (h : Heap (kf X) n) : Heap (kf (X.take n)) n := fun i h1 h2 => by
  have hp := par_lt h1
  rw [kf_take _ h2, kf_take _ (by omega)]; exact h i h1 h2
theorem heap_up0 {f : Nat → List Val} {n : Nat} (h : Heap f n) : HeapUp f n 0 := ⟨fun i h1 h2 _ => h i h1 h2, fun h0 => absurd h0 (by omega)⟩
/-- Without the last one, which was the first. -/
theorem pop_perm {x : QEnt} {X Y : List QEnt} {n : Nat} (hn : X.length = n) (hp : Y.Perm (x :: X)) (hl : Y.getD n qD = x) : (Y.take n).Perm X := by
  have hy : Y.length = n + 1 := by rw [hp.length_eq, List.length_cons, hn]
  have e : Y = Y.take n ++ [x] := by
    conv => lhs; rw [← List.take_append_drop n Y]
    congr 1
    rw [List.drop_eq_getElem_cons (by omega), List.drop_of_length_le (by omega)]
    rw [List.getD_eq_getElem?_getD, List.getElem?_eq_getElem (by omega)] at hl
    simp at hl; rw [hl]
  have h1 : (x :: Y.take n).Perm (x :: X) := ((List.perm_append_singleton x (Y.take n)).symm.trans (e ▸ List.Perm.refl _)).trans hp
  exact (List.perm_cons x).1 h1
end Go.Proofs.YtlafokjkpbhckaaGreatDoor
