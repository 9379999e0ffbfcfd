/- Texts of one claim, one behind the other. -/
import GoSem.Op.String
import Derived.Lib.Strings
/- Plain facts on the order of numbers, of texts and of values, without the program. -/
namespace Go.Proofs.YtaccinophamgmaaDoor

def cI (a b : Int) : Int := if a < b then -1 else if b < a then 1 else 0
def cS (a b : ByteArray) : Int := if Op.bytesLess a.toList b.toList = true then -1 else if a.toList = b.toList then 0 else 1
/-- A value's order: by kind, then by number, then by text. -/
def cV (k n : Int) (s : ByteArray) (k' n' : Int) (s' : ByteArray) : Int := if cI k k' = 0 then (if cI n n' = 0 then cS s s' else cI n n') else cI k k'

theorem bl_irrefl : ∀ a : List UInt8, Op.bytesLess a a = false
  | [] => rfl
  | a :: x => by simp [Op.bytesLess, bl_irrefl x]
theorem bl_trans : ∀ a b c : List UInt8, Op.bytesLess a b = true → Op.bytesLess b c = true → Op.bytesLess a c = true
  | _, [], _, h, _ => by simp [Op.bytesLess] at h
  | _, _ :: _, [], _, h => by simp [Op.bytesLess] at h
  | [], _ :: _, _ :: _, _, _ => by simp [Op.bytesLess]
  | a :: x, b :: y, c :: z, h, k => by
    simp only [Op.bytesLess, Bool.or_eq_true, decide_eq_true_eq, Bool.and_eq_true, beq_iff_eq] at h k ⊢
    rcases h with h | ⟨rfl, h⟩
    · rcases k with k | ⟨rfl, k⟩
      · exact Or.inl (UInt8.lt_trans h k)
      · exact Or.inl h
    · rcases k with k | ⟨rfl, k⟩
      · exact Or.inl k
      · exact Or.inr ⟨rfl, bl_trans x y z h k⟩
theorem bl_total : ∀ a b : List UInt8, Op.bytesLess a b = false → Op.bytesLess b a = false → a = b
  | [], [], _, _ => rfl
  | [], _ :: _, h, _ => by simp [Op.bytesLess] at h
  | _ :: _, [], _, h => by simp [Op.bytesLess] at h
  | a :: x, b :: y, h, k => by
    simp only [Op.bytesLess, Bool.or_eq_false_iff, decide_eq_false_iff_not, Bool.and_eq_false_iff, beq_eq_false_iff_ne] at h k
    have e : a = b := by
      have h1 := h.1; have k1 := k.1
      rw [UInt8.lt_iff_toNat_lt] at h1 k1
      exact UInt8.toNat_inj.1 (by omega)
    subst e
    have := bl_total x y (by simpa using h.2) (by simpa using k.2)
    rw [this]
theorem bl_asymm {a b : List UInt8} (h : Op.bytesLess a b = true) : Op.bytesLess b a = false := by
  cases k : Op.bytesLess b a
  · rfl
  · have := bl_trans a b a h k
    rw [bl_irrefl] at this; cases this
theorem bl_ne {a b : List UInt8} (h : Op.bytesLess a b = true) : a ≠ b := by
  rintro rfl; rw [bl_irrefl] at h; cases h
theorem toList_inj {a b : ByteArray} (h : a.toList = b.toList) : a = b := by
  rw [Lib.toList_data, Lib.toList_data] at h
  cases a; cases b
  simp only [ByteArray.mk.injEq]
  exact Array.toList_inj.1 h

theorem cI_anti (a b : Int) : cI b a = - cI a b := by unfold cI; repeat' split <;> omega
theorem cI_zero (a b : Int) : cI a b = 0 ↔ a = b := by unfold cI; repeat' split <;> omega
theorem cI_sq (a b : Int) : -1 ≤ cI a b ∧ cI a b ≤ 1 := by unfold cI; repeat' split <;> omega

theorem cS_anti (a b : ByteArray) : cS b a = - cS a b := by
  unfold cS
  by_cases h : Op.bytesLess a.toList b.toList = true
  · have h1 := bl_asymm h; have h2 := bl_ne h; have h3 : ¬ b.toList = a.toList := fun e => h2 e.symm
    simp [h, h1, h3]
  · have h' : Op.bytesLess a.toList b.toList = false := by simpa using h
    by_cases e : a.toList = b.toList
    · simp [e, bl_irrefl]
    · have h1 : Op.bytesLess b.toList a.toList = true := by
        cases k : Op.bytesLess b.toList a.toList
        · exact absurd (bl_total _ _ h' k) e
        · rfl
      simp [h', e, h1]
theorem cS_zero (a b : ByteArray) : cS a b = 0 ↔ a = b := by
  unfold cS
  constructor
  · intro h
    split at h
    · omega
    · split at h
      · exact toList_inj ‹_›
      · omega
  · rintro rfl; simp [bl_irrefl]
theorem cS_sq (a b : ByteArray) : -1 ≤ cS a b ∧ cS a b ≤ 1 := by unfold cS; repeat' split <;> omega
/-- At most: it goes on. -/
theorem cS_trans (a b c : ByteArray) (h : cS a b ≤ 0) (k : cS b c ≤ 0) : cS a c ≤ 0 := by
  by_cases e1 : a = b
  · subst e1; exact k
  by_cases e2 : b = c
  · subst e2; exact h
  have n1 : cS a b ≠ 0 := fun h => e1 ((cS_zero _ _).1 h)
  have n2 : cS b c ≠ 0 := fun h => e2 ((cS_zero _ _).1 h)
  have l1 : Op.bytesLess a.toList b.toList = true := by
    unfold cS at h n1; split at h
    · assumption
    · split at h <;> simp_all
  have l2 : Op.bytesLess b.toList c.toList = true := by
    unfold cS at k n2; split at k
    · assumption
    · split at k <;> simp_all
  simp [cS, bl_trans _ _ _ l1 l2]

theorem cV_anti (k n : Int) (s : ByteArray) (k' n' : Int) (s' : ByteArray) : cV k' n' s' k n s = - cV k n s k' n' s' := by
  unfold cV
  rw [cI_anti k k', cI_anti n n', cS_anti s s']
  repeat' split <;> omega
theorem cV_zero (k n : Int) (s : ByteArray) (k' n' : Int) (s' : ByteArray) : cV k n s k' n' s' = 0 ↔ k = k' ∧ n = n' ∧ s = s' := by
  unfold cV
  rw [← cI_zero k k', ← cI_zero n n', ← cS_zero s s']
  by_cases h1 : cI k k' = 0 <;> by_cases h2 : cI n n' = 0 <;> simp [h1, h2]
theorem cV_sq (k n : Int) (s : ByteArray) (k' n' : Int) (s' : ByteArray) : -1 ≤ cV k n s k' n' s' ∧ cV k n s k' n' s' ≤ 1 := by
  have h1 := cI_sq k k'; have h2 := cI_sq n n'; have h3 := cS_sq s s'
  unfold cV
  repeat' split <;> omega
theorem cI_neg (a b : Int) : cI a b < 0 ↔ a < b := by unfold cI; repeat' split <;> omega
theorem cV_le (k n : Int) (s : ByteArray) (k' n' : Int) (s' : ByteArray) : cV k n s k' n' s' ≤ 0 ↔ k < k' ∨ (k = k' ∧ (n < n' ∨ (n = n' ∧ cS s s' ≤ 0))) := by
  have h1 := cI_neg k k'; have h2 := cI_neg n n'; have h3 := cI_zero k k'; have h4 := cI_zero n n'
  unfold cV
  split
  · split <;> omega
  · omega
theorem cV_trans (k n : Int) (s : ByteArray) (k' n' : Int) (s' : ByteArray) (k'' n'' : Int) (s'' : ByteArray) (h : cV k n s k' n' s' ≤ 0) (g : cV k' n' s' k'' n'' s'' ≤ 0) : cV k n s k'' n'' s'' ≤ 0 := by
  have t := cS_trans s s' s''
  rw [cV_le] at h g ⊢
  omega
end Go.Proofs.YtaccinophamgmaaDoor
/- Plain facts on the order of rows, without the program. -/
namespace Go.Proofs.YtaccinophamgmaaDoor

/-- A value: its kind, its number, its text. -/
abbrev Val := Int × Int × ByteArray
def cVal (a b : Val) : Int := cV a.1 a.2.1 a.2.2 b.1 b.2.1 b.2.2
theorem cVal_anti (a b : Val) : cVal b a = - cVal a b := cV_anti _ _ _ _ _ _
theorem cVal_zero (a b : Val) : cVal a b = 0 ↔ a = b := by
  unfold cVal
  rw [cV_zero]
  obtain ⟨a1, a2, a3⟩ := a; obtain ⟨b1, b2, b3⟩ := b
  simp
theorem cVal_sq (a b : Val) : -1 ≤ cVal a b ∧ cVal a b ≤ 1 := cV_sq _ _ _ _ _ _
theorem cVal_trans (a b c : Val) (h : cVal a b ≤ 0) (g : cVal b c ≤ 0) : cVal a c ≤ 0 := cV_trans _ _ _ _ _ _ _ _ _ h g
theorem cVal_lt_trans (a b c : Val) (h : cVal a b < 0) (g : cVal b c ≤ 0) : cVal a c < 0 := by
  have h1 := cVal_trans a b c (by omega) g
  have h2 := cVal_zero a c
  by_cases e : cVal a c = 0
  · have := h2.1 e; subst this
    have := cVal_anti a b; omega
  · omega
theorem cVal_lt_trans' (a b c : Val) (h : cVal a b ≤ 0) (g : cVal b c < 0) : cVal a c < 0 := by
  have h1 := cVal_trans a b c h (by omega)
  have h2 := cVal_zero a c
  by_cases e : cVal a c = 0
  · have := h2.1 e; subst this
    have := cVal_anti a b; omega
  · omega

/-- Rows' order: value by value; a row that has no more is less. -/
def cR : List Val → List Val → Int
  | [], [] => 0
  | [], _ :: _ => -1
  | _ :: _, [] => 1
  | a :: l, b :: m => if cVal a b = 0 then cR l m else cVal a b
theorem cR_self : ∀ l, cR l l = 0
  | [] => rfl
  | a :: l => by rw [cR, if_pos ((cVal_zero a a).2 rfl), cR_self l]
theorem cR_anti : ∀ l m, cR m l = - cR l m
  | [], [] => rfl
  | [], _ :: _ => rfl
  | _ :: _, [] => rfl
  | a :: l, b :: m => by
    have h := cVal_anti a b
    simp only [cR]
    rw [cR_anti l m, h]
    by_cases e : cVal a b = 0
    · simp [e]
    · rw [if_neg (by omega), if_neg e]
theorem cR_zero : ∀ l m, cR l m = 0 ↔ l = m
  | [], [] => by simp [cR]
  | [], _ :: _ => by simp [cR]
  | _ :: _, [] => by simp [cR]
  | a :: l, b :: m => by
    have h := cVal_zero a b
    simp only [cR]
    by_cases e : cVal a b = 0
    · rw [if_pos e, cR_zero l m, h.1 e]; simp
    · rw [if_neg e]
      constructor
      · intro h; exact absurd h e
      · intro h'; exact absurd (h.2 (List.cons.inj h').1) e
theorem cR_sq : ∀ l m, -1 ≤ cR l m ∧ cR l m ≤ 1
  | [], [] => by simp [cR]
  | [], _ :: _ => by simp [cR]
  | _ :: _, [] => by simp [cR]
  | a :: l, b :: m => by
    have h := cVal_sq a b; have h' := cR_sq l m
    simp only [cR]; split <;> omega
theorem cR_trans : ∀ l m n, cR l m ≤ 0 → cR m n ≤ 0 → cR l n ≤ 0
  | [], [], n, _, h => h
  | [], _ :: _, [], _, h => by simp [cR] at h
  | [], _ :: _, _ :: _, _, _ => by simp [cR]
  | _ :: _, [], _, h, _ => by simp [cR] at h
  | _ :: _, _ :: _, [], _, h => by simp [cR] at h
  | a :: l, b :: m, c :: n, h, g => by
    have t := cR_trans l m n
    have z1 := cVal_zero a b; have z2 := cVal_zero b c; have z3 := cVal_zero a c
    have t1 := cVal_lt_trans a b c; have t2 := cVal_lt_trans' a b c
    simp only [cR] at h g ⊢
    by_cases e1 : cVal a b = 0
    · rw [if_pos e1] at h
      have ab := z1.1 e1; subst ab
      by_cases e2 : cVal a c = 0
      · rw [if_pos e2] at g ⊢; exact t h g
      · rw [if_neg e2] at g ⊢; exact g
    · rw [if_neg e1] at h
      by_cases e2 : cVal b c = 0
      · have bc := z2.1 e2; subst bc
        rw [if_neg e1]; exact h
      · rw [if_neg e2] at g
        have := t1 (by omega) (by omega)
        rw [if_neg (by omega)]; omega
/-- What a row begins with is less than it. -/
theorem cR_prefix : ∀ l x m, cR l (l ++ x :: m) = -1
  | [], _, _ => rfl
  | a :: l, x, m => by
    simp only [List.cons_append, cR]; rw [if_pos ((cVal_zero a a).2 rfl), cR_prefix l x m]
/-- Rows that are alike so far go on. -/
theorem cR_step {l m : List Val} {i : Nat} (h1 : i < l.length) (h2 : i < m.length) : cR (l.drop i) (m.drop i) = if cVal l[i] m[i] = 0 then cR (l.drop (i + 1)) (m.drop (i + 1)) else cVal l[i] m[i] := by
  rw [List.drop_eq_getElem_cons h1, List.drop_eq_getElem_cons h2]; rfl
theorem cR_end {l m : List Val} {i : Nat} (h : l.length ≤ i ∨ m.length ≤ i) (h1 : i ≤ l.length) (h2 : i ≤ m.length) : cR (l.drop i) (m.drop i) = if l.length < m.length then -1 else if m.length < l.length then 1 else 0 := by
  by_cases e1 : l.length = i
  · rw [List.drop_of_length_le (Nat.le_of_eq e1)]
    by_cases e2 : m.length = i
    · rw [List.drop_of_length_le (Nat.le_of_eq e2)]; simp [cR]; omega
    · rw [List.drop_eq_getElem_cons (by omega), if_pos (by omega)]; rfl
  · have e2 : m.length = i := by omega
    rw [List.drop_of_length_le (l := m) (Nat.le_of_eq e2), List.drop_eq_getElem_cons (by omega), if_neg (by omega), if_pos (by omega)]; rfl
end Go.Proofs.YtaccinophamgmaaDoor
/- Predicates plainly: what they hold of, what they ask, with other columns in their places. -/
namespace Go.Proofs.YtaccinophamgmaaDoor
set_option linter.unusedVariables false

abbrev nul : Val := (0, 0, ⟨#[]⟩)
/-- A predicate: its kind, its column, its sign, its other column, its constant, its parts. -/
structure Pd where
  k : Int
  c : Int
  o : Int
  d : Int
  v : Val
  l : List Pd
theorem Pd.ind {P : Pd → Prop} (h : ∀ k c o d v l, (∀ q ∈ l, P q) → P ⟨k, c, o, d, v, l⟩) : ∀ p, P p
  | ⟨k, c, o, d, v, l⟩ => h k c o d v l (fun q _ => Pd.ind h q)
/-- A row's column; one that is none is Null. -/
def colR (r : List Val) (c : Int) : Val := if 0 ≤ c then r.getD c.toNat nul else nul
/-- How two values stand to each other. -/
def agO (o c : Int) : Bool :=
  if o = 1 then decide (c = 0) else if o = 2 then !decide (c = 0) else if o = 3 then decide (c < 0) else if o = 4 then decide (c ≤ 0) else if o = 5 then decide (0 < c) else if o = 6 then decide (0 ≤ c) else false
def ag (a : Val) (o : Int) (b : Val) : Bool := if a.1 = b.1 ∧ a.1 ≠ 0 then agO o (cVal a b) else false
def notB : List Bool → Bool
  | [] => false
  | b :: _ => !b
/-- Does it hold of the row? -/
def hd : Pd → List Val → Bool
  | ⟨k, c, o, d, v, l⟩, r =>
    if k = 1 then ag (colR r c) o v
    else if k = 2 then ag (colR r c) o (colR r d)
    else if k = 3 then decide ((colR r c).1 = 0)
    else if k = 4 then (l.map fun q => hd q r).all id
    else if k = 5 then (l.map fun q => hd q r).any id
    else if k = 6 then notB (l.map fun q => hd q r)
    else false
theorem hd_eq (p : Pd) (r : List Val) : hd p r = if p.k = 1 then ag (colR r p.c) p.o p.v else if p.k = 2 then ag (colR r p.c) p.o (colR r p.d) else if p.k = 3 then decide ((colR r p.c).1 = 0) else if p.k = 4 then (p.l.map fun q => hd q r).all id else if p.k = 5 then (p.l.map fun q => hd q r).any id else if p.k = 6 then notB (p.l.map fun q => hd q r) else false := by
  obtain ⟨k, c, o, d, v, l⟩ := p
  rw [hd]
/-- The columns that it asks, its parts aside; the parts that it asks. -/
def askP (p : Pd) : List Int := if p.k = 1 ∨ p.k = 3 then [p.c] else if p.k = 2 then [p.c, p.d] else []
def ptsP (p : Pd) : List Pd := if p.k = 4 ∨ p.k = 5 then p.l else if p.k = 6 then p.l.take 1 else []
/-- All columns that it asks, as they come. -/
def csP : Pd → List Int
  | ⟨k, c, o, d, v, l⟩ =>
    if k = 1 ∨ k = 3 then [c] else if k = 2 then [c, d]
    else if k = 4 ∨ k = 5 then (l.map fun q => csP q).flatten
    else if k = 6 then ((l.map fun q => csP q).take 1).flatten
    else []
theorem csP_eq (p : Pd) : csP p = askP p ++ ((ptsP p).map csP).flatten := by
  obtain ⟨k, c, o, d, v, l⟩ := p
  rw [csP]
  unfold askP ptsP
  by_cases h1 : k = 1 ∨ k = 3
  · have h4 : ¬ (k = 4 ∨ k = 5) := by omega
    have h6 : ¬ k = 6 := by omega
    simp [h1, h4, h6]
  by_cases h2 : k = 2
  · subst h2; simp
  by_cases h4 : k = 4 ∨ k = 5
  · simp [h1, h2, h4]
  by_cases h6 : k = 6
  · subst h6; simp [List.map_take]
  · simp [h1, h2, h4, h6]
/-- A column in the place of another one; one that is none stays. -/
def mpC (cols : List Int) (c : Int) : Int := if 0 ≤ c then cols.getD c.toNat c else c
/-- A predicate by other columns. -/
def mpP (cols : List Int) : Pd → Pd
  | ⟨k, c, o, d, v, l⟩ =>
    if k = 1 then ⟨1, mpC cols c, o, 0, v, []⟩
    else if k = 2 then ⟨2, mpC cols c, o, mpC cols d, nul, []⟩
    else if k = 3 then ⟨3, mpC cols c, 0, 0, nul, []⟩
    else if k = 4 ∨ k = 5 ∨ k = 6 then ⟨k, 0, 0, 0, nul, l.map fun q => mpP cols q⟩
    else ⟨k, 0, 0, 0, nul, []⟩
theorem mpP_eq (cols : List Int) (p : Pd) : mpP cols p = if p.k = 1 then ⟨1, mpC cols p.c, p.o, 0, p.v, []⟩ else if p.k = 2 then ⟨2, mpC cols p.c, p.o, mpC cols p.d, nul, []⟩ else if p.k = 3 then ⟨3, mpC cols p.c, 0, 0, nul, []⟩ else if p.k = 4 ∨ p.k = 5 ∨ p.k = 6 then ⟨p.k, 0, 0, 0, nul, p.l.map fun q => mpP cols q⟩ else ⟨p.k, 0, 0, 0, nul, []⟩ := by
  obtain ⟨k, c, o, d, v, l⟩ := p
  rw [mpP]
/-- A predicate that is made for columns' kinds: no deeper than that. -/
def LeafP (ks : List Int) (p : Pd) : Prop :=
  (∃ (c : Nat) (o : Int) (v : Val) (hc : c < ks.length), 1 ≤ o ∧ o ≤ 6 ∧ v.1 = ks[c] ∧ v.1 ≠ 0 ∧ p = ⟨1, c, o, 0, v, []⟩) ∨
  (∃ (a b : Nat) (o : Int) (ha : a < ks.length) (hb : b < ks.length), 1 ≤ o ∧ o ≤ 6 ∧ ks[a] = ks[b] ∧ p = ⟨2, a, o, b, nul, []⟩) ∨
  ∃ c : Nat, c < ks.length ∧ p = ⟨3, c, 0, 0, nul, []⟩
def MkP (ok : Val → Prop) (ks : List Int) : Nat → Pd → Prop
  | 0, p => LeafP ks p ∧ (p.k = 1 → ok p.v)
  | n + 1, p => (LeafP ks p ∧ (p.k = 1 → ok p.v)) ∨ (∃ q, p = ⟨6, 0, 0, 0, nul, [q]⟩ ∧ MkP ok ks n q) ∨ ∃ k l, p = ⟨k, 0, 0, 0, nul, l⟩ ∧ (k = 4 ∨ k = 5) ∧ 2 ≤ l.length ∧ l.length ≤ 3 ∧ ∀ q ∈ l, MkP ok ks n q
theorem MkP.leaf {ok : Val → Prop} {ks : List Int} {n : Nat} {p : Pd} (h : LeafP ks p) (h' : p.k = 1 → ok p.v) : MkP ok ks n p := by
  cases n with
  | zero => exact ⟨h, h'⟩
  | succ n => exact .inl ⟨h, h'⟩
/-- It asks columns that there are alone. -/
theorem MkP.cols {ok : Val → Prop} {ks : List Int} : ∀ {n : Nat} {p : Pd}, MkP ok ks n p → ∀ c ∈ csP p, 0 ≤ c ∧ c < (ks.length : Int) := by
  have leaf : ∀ p, LeafP ks p → ∀ c ∈ csP p, 0 ≤ c ∧ c < (ks.length : Int) := by
    intro p h c hc
    rcases h with ⟨i, o, v, hi, _, _, _, _, rfl⟩ | ⟨i, j, o, hi, hj, _, _, _, rfl⟩ | ⟨i, hi, rfl⟩
    · rw [csP] at hc; simp at hc; omega
    · rw [csP] at hc; simp at hc; omega
    · rw [csP] at hc; simp at hc; omega
  intro n
  induction n with
  | zero => intro p h; exact leaf p h.1
  | succ n ih =>
    intro p h c hc
    rcases h with h | ⟨q, rfl, hq⟩ | ⟨k, l, rfl, hk, _, _, hl⟩
    · exact leaf p h.1 c hc
    · rw [csP] at hc; simp at hc; exact ih hq c hc
    · rw [csP, if_neg (by omega), if_neg (by omega), if_pos hk] at hc
      simp only [List.mem_flatten, List.mem_map] at hc
      obtain ⟨_, ⟨q, hq, rfl⟩, hc⟩ := hc
      exact ih (hl q hq) c hc
theorem colR_map {cols : List Int} {r : List Val} {c : Int} (h0 : 0 ≤ c) (h1 : c < (cols.length : Int)) : colR r (mpC cols c) = colR (cols.map (colR r)) c := by
  have hl : c.toNat < cols.length := by omega
  unfold mpC
  rw [if_pos h0]
  show _ = (if 0 ≤ c then _ else _)
  rw [if_pos h0, List.getD_eq_getElem?_getD, List.getD_eq_getElem?_getD, List.getElem?_map, List.getElem?_eq_getElem hl]
  rfl
/-- A predicate by other columns holds of a row just where it holds of those columns picked. -/
theorem hd_map (cols : List Int) (r : List Val) : ∀ p : Pd, (∀ c ∈ csP p, 0 ≤ c ∧ c < (cols.length : Int)) → hd (mpP cols p) r = hd p (cols.map (colR r)) := by
  intro p
  induction p using Pd.ind with
  | h k c o d v l ih =>
  intro hc
  rw [mpP]
  by_cases h1 : k = 1
  · subst h1
    have := hc c (by rw [csP]; simp)
    rw [if_pos rfl, hd, hd, if_pos rfl, if_pos rfl, colR_map this.1 this.2]
  by_cases h2 : k = 2
  · subst h2
    have a1 := hc c (by rw [csP]; simp)
    have a2 := hc d (by rw [csP]; simp)
    rw [if_neg (by omega), if_pos rfl, hd, hd, if_neg (by omega), if_pos rfl, if_neg (by omega), if_pos rfl, colR_map a1.1 a1.2, colR_map a2.1 a2.2]
  by_cases h3 : k = 3
  · subst h3
    have := hc c (by rw [csP]; simp)
    rw [if_neg (by omega), if_neg (by omega), if_pos rfl, hd, hd, if_neg (by omega), if_neg (by omega), if_pos rfl, if_neg (by omega), if_neg (by omega), if_pos rfl, colR_map this.1 this.2]
  by_cases h45 : k = 4 ∨ k = 5
  · have hq : l.map (fun q => hd (mpP cols q) r) = l.map fun q => hd q (cols.map (colR r)) := by
      apply List.map_congr_left
      intro q hq
      refine ih q hq fun x hx => hc x ?_
      rw [csP, if_neg (by omega), if_neg h2, if_pos h45]
      exact List.mem_flatten.2 ⟨_, List.mem_map.2 ⟨q, hq, rfl⟩, hx⟩
    rw [if_neg h1, if_neg h2, if_neg h3, if_pos (by omega), hd, hd, List.map_map, show ((fun q => hd q r) ∘ fun q => mpP cols q) = fun q => hd (mpP cols q) r from rfl, hq]
    simp only [if_neg h1, if_neg h2, if_neg h3]
  by_cases h6 : k = 6
  · subst h6
    rw [if_neg (by omega), if_neg (by omega), if_neg (by omega), if_pos (by omega), hd, hd]
    rw [if_neg (by omega), if_neg (by omega), if_neg (by omega), if_neg (by omega), if_neg (by omega), if_pos rfl, if_neg (by omega), if_neg (by omega), if_neg (by omega), if_neg (by omega), if_neg (by omega), if_pos rfl]
    cases l with
    | nil => rfl
    | cons q l =>
      have := ih q (by simp) fun x hx => hc x (by rw [csP]; simp; exact hx)
      simp only [List.map_cons, notB, this]
  · rw [if_neg h1, if_neg h2, if_neg h3, if_neg (by omega), hd, hd]
    simp [h1, h2, h3, h6, show ¬ k = 4 by omega, show ¬ k = 5 by omega]
/-- The columns that it asks then. -/
theorem csP_map (cols : List Int) : ∀ p : Pd, csP (mpP cols p) = (csP p).map (mpC cols) := by
  intro p
  induction p using Pd.ind with
  | h k c o d v l ih =>
  have hq : (l.map fun q => csP (mpP cols q)) = l.map fun q => (csP q).map (mpC cols) := List.map_congr_left fun q hq => ih q hq
  rw [mpP, csP]
  by_cases h1 : k = 1
  · subst h1; simp [csP]
  by_cases h2 : k = 2
  · subst h2; simp [csP]
  by_cases h3 : k = 3
  · subst h3; simp [csP]
  by_cases h45 : k = 4 ∨ k = 5
  · rw [if_neg h1, if_neg h2, if_neg h3, if_pos (by omega), csP]
    simp only [show ¬ (k = 1 ∨ k = 3) by omega, h2, h45, if_true, if_false]
    rw [List.map_map, show ((fun q => csP q) ∘ fun q => mpP cols q) = fun q => csP (mpP cols q) from rfl, hq, List.map_flatten, List.map_map]
    rfl
  by_cases h6 : k = 6
  · subst h6
    rw [if_neg (by omega), if_neg (by omega), if_neg (by omega), if_pos (by omega), csP]
    rw [if_neg (by omega), if_neg (by omega), if_neg (by omega), if_pos rfl, if_neg (by omega), if_neg (by omega), if_neg (by omega), if_pos rfl]
    rw [List.map_map, show ((fun q => csP q) ∘ fun q => mpP cols q) = fun q => csP (mpP cols q) from rfl, hq, List.map_flatten, List.map_take, List.map_map]
    rfl
  · rw [if_neg h1, if_neg h2, if_neg h3, if_neg (by omega), csP]
    simp [h1, h2, h3, h6, show ¬ k = 4 by omega, show ¬ k = 5 by omega]
theorem mpC_mem {cols : List Int} {c : Int} (h0 : 0 ≤ c) (h1 : c < (cols.length : Int)) : mpC cols c ∈ cols := by
  have hl : c.toNat < cols.length := by omega
  unfold mpC
  rw [if_pos h0, List.getD_eq_getElem?_getD, List.getElem?_eq_getElem hl]
  exact List.getElem_mem hl
end Go.Proofs.YtaccinophamgmaaDoor
/- Entries and z-sets, plainly: rows in order, each once, with the sum of its weights. -/
namespace Go.Proofs.YtaccinophamgmaaDoor
set_option maxRecDepth 100000

abbrev Ent := List Val × Int
/-- A row's weights together. -/
def wt (r : List Val) : List Ent → Int
  | [] => 0
  | e :: l => (if e.1 = r then e.2 else 0) + wt r l
/-- One more entry into a list in order. -/
def ins (r : List Val) (k : Int) : List Ent → List Ent
  | [] => [(r, k)]
  | e :: z => if cR e.1 r < 0 then e :: ins r k z else if cR e.1 r = 0 then (e.1, e.2 + k) :: z else (r, k) :: e :: z
def gat (l : List Ent) : List Ent := l.foldl (fun z e => ins e.1 e.2 z) []
def SortedZ (z : List Ent) : Prop := z.Pairwise fun a b => cR a.1 b.1 < 0
theorem cR_lt_trans {a b c : List Val} (h : cR a b < 0) (g : cR b c < 0) : cR a c < 0 := by
  have h1 := cR_trans a b c (by omega) (by omega)
  rcases Int.lt_or_eq_of_le h1 with h2 | h2
  · exact h2
  · have e := (cR_zero a c).1 h2
    subst e
    have := cR_anti a b
    omega
theorem cR_pos {a b : List Val} : 0 < cR a b ↔ cR b a < 0 := by have := cR_anti a b; omega
theorem mem_ins {r : List Val} {k : Int} {e : Ent} : ∀ {z : List Ent}, e ∈ ins r k z → e.1 = r ∨ ∃ e' ∈ z, e'.1 = e.1
  | [], h => by simp [ins] at h; exact .inl (by rw [h])
  | x :: z, h => by
    unfold ins at h
    split at h
    · rcases List.mem_cons.1 h with rfl | h
      · exact .inr ⟨e, by simp, rfl⟩
      · rcases mem_ins h with h | ⟨e', h1, h2⟩
        · exact .inl h
        · exact .inr ⟨e', by simp [h1], h2⟩
    · split at h
      · rcases List.mem_cons.1 h with rfl | h
        · exact .inr ⟨x, by simp, rfl⟩
        · exact .inr ⟨e, by simp [h], rfl⟩
      · rcases List.mem_cons.1 h with rfl | h
        · exact .inl rfl
        · exact .inr ⟨e, h, rfl⟩
theorem ins_sorted {r : List Val} {k : Int} : ∀ {z : List Ent}, SortedZ z → SortedZ (ins r k z)
  | [], _ => by simp [ins, SortedZ]
  | x :: z, h => by
    obtain ⟨h1, h2⟩ := List.pairwise_cons.1 h
    unfold ins
    split
    · rename_i hlt
      refine List.pairwise_cons.2 ⟨fun e he => ?_, ins_sorted h2⟩
      rcases mem_ins he with h' | ⟨e', g1, g2⟩
      · rw [h']; exact hlt
      · rw [← g2]; exact h1 e' g1
    · split
      · exact List.pairwise_cons.2 ⟨h1, h2⟩
      · rename_i n1 n2
        have hlt : cR r x.1 < 0 := by have := cR_anti x.1 r; omega
        refine List.pairwise_cons.2 ⟨fun e he => ?_, h⟩
        rcases List.mem_cons.1 he with rfl | he
        · exact hlt
        · exact cR_lt_trans hlt (h1 e he)
theorem wt_ins {r : List Val} {k : Int} (s : List Val) : ∀ z : List Ent, wt s (ins r k z) = wt s z + (if r = s then k else 0)
  | [] => by simp [ins, wt]
  | x :: z => by
    unfold ins
    split
    · simp only [wt]; rw [wt_ins s z]; omega
    · split
      · rename_i h0
        have e := (cR_zero x.1 r).1 h0
        simp only [wt]
        by_cases h : x.1 = s
        · rw [if_pos h, if_pos h, if_pos (e ▸ h)]; omega
        · rw [if_neg h, if_neg h, if_neg (e ▸ h)]; omega
      · simp only [wt]; omega
theorem foldl_ins (s : List Val) : ∀ (l z : List Ent), SortedZ z → SortedZ (l.foldl (fun z e => ins e.1 e.2 z) z) ∧ wt s (l.foldl (fun z e => ins e.1 e.2 z) z) = wt s z + wt s l
  | [], z, h => ⟨h, by simp [wt]⟩
  | e :: l, z, h => by
    have := foldl_ins s l (ins e.1 e.2 z) (ins_sorted h)
    refine ⟨this.1, ?_⟩
    rw [List.foldl_cons, this.2, wt_ins]; simp only [wt]; omega
theorem gat_sorted (l : List Ent) : SortedZ (gat l) := (foldl_ins [] l [] List.Pairwise.nil).1
theorem wt_gat (s : List Val) (l : List Ent) : wt s (gat l) = wt s l := by
  have := (foldl_ins s l [] List.Pairwise.nil).2
  unfold gat; rw [this]; simp [wt]
theorem gat_snoc (l : List Ent) (e : Ent) : gat (l ++ [e]) = ins e.1 e.2 (gat l) := by unfold gat; rw [List.foldl_append]; rfl
/-- In order: a row that is less than the first is none. -/
theorem wt_less {r : List Val} : ∀ {z : List Ent}, (∀ e ∈ z, cR r e.1 < 0) → wt r z = 0
  | [], _ => rfl
  | e :: z, h => by
    have h0 := h e (by simp)
    have hne : e.1 ≠ r := fun h' => by rw [h', cR_self] at h0; omega
    simp only [wt]; rw [if_neg hne, wt_less (fun x hx => h x (by simp [hx]))]; rfl
theorem wt_head {e : Ent} {z : List Ent} (h : SortedZ (e :: z)) : wt e.1 (e :: z) = e.2 := by
  simp only [wt, if_true]; rw [wt_less (List.pairwise_cons.1 h).1]; omega
/-- A z-set is what its rows' weights say. -/
theorem z_uniq : ∀ {y z : List Ent}, SortedZ y → SortedZ z → (∀ e ∈ y, e.2 ≠ 0) → (∀ e ∈ z, e.2 ≠ 0) → (∀ r, wt r y = wt r z) → y = z
  | [], [], _, _, _, _, _ => rfl
  | [], e :: z, _, hz, _, nz, h => by
    have := h e.1
    rw [wt_head hz] at this
    exact absurd this.symm (nz e (by simp))
  | e :: y, [], hy, _, ny, _, h => by
    have := h e.1
    rw [wt_head hy] at this
    exact absurd this (ny e (by simp))
  | e :: y, f :: z, hy, hz, ny, nz, h => by
    obtain ⟨y1, y2⟩ := List.pairwise_cons.1 hy
    obtain ⟨z1, z2⟩ := List.pairwise_cons.1 hz
    have hef : e.1 = f.1 := by
      have sq := cR_sq e.1 f.1
      rcases Int.lt_trichotomy (cR e.1 f.1) 0 with hlt | h0 | hgt
      · have := h e.1
        rw [wt_head hy, wt_less (r := e.1) (z := f :: z) (fun x hx => by
          rcases List.mem_cons.1 hx with rfl | hx
          · exact hlt
          · exact cR_lt_trans hlt (z1 x hx))] at this
        exact absurd this (ny e (by simp))
      · exact (cR_zero _ _).1 h0
      · have hlt := cR_pos.1 hgt
        have := h f.1
        rw [wt_head hz, wt_less (r := f.1) (z := e :: y) (fun x hx => by
          rcases List.mem_cons.1 hx with rfl | hx
          · exact hlt
          · exact cR_lt_trans hlt (y1 x hx))] at this
        exact absurd this.symm (nz f (by simp))
    have h2 : e.2 = f.2 := by
      have := h e.1
      rw [wt_head hy, hef, wt_head hz] at this
      exact this
    have ee : e = f := Prod.ext hef h2
    subst ee
    rw [z_uniq y2 z2 (fun x hx => ny x (by simp [hx])) (fun x hx => nz x (by simp [hx])) (fun r => by
      have := h r
      simp only [wt] at this
      omega)]
/-- A number is an int64's; all are; those that are not 0. -/
def inI (n : Int) : Bool := decide (-9223372036854775808 ≤ n) && decide (n ≤ 9223372036854775807)
def fitsZ (z : List Ent) : Bool := z.all fun e => inI e.2
def nzZ (z : List Ent) : List Ent := z.filter fun e => e.2 != 0
/-- Entries as a z-set; may it be? -/
def okZ (l : List Ent) : Bool := fitsZ (gat l)
def mkZ (l : List Ent) : List Ent := if okZ l then nzZ (gat l) else []
theorem nzZ_sorted {z : List Ent} (h : SortedZ z) : SortedZ (nzZ z) := List.Pairwise.sublist List.filter_sublist h
theorem nzZ_nz {z : List Ent} : ∀ e ∈ nzZ z, e.2 ≠ 0 := fun e he => by simpa using (List.mem_filter.1 he).2
theorem wt_nzZ (r : List Val) : ∀ z : List Ent, wt r (nzZ z) = wt r z
  | [] => rfl
  | e :: z => by
    have ih := wt_nzZ r z
    unfold nzZ at ih ⊢
    by_cases h : e.2 = 0
    · rw [List.filter_cons_of_neg (by simp [h])]; simp only [wt]; rw [ih, h]; split <;> omega
    · rw [List.filter_cons_of_pos (by simp [h])]; simp only [wt]; rw [ih]
/-- A z-set: in order, no weight 0. -/
def IsZ (z : List Ent) : Prop := SortedZ z ∧ ∀ e ∈ z, e.2 ≠ 0
theorem mkZ_isZ (l : List Ent) : IsZ (mkZ l) := by
  unfold mkZ
  split
  · exact ⟨nzZ_sorted (gat_sorted l), nzZ_nz⟩
  · exact ⟨List.Pairwise.nil, fun e h => by cases h⟩
theorem wt_mkZ {l : List Ent} (h : okZ l = true) (r : List Val) : wt r (mkZ l) = wt r l := by
  unfold mkZ; rw [if_pos h, wt_nzZ, wt_gat]
theorem mkZ_of {l z : List Ent} (h : okZ l = true) (hz : IsZ z) (hw : ∀ r, wt r z = wt r l) : mkZ l = z :=
  z_uniq (mkZ_isZ l).1 hz.1 (mkZ_isZ l).2 hz.2 (fun r => by rw [wt_mkZ h, hw])
theorem wt_mem {z : List Ent} (h : SortedZ z) : ∀ {e : Ent}, e ∈ z → wt e.1 z = e.2 := by
  induction z with
  | nil => intro e he; cases he
  | cons x z ih =>
    intro e he
    obtain ⟨h1, h2⟩ := List.pairwise_cons.1 h
    rcases List.mem_cons.1 he with rfl | he
    · exact wt_head h
    · have hne : x.1 ≠ e.1 := fun h' => by have := h1 e he; rw [h', cR_self] at this; omega
      simp only [wt]; rw [if_neg hne, ih h2 he]; omega
/-- May it be: each row's sum is an int64's. -/
theorem mem_of_wt {r : List Val} : ∀ {z : List Ent}, wt r z ≠ 0 → ∃ e ∈ z, e.1 = r
  | [], h => absurd rfl h
  | e :: z, h => by
    by_cases hr : e.1 = r
    · exact ⟨e, by simp, hr⟩
    · simp only [wt] at h; rw [if_neg hr, Int.zero_add] at h
      obtain ⟨x, hx, hx'⟩ := mem_of_wt h
      exact ⟨x, by simp [hx], hx'⟩
theorem okZ_iff (l : List Ent) : okZ l = true ↔ ∀ r, inI (wt r l) = true := by
  unfold okZ fitsZ
  rw [List.all_eq_true]
  constructor
  · intro h r
    by_cases h0 : wt r l = 0
    · rw [h0]; rfl
    · rw [← wt_gat] at h0 ⊢
      obtain ⟨e, he, rfl⟩ := mem_of_wt h0
      rw [wt_mem (gat_sorted l) he]; exact h e he
  · intro h e he
    have := h e.1
    rw [← wt_gat, wt_mem (gat_sorted l) he] at this
    exact this
theorem wt_append (r : List Val) : ∀ (l m : List Ent), wt r (l ++ m) = wt r l + wt r m
  | [], m => by simp [wt]
  | e :: l, m => by simp only [List.cons_append, wt]; rw [wt_append r l m]; omega
end Go.Proofs.YtaccinophamgmaaDoor
/- Two z-sets row by row, plainly; what a list in order comes to. -/
namespace Go.Proofs.YtaccinophamgmaaDoor
set_option maxRecDepth 100000

def fE (f : Int → Int) (e : Ent) : Ent := (e.1, f e.2)
/-- One row of a list, and what comes of those behind it. -/
def mrgI (f : Int → Int) (x : Ent) (k : List Ent → List Ent) : List Ent → List Ent
  | [] => x :: k []
  | y :: m => if cR x.1 y.1 < 0 then x :: k (y :: m) else if cR x.1 y.1 = 0 then (x.1, x.2 + f y.2) :: k m else (y.1, f y.2) :: mrgI f x k m
/-- Two lists in order as one, each row of both once. -/
def mrg (f : Int → Int) : List Ent → List Ent → List Ent
  | [], m => m.map (fE f)
  | x :: l, m => mrgI f x (mrg f l) m
theorem mrg_nil (f : Int → Int) (m : List Ent) : mrg f [] m = m.map (fE f) := rfl
theorem mrg_nil' (f : Int → Int) : ∀ l : List Ent, mrg f l [] = l
  | [] => rfl
  | x :: l => by show x :: mrg f l [] = x :: l; rw [mrg_nil' f l]
theorem mrg_cons (f : Int → Int) (x y : Ent) (l m : List Ent) : mrg f (x :: l) (y :: m) = if cR x.1 y.1 < 0 then x :: mrg f l (y :: m) else if cR x.1 y.1 = 0 then (x.1, x.2 + f y.2) :: mrg f l m else (y.1, f y.2) :: mrg f (x :: l) m := rfl
theorem wt_mrg (f : Int → Int) (r : List Val) : ∀ (k : Nat) (l m : List Ent), l.length + m.length ≤ k → wt r (mrg f l m) = wt r l + wt r (m.map (fE f))
  | _, [], m, _ => by rw [mrg_nil]; simp [wt]
  | _, x :: l, [], _ => by rw [mrg_nil']; simp [wt]
  | 0, x :: l, y :: m, h => by simp at h
  | k + 1, x :: l, y :: m, h => by
    simp only [List.length_cons] at h
    rw [mrg_cons]
    split
    · have := wt_mrg f r k l (y :: m) (by simp; omega)
      simp only [wt, List.map_cons] at this ⊢; rw [this]; omega
    · split
      · rename_i _ h0
        have e := (cR_zero _ _).1 h0
        have := wt_mrg f r k l m (by omega)
        simp only [wt, List.map_cons, fE] at this ⊢; rw [this, ← e]; split <;> omega
      · have := wt_mrg f r k (x :: l) m (by simp; omega)
        simp only [wt, List.map_cons, fE] at this ⊢; rw [this]; omega
theorem mem_mrg (f : Int → Int) : ∀ (k : Nat) (l m : List Ent), l.length + m.length ≤ k → ∀ e ∈ mrg f l m, (∃ x ∈ l, x.1 = e.1) ∨ ∃ y ∈ m, y.1 = e.1
  | _, [], m, _, e, h => by
    rw [mrg_nil] at h
    obtain ⟨y, hy, rfl⟩ := List.mem_map.1 h
    exact .inr ⟨y, hy, rfl⟩
  | _, x :: l, [], _, e, h => by rw [mrg_nil'] at h; exact .inl ⟨e, h, rfl⟩
  | 0, x :: l, y :: m, h, _, _ => by simp at h
  | k + 1, x :: l, y :: m, h, e, he => by
    simp only [List.length_cons] at h
    rw [mrg_cons] at he
    have pl : ∀ {e : Ent}, (∃ z ∈ l, z.1 = e.1) → ∃ z ∈ x :: l, z.1 = e.1 := fun ⟨z, h1, h2⟩ => ⟨z, by simp [h1], h2⟩
    have pm : ∀ {e : Ent}, (∃ z ∈ m, z.1 = e.1) → ∃ z ∈ y :: m, z.1 = e.1 := fun ⟨z, h1, h2⟩ => ⟨z, by simp [h1], h2⟩
    split at he
    · rcases List.mem_cons.1 he with rfl | he
      · exact .inl ⟨e, by simp, rfl⟩
      · rcases mem_mrg f k l (y :: m) (by simp; omega) e he with h | h
        · exact .inl (pl h)
        · exact .inr h
    · split at he
      · rcases List.mem_cons.1 he with rfl | he
        · exact .inl ⟨x, by simp, rfl⟩
        · rcases mem_mrg f k l m (by omega) e he with h | h
          · exact .inl (pl h)
          · exact .inr (pm h)
      · rcases List.mem_cons.1 he with rfl | he
        · exact .inr ⟨y, by simp, rfl⟩
        · rcases mem_mrg f k (x :: l) m (by simp; omega) e he with h | h
          · exact .inl h
          · exact .inr (pm h)
theorem mrg_sorted (f : Int → Int) : ∀ (k : Nat) (l m : List Ent), l.length + m.length ≤ k → SortedZ l → SortedZ m → SortedZ (mrg f l m)
  | _, [], m, _, _, hm => by rw [mrg_nil]; exact List.pairwise_map.2 hm
  | _, x :: l, [], _, hl, _ => by rw [mrg_nil']; exact hl
  | 0, x :: l, y :: m, h, _, _ => by simp at h
  | k + 1, x :: l, y :: m, h, hl, hm => by
    simp only [List.length_cons] at h
    obtain ⟨l1, l2⟩ := List.pairwise_cons.1 hl
    obtain ⟨m1, m2⟩ := List.pairwise_cons.1 hm
    rw [mrg_cons]
    split
    · rename_i hlt
      refine List.pairwise_cons.2 ⟨fun e he => ?_, mrg_sorted f k l (y :: m) (by simp; omega) l2 hm⟩
      rcases mem_mrg f k l (y :: m) (by simp; omega) e he with ⟨z, h1, h2⟩ | ⟨z, h1, h2⟩
      · rw [← h2]; exact l1 z h1
      · rw [← h2]
        rcases List.mem_cons.1 h1 with rfl | h1
        · exact hlt
        · exact cR_lt_trans hlt (m1 z h1)
    · split
      · rename_i _ h0
        have e' := (cR_zero _ _).1 h0
        refine List.pairwise_cons.2 ⟨fun e he => ?_, mrg_sorted f k l m (by omega) l2 m2⟩
        rcases mem_mrg f k l m (by omega) e he with ⟨z, h1, h2⟩ | ⟨z, h1, h2⟩
        · rw [← h2]; exact l1 z h1
        · rw [← h2]; show cR x.1 z.1 < 0; rw [e']; exact m1 z h1
      · rename_i n1 n2
        have hlt : cR y.1 x.1 < 0 := by have := cR_anti x.1 y.1; omega
        refine List.pairwise_cons.2 ⟨fun e he => ?_, mrg_sorted f k (x :: l) m (by simp; omega) hl m2⟩
        rcases mem_mrg f k (x :: l) m (by simp; omega) e he with ⟨z, h1, h2⟩ | ⟨z, h1, h2⟩
        · rw [← h2]
          rcases List.mem_cons.1 h1 with rfl | h1
          · exact hlt
          · exact cR_lt_trans hlt (l1 z h1)
        · rw [← h2]; exact m1 z h1
/-- A list in order with the same weights: whether it may be, what it comes to. -/
theorem fits_of {g l : List Ent} (hs : SortedZ g) (hw : ∀ r, wt r g = wt r l) : fitsZ g = okZ l := by
  rw [Bool.eq_iff_iff, okZ_iff]
  unfold fitsZ
  rw [List.all_eq_true]
  constructor
  · intro h r
    rw [← hw r]
    by_cases h0 : wt r g = 0
    · rw [h0]; rfl
    · obtain ⟨e, he, rfl⟩ := mem_of_wt h0
      rw [wt_mem hs he]; exact h e he
  · intro h e he
    have := h e.1
    rw [← hw e.1, wt_mem hs he] at this
    exact this
theorem mk_of {g l : List Ent} (hs : SortedZ g) (hw : ∀ r, wt r g = wt r l) (hf : fitsZ g = true) : mkZ l = nzZ g :=
  mkZ_of (by rw [← fits_of hs hw]; exact hf) ⟨nzZ_sorted hs, nzZ_nz⟩ (fun r => by rw [wt_nzZ, hw])
theorem mk_bad {l : List Ent} (h : okZ l = false) : mkZ l = [] := by unfold mkZ; rw [h]; rfl
theorem fitsZ_append (p q : List Ent) : fitsZ (p ++ q) = (fitsZ p && fitsZ q) := by unfold fitsZ; rw [List.all_append]
theorem nzZ_append (p q : List Ent) : nzZ (p ++ q) = nzZ p ++ nzZ q := by unfold nzZ; rw [List.filter_append]
end Go.Proofs.YtaccinophamgmaaDoor
